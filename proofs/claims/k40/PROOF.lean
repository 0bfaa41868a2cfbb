import PyProof.Rows.All
import Wide.All
import OpenK.AllK
import Wide.FinOn
import KE.KExcIs
import HandS.ForMost
import HandS.Evl
import HandS.IsInst
import HandS.ExcInit
import HandS.ExcIs
import HandS.DeepEq
import HandS.OwnEq
import HandS.SetFor
import KE.GoesMore
import PyProof.Draws
import HandS.Walk
import HandS.Wide
import HandS.Gcd
import KE.KStateDown
import HandS.Defaults
import HandS.Head0
import HandS.Head1
import HandS.Head2
import HandS.Head3
import HandS.HeadEnd
import HandS.HeadHook1
import HandS.HeadHook2
import PyProof.NoPylong
import HandS.Conv
import HandS.TupMul
import HandS.TupAny
import HandS.Strs
import HandS.List
import HandS.Style
import PySem.Challenge.RW_asifforever_k40_whole_model_texts
import HandS.StrMore
import HandS.WordsExc
import HandS.TryMany
import HandS.Deep
import HandS.TupLe
import HandS.NoneIn
import KE.KUnpackStar
import HandS.Text
import HandS.FStr
import HandS.TryOnly
import HandS.StrSplit
import HandS.ListItems
set_option Elab.async false
set_option linter.all false
set_option maxRecDepth 100000
set_option maxHeartbeats 4000000
set_option exponentiation.threshold 200000
namespace Law
open PySem L2
def top (i : Nat) : Stmt := PySem.Challenge.pw_asifforever_k40_whole_model_texts.main.body.getD i (.Pass ⟨0, 0, 0, 0⟩)
abbrev s_is_integer : Stmt := top 1
abbrev s_is_within : Stmt := top 2
abbrev s_is_row_below : Stmt := top 3
abbrev s_number_of_text : Stmt := top 4
abbrev s_number_behind : Stmt := top 5
abbrev s_numbers_of_text : Stmt := top 6
abbrev s_BadLine_init : Stmt := inClass (top 9) 0
abbrev s_BadModel_init : Stmt := inClass (top 10) 0
abbrev s_Model_init : Stmt := inClass (top 12) 0
abbrev s_Model_eq : Stmt := inClass (top 12) 1
abbrev s_is_table : Stmt := top 13
abbrev s_is_tie : Stmt := top 14
abbrev s_ties_at : Stmt := top 15
abbrev s_row_text : Stmt := top 17
abbrev s_model_text : Stmt := top 18
abbrev s_weights_of_line : Stmt := top 19
abbrev s_tie_of_line : Stmt := top 20
abbrev s_told_by_line : Stmt := top 21
abbrev s_read_model : Stmt := top 22
abbrev s_law_hand : Stmt := top 24
abbrev s_law_draw : Stmt := top 25
abbrev s_law_any : Stmt := top 26
abbrev s_law_begun : Stmt := top 27
abbrev s_law_text : Stmt := top 28
abbrev s_law_number : Stmt := top 29
abbrev s_law_numbers : Stmt := top 30
abbrev s_law_line : Stmt := top 31
abbrev s_law_wrong_part : Stmt := top 32
abbrev s_law_due : Stmt := top 33
abbrev s_law_read : Stmt := top 34
abbrev s_law_is_read : Stmt := top 35
abbrev s_law_bent : Stmt := top 36
abbrev s_law : Stmt := top 37
end Law
namespace Law
open PySem PySem.Spec PyProof.Rows L2
/-! ### the head's Hook: facts of K by names, and one more Bool -/
abbrev AlM : Type := He.AlD × Bool
def obsM (n : Nat) (fa : List He.Fa) (fn : List He.DefD) (ex : PySem.W.Frag → Bool) (g : Addr → Option Obj) : AlM := (He.obsD fa fn (He.frG g (He.asD g n)), ex (He.frG g (He.asD g n)))
def hookM (n : Nat) (fa : List He.Fa) (fn : List He.DefD) (ex : PySem.W.Frag → Bool) : PySem.W.Hook where
  α := AlM
  obs := fun s => obsM n fa fn ex s.heap.get?
  val := fun _ => (He.valD fn, true)
  says := fun _ h => ∃ K : PySem.W.Frag, K.In h ∧ He.SaysD fa fn K ∧ ex K = true
  of := fun _ _ e => ⟨_, He.frG_in, congrArg (fun z : AlM => z.1) e, congrArg (fun z : AlM => z.2) e⟩
  keeps := fun _ _ _ ⟨K, hK, c⟩ k => ⟨K, PySem.W.Frag.In.keeps hK k, c⟩
theorem obsM_eq {n : Nat} {fa : List He.Fa} {fn : List He.DefD} {ex : PySem.W.Frag → Bool} {g : Addr → Option Obj} {s : Shared} (h : ∀ a, g a = s.heap.get? a) : obsM n fa fn ex g = (hookM n fa fn ex).obs s := by
  have e : g = s.heap.get? := funext h
  rw [e] <;> rfl
theorem funD_fun {K : PySem.W.Frag} {x qual : Str} {st : Stmt} {f : Addr} {fd : FuncData} (F : FunD K x qual (defArgs st) (defBody st) (defScope st) [] [] f fd) : Fun K x qual st f fd := by
  obtain ⟨⟨oc, od, dV, kV, doc, pm, an, cdv, ct, osl, h1, h2, h3, h4, _⟩, kp⟩ := F
  rcases h4 with ⟨_, rfl⟩ | ⟨h, _⟩
  · exact ⟨⟨oc, od, kV, doc, pm, an, cdv, ct, osl, h1, h2, h3⟩, kp⟩
  · exact absurd rfl h
end Law
namespace Law
open PySem PySem.Spec PyProof.Rows L2
/-! ### facts of the classes, as Bools of K -/
def clsB (K : PySem.W.Frag) (C : Addr) : Bool := match K.lookup C with
  | some ⟨.type "type", _, .cls cd, sl⟩ => (match cd.mro, sl.toList with
    | .ref C' :: bm, [_, _, _, _, some (.builtin n), _] => decide (C' = C) && (decide (n = "ValueError.__new__") && (!cd.hasDel && (cd.hasDict && PySem.HandSPX.refsVE bm)))
    | _, _ => false)
  | _ => false
def optT (o : Option Bool) : Bool := match o with
  | some b => b
  | none => false
def exvB (K : PySem.W.Frag) (C : Addr) : Bool :=
  clsB K C && (He.eqO (PySem.W.findIn K (.ref C) "__setattr__") (some (some (.builtin "object.__setattr__"))) && (optT (PySem.W.subIn K (.ref C) (.type "BaseException")) && (decide (PySem.W.typeIn K (.ref C) = some (.type "type")) && (PySem.W.keepIn K (.ref C) &&
  ((PySem.W.clsIn K C).isSome && (He.eqO (PySem.W.findIn K (.ref C) "__getattribute__") (some (some (.builtin "BaseException.__getattribute__"))) && (He.eqO (PySem.W.findIn K (.ref C) "__getattr__") (some none) && (He.eqO (PySem.W.findIn K (.ref C) "__class__") (some (some (.builtin "object.__class__"))) &&
  (He.eqO (PySem.W.specialIn K (.builtin "object.__class__") "__get__") (some (some (.builtin "getset_descriptor.__get__"))) && (optT (PySem.W.takesIn K (.builtin "object.__class__")) && (optT (PySem.W.mroIn K C (.type "object")) && PySem.W.hasDictIn K C)))))))))))
def iniB (K : PySem.W.Frag) (C : Addr) : Bool := He.eqO (PySem.W.findIn K (.ref C) "__init__") (some (some (.ref (He.ma K C "__init__")))) && decide (PySem.W.typeIn K (.ref (He.ma K C "__init__")) = some (.type "function"))
def mroB (K : PySem.W.Frag) (C D : Addr) : Bool := decide ((PySem.W.clsIn K C).map (·.mro) = some [.ref C, .ref D, .type "ValueError", .type "Exception", .type "BaseException", .type "object"])
/-- an own plain class's instances are asked for their class as usual -/
def insB (K : PySem.W.Frag) (C : Addr) : Bool := He.eqO (PySem.W.findIn K (.ref C) "__class__") (some (some (.builtin "object.__class__"))) && (He.eqO (PySem.W.specialIn K (.builtin "object.__class__") "__get__") (some (some (.builtin "getset_descriptor.__get__"))) && (optT (PySem.W.takesIn K (.builtin "object.__class__")) && optT (PySem.W.mroIn K C (.type "object"))))
def kiB (K : PySem.W.Frag) (a b : Addr) (r : Bool) : Bool := decide (PySem.W.kitOne K (.ref a) (.ref b) = some r)
def exK (K : PySem.W.Frag) : Bool := insB K (He.ga K "Model") && (exvB K (He.ga K "BadModel") && (exvB K (He.ga K "BadLine") && (iniB K (He.ga K "BadModel") && (iniB K (He.ga K "BadLine") &&
  (kiB K (He.ga K "BadLine") (He.ga K "DrawError") true && (kiB K (He.ga K "BadModel") (He.ga K "DrawError") true && (decide (PySem.W.kitOne K (.ref (He.ga K "BadLine")) (.type "ValueError") = some true) && (decide (PySem.W.kitOne K (.ref (He.ga K "BadModel")) (.type "ValueError") = some true) && decide (PySem.W.kitOne K (.ref (He.ga K "Model")) (.type "str") = some false)))))))))
end Law
set_option maxHeartbeats 0
namespace Law
open PySem PySem.Spec PyProof.Rows L2
def fns : List He.DefD := [
  ⟨("is_integer", none), "is_integer", "is_integer", defArgs s_is_integer, defBody s_is_integer, defScope s_is_integer, [], []⟩,
  ⟨("is_within", none), "is_within", "is_within", defArgs s_is_within, defBody s_is_within, defScope s_is_within, [], []⟩,
  ⟨("is_row_below", none), "is_row_below", "is_row_below", defArgs s_is_row_below, defBody s_is_row_below, defScope s_is_row_below, [], []⟩,
  ⟨("number_of_text", none), "number_of_text", "number_of_text", defArgs s_number_of_text, defBody s_number_of_text, defScope s_number_of_text, [], []⟩,
  ⟨("number_behind", none), "number_behind", "number_behind", defArgs s_number_behind, defBody s_number_behind, defScope s_number_behind, [], []⟩,
  ⟨("numbers_of_text", none), "numbers_of_text", "numbers_of_text", defArgs s_numbers_of_text, defBody s_numbers_of_text, defScope s_numbers_of_text, [], []⟩,
  ⟨("BadLine", some "__init__"), "__init__", "BadLine.__init__", defArgs s_BadLine_init, defBody s_BadLine_init, defScope s_BadLine_init, [], []⟩,
  ⟨("BadModel", some "__init__"), "__init__", "BadModel.__init__", defArgs s_BadModel_init, defBody s_BadModel_init, defScope s_BadModel_init, [], []⟩,
  ⟨("Model", some "__init__"), "__init__", "Model.__init__", defArgs s_Model_init, defBody s_Model_init, defScope s_Model_init, [], []⟩,
  ⟨("Model", some "__eq__"), "__eq__", "Model.__eq__", defArgs s_Model_eq, defBody s_Model_eq, defScope s_Model_eq, [], []⟩,
  ⟨("is_table", none), "is_table", "is_table", defArgs s_is_table, defBody s_is_table, defScope s_is_table, [], []⟩,
  ⟨("is_tie", none), "is_tie", "is_tie", defArgs s_is_tie, defBody s_is_tie, defScope s_is_tie, [], []⟩,
  ⟨("ties_at", none), "ties_at", "ties_at", defArgs s_ties_at, defBody s_ties_at, defScope s_ties_at, [], []⟩,
  ⟨("row_text", none), "row_text", "row_text", defArgs s_row_text, defBody s_row_text, defScope s_row_text, [], []⟩,
  ⟨("model_text", none), "model_text", "model_text", defArgs s_model_text, defBody s_model_text, defScope s_model_text, [], []⟩,
  ⟨("weights_of_line", none), "weights_of_line", "weights_of_line", defArgs s_weights_of_line, defBody s_weights_of_line, defScope s_weights_of_line, [], []⟩,
  ⟨("tie_of_line", none), "tie_of_line", "tie_of_line", defArgs s_tie_of_line, defBody s_tie_of_line, defScope s_tie_of_line, [], []⟩,
  ⟨("told_by_line", none), "told_by_line", "told_by_line", defArgs s_told_by_line, defBody s_told_by_line, defScope s_told_by_line, [], []⟩,
  ⟨("read_model", none), "read_model", "read_model", defArgs s_read_model, defBody s_read_model, defScope s_read_model, [], []⟩,
  ⟨("_law_hand", none), "_law_hand", "_law_hand", defArgs s_law_hand, defBody s_law_hand, defScope s_law_hand, [], []⟩,
  ⟨("_law_draw", none), "_law_draw", "_law_draw", defArgs s_law_draw, defBody s_law_draw, defScope s_law_draw, [], []⟩,
  ⟨("_law_any", none), "_law_any", "_law_any", defArgs s_law_any, defBody s_law_any, defScope s_law_any, [], []⟩,
  ⟨("_law_begun", none), "_law_begun", "_law_begun", defArgs s_law_begun, defBody s_law_begun, defScope s_law_begun, [], []⟩,
  ⟨("_law_text", none), "_law_text", "_law_text", defArgs s_law_text, defBody s_law_text, defScope s_law_text, [], []⟩,
  ⟨("_law_number", none), "_law_number", "_law_number", defArgs s_law_number, defBody s_law_number, defScope s_law_number, [], []⟩,
  ⟨("_law_numbers", none), "_law_numbers", "_law_numbers", defArgs s_law_numbers, defBody s_law_numbers, defScope s_law_numbers, [], []⟩,
  ⟨("_law_line", none), "_law_line", "_law_line", defArgs s_law_line, defBody s_law_line, defScope s_law_line, [], []⟩,
  ⟨("_law_wrong_part", none), "_law_wrong_part", "_law_wrong_part", defArgs s_law_wrong_part, defBody s_law_wrong_part, defScope s_law_wrong_part, [], []⟩,
  ⟨("_law_due", none), "_law_due", "_law_due", defArgs s_law_due, defBody s_law_due, defScope s_law_due, [], []⟩,
  ⟨("_law_read", none), "_law_read", "_law_read", defArgs s_law_read, defBody s_law_read, defScope s_law_read, [], []⟩,
  ⟨("_law_is_read", none), "_law_is_read", "_law_is_read", defArgs s_law_is_read, defBody s_law_is_read, defScope s_law_is_read, [], []⟩,
  ⟨("_law_bent", none), "_law_bent", "_law_bent", defArgs s_law_bent, defBody s_law_bent, defScope s_law_bent, [], []⟩,
  ⟨("law", none), "law", "law", defArgs s_law, defBody s_law, defScope s_law, [], []⟩]
def fas : List He.Fa := [
  .glo "is_integer", .glo "is_within", .glo "is_row_below", .glo "number_of_text", .glo "number_behind", .glo "numbers_of_text", .glo "DrawError", .glo "BadLine", .glo "BadModel", .glo "Model", .glo "is_table", .glo "is_tie", .glo "ties_at", .glo "row_text", .glo "model_text", .glo "weights_of_line", .glo "tie_of_line", .glo "told_by_line", .glo "read_model", .glo "_law_hand", .glo "_law_draw", .glo "_law_any", .glo "_law_begun", .glo "_law_text", .glo "_law_number", .glo "_law_numbers", .glo "_law_line", .glo "_law_wrong_part", .glo "_law_due", .glo "_law_read", .glo "_law_is_read", .glo "_law_bent", .glo "law", .free "ValueError", .free "abs", .free "all", .free "any", .free "bool", .free "enumerate", .free "int", .free "isinstance", .free "len", .free "max", .free "range", .free "str", .free "tuple", .cls "Model", .noat "Model" "many", .noat "Model" "levels", .noat "Model" "weights", .noat "Model" "ties", .mkr "Model", .meth "Model" "__eq__", .noat "BadModel" "part", .noat "BadLine" "number", .exm "BadLine" "BadLine" true, .exm "BadModel" "BadLine" false, .exm "BadModel" "BadModel" true]
-- defs: 0 is_integer, 1 is_within, 2 is_row_below, 3 number_of_text, 4 number_behind, 5 numbers_of_text, 6 BadLine.__init__, 7 BadModel.__init__, 8 Model.__init__, 9 Model.__eq__, 10 is_table, 11 is_tie, 12 ties_at, 13 row_text, 14 model_text, 15 weights_of_line, 16 tie_of_line, 17 told_by_line, 18 read_model, 19 _law_hand, 20 _law_draw, 21 _law_any, 22 _law_begun, 23 _law_text, 24 _law_number, 25 _law_numbers, 26 _law_line, 27 _law_wrong_part, 28 _law_due, 29 _law_read, 30 _law_is_read, 31 _law_bent, 32 law
-- facts: 0 .glo "is_integer", 1 .glo "is_within", 2 .glo "is_row_below", 3 .glo "number_of_text", 4 .glo "number_behind", 5 .glo "numbers_of_text", 6 .glo "DrawError", 7 .glo "BadLine", 8 .glo "BadModel", 9 .glo "Model", 10 .glo "is_table", 11 .glo "is_tie", 12 .glo "ties_at", 13 .glo "row_text", 14 .glo "model_text", 15 .glo "weights_of_line", 16 .glo "tie_of_line", 17 .glo "told_by_line", 18 .glo "read_model", 19 .glo "_law_hand", 20 .glo "_law_draw", 21 .glo "_law_any", 22 .glo "_law_begun", 23 .glo "_law_text", 24 .glo "_law_number", 25 .glo "_law_numbers", 26 .glo "_law_line", 27 .glo "_law_wrong_part", 28 .glo "_law_due", 29 .glo "_law_read", 30 .glo "_law_is_read", 31 .glo "_law_bent", 32 .glo "law", 33 .free "ValueError", 34 .free "abs", 35 .free "all", 36 .free "any", 37 .free "bool", 38 .free "enumerate", 39 .free "int", 40 .free "isinstance", 41 .free "len", 42 .free "max", 43 .free "range", 44 .free "str", 45 .free "tuple", 46 .cls "Model", 47 .noat "Model" "many", 48 .noat "Model" "levels", 49 .noat "Model" "weights", 50 .noat "Model" "ties", 51 .mkr "Model", 52 .meth "Model" "__eq__", 53 .noat "BadModel" "part", 54 .noat "BadLine" "number", 55 .exm "BadLine" "BadLine" true, 56 .exm "BadModel" "BadLine" false, 57 .exm "BadModel" "BadModel" true
def names0 : List PySem.Str := ["is_integer", "is_within", "is_row_below", "number_of_text", "number_behind", "numbers_of_text", "DrawError", "BadLine", "BadModel", "Model", "is_table", "is_tie"]
def names1 : List PySem.Str := ["ties_at", "row_text", "model_text", "weights_of_line", "tie_of_line", "told_by_line", "read_model", "_law_hand", "_law_draw", "_law_any", "_law_begun", "_law_text"]
def names2 : List PySem.Str := ["_law_number", "_law_numbers", "_law_line", "_law_wrong_part", "_law_due", "_law_read", "_law_is_read", "_law_bent"]
def names : List PySem.Str := names0 ++ names1 ++ names2
abbrev R : PySem.W.OpenRow := PySem.W.OpenLaw.row PySem.Challenge.rw_asifforever_k40_whole_model_texts
abbrev hk : PySem.W.Hook := hookM 4 fas fns exK
def ob (s : PySem.W.SharedT) : AlM := obsM 4 fas fns exK (HandSHeadRun.getT s)
theorem ob_eq (s : PySem.W.SharedT) : ob s = hk.obs s.abs := obsM_eq (HandSHeadRun.getT_eq s)
theorem run (w : World) : HandSHeadRun.RunEq R (PySem.W.view R.prog [37]) hk ob 13000 names w := by
  intro os
  kernel_rfl
end Law
set_option maxHeartbeats 4000000
namespace Law
open PySem L2
/-- what is asked of the module's names -/
structure NmA (mg : Str → Option Value) : Prop where
  abs : mg "abs" = none
  all : mg "all" = none
  any : mg "any" = none
  bool : mg "bool" = none
  enum : mg "enumerate" = none
  int : mg "int" = none
  isi : mg "isinstance" = none
  len : mg "len" = none
  max : mg "max" = none
  range : mg "range" = none
  str : mg "str" = none
  tuple : mg "tuple" = none
end Law
namespace Law
open PySem L2
theorem sne {x y : Str} (h : ¬ x = y) : ¬ ((Sum.inr x : Key) = Sum.inr y) := fun z => h (Sum.inr.inj z)
theorem n01 : ¬ ((Sum.inr ("cells" : Str) : Key) = Sum.inr ("at" : Str)) := sne (by decide +kernel)
theorem n02 : ¬ ((Sum.inr ("cells" : Str) : Key) = Sum.inr ("left" : Str)) := sne (by decide +kernel)
theorem n03 : ¬ ((Sum.inr ("cells" : Str) : Key) = Sum.inr ("seed" : Str)) := sne (by decide +kernel)
theorem n04 : ¬ ((Sum.inr ("cells" : Str) : Key) = Sum.inr ("turn" : Str)) := sne (by decide +kernel)
theorem n12 : ¬ ((Sum.inr ("at" : Str) : Key) = Sum.inr ("left" : Str)) := sne (by decide +kernel)
theorem n13 : ¬ ((Sum.inr ("at" : Str) : Key) = Sum.inr ("seed" : Str)) := sne (by decide +kernel)
theorem n14 : ¬ ((Sum.inr ("at" : Str) : Key) = Sum.inr ("turn" : Str)) := sne (by decide +kernel)
theorem n23 : ¬ ((Sum.inr ("left" : Str) : Key) = Sum.inr ("seed" : Str)) := sne (by decide +kernel)
theorem n24 : ¬ ((Sum.inr ("left" : Str) : Key) = Sum.inr ("turn" : Str)) := sne (by decide +kernel)
theorem n34 : ¬ ((Sum.inr ("seed" : Str) : Key) = Sum.inr ("turn" : Str)) := sne (by decide +kernel)
/-- the hand's dict: its cells' list, and its four ints -/
def hdK (ca : Addr) (a g s t : Int) : List (Key × V) :=
  [(Sum.inr ("cells" : Str), .ref ca), (Sum.inr ("at" : Str), .int a), (Sum.inr ("left" : Str), .int g), (Sum.inr ("seed" : Str), .int s), (Sum.inr ("turn" : Str), .int t)]
section
variable (ca : Addr) (a g s t x : Int)
theorem get_cells : valV (hdK ca a g s t) (Sum.inr ("cells" : Str)) = some (.ref ca) := valV_pos rfl
theorem get_at : valV (hdK ca a g s t) (Sum.inr ("at" : Str)) = some (.int a) := (valV_neg n01).trans (valV_pos rfl)
theorem get_great : valV (hdK ca a g s t) (Sum.inr ("left" : Str)) = some (.int g) := (valV_neg n02).trans ((valV_neg n12).trans (valV_pos rfl))
theorem get_seed : valV (hdK ca a g s t) (Sum.inr ("seed" : Str)) = some (.int s) := (valV_neg n03).trans ((valV_neg n13).trans ((valV_neg n23).trans (valV_pos rfl)))
theorem get_turn : valV (hdK ca a g s t) (Sum.inr ("turn" : Str)) = some (.int t) := (valV_neg n04).trans ((valV_neg n14).trans ((valV_neg n24).trans ((valV_neg n34).trans (valV_pos rfl))))
theorem put_of {kvs : List (Key × V)} {k : Key} {v w : V} (h : valV kvs k = some w) : putK kvs k v = kvs.map (fun kv => if kv.1 = k then (kv.1, v) else kv) := by
  unfold putK
  rw [if_pos (by rw [valV_any, h]; rfl)]
theorem put_at : putK (hdK ca a g s t) (Sum.inr ("at" : Str)) (.int x) = hdK ca x g s t := by
  rw [put_of (get_at ca a g s t)]
  simp only [hdK, List.map_cons, List.map_nil, n01, if_neg, if_false, if_true, n12, n13, n14, Ne.symm n12, Ne.symm n13, Ne.symm n14, not_false_eq_true]
theorem put_great : putK (hdK ca a g s t) (Sum.inr ("left" : Str)) (.int x) = hdK ca a x s t := by
  rw [put_of (get_great ca a g s t)]
  simp only [hdK, List.map_cons, List.map_nil, if_neg, if_false, if_true, n02, n12, Ne.symm n23, Ne.symm n24, not_false_eq_true]
theorem put_seed : putK (hdK ca a g s t) (Sum.inr ("seed" : Str)) (.int x) = hdK ca a g x t := by
  rw [put_of (get_seed ca a g s t)]
  simp only [hdK, List.map_cons, List.map_nil, if_neg, if_false, if_true, n03, n13, n23, Ne.symm n34, not_false_eq_true]
theorem put_turn : putK (hdK ca a g s t) (Sum.inr ("turn" : Str)) (.int x) = hdK ca a g s x := by
  rw [put_of (get_turn ca a g s t)]
  simp only [hdK, List.map_cons, List.map_nil, if_neg, if_false, if_true, n04, n14, n24, n34, not_false_eq_true]
end
section
variable {H : Hp} {p ca : Addr} {a g s t : Int} (h : H p = some (.dK (hdK ca a g s t)))
include h
theorem gt_cells : DGet H p (.str "cells") (some (.ref ca)) := by
  have q := DGet.k (k := Sum.inr ("cells" : Str)) h
  rw [get_cells] at q
  exact q
theorem gt_at : DGet H p (.str "at") (some (.int a)) := by
  have q := DGet.k (k := Sum.inr ("at" : Str)) h
  rw [get_at] at q
  exact q
theorem gt_great : DGet H p (.str "left") (some (.int g)) := by
  have q := DGet.k (k := Sum.inr ("left" : Str)) h
  rw [get_great] at q
  exact q
theorem gt_seed : DGet H p (.str "seed") (some (.int s)) := by
  have q := DGet.k (k := Sum.inr ("seed" : Str)) h
  rw [get_seed] at q
  exact q
theorem gt_turn : DGet H p (.str "turn") (some (.int t)) := by
  have q := DGet.k (k := Sum.inr ("turn" : Str)) h
  rw [get_turn] at q
  exact q
theorem pt_at (x : Int) : DPut H p (.str "at") (.int x) (upd H p (.dK (hdK ca x g s t))) := by
  have q := DPut.k (k := Sum.inr ("at" : Str)) (v := .int x) h (show 5 < sizeLine by decide)
  rw [put_at] at q
  exact q
theorem pt_great (x : Int) : DPut H p (.str "left") (.int x) (upd H p (.dK (hdK ca a x s t))) := by
  have q := DPut.k (k := Sum.inr ("left" : Str)) (v := .int x) h (show 5 < sizeLine by decide)
  rw [put_great] at q
  exact q
theorem pt_seed (x : Int) : DPut H p (.str "seed") (.int x) (upd H p (.dK (hdK ca a g x t))) := by
  have q := DPut.k (k := Sum.inr ("seed" : Str)) (v := .int x) h (show 5 < sizeLine by decide)
  rw [put_seed] at q
  exact q
theorem pt_turn (x : Int) : DPut H p (.str "turn") (.int x) (upd H p (.dK (hdK ca a g s x))) := by
  have q := DPut.k (k := Sum.inr ("turn" : Str)) (v := .int x) h (show 5 < sizeLine by decide)
  rw [put_turn] at q
  exact q
end
/-- a hand stands at p -/
def HandAt (H : Hp) (p : Addr) : Prop := ∃ (ca : Addr) (cells : List Int) (a : Nat) (g s t : Int), H p = some (.dK (hdK ca a g s t)) ∧ H ca = some (.lst (cells.map V.int)) ∧ cells.length ≤ 63 ∧ a ≤ cells.length ∧ (∀ c ∈ cells, 0 ≤ c) ∧ 0 ≤ g ∧ 0 ≤ s ∧ 0 ≤ t
/-- its cells stand at c -/
def CellOf (H : Hp) (p c : Addr) : Prop := ∃ a g s t, H p = some (.dK (hdK c a g s t))
/-- what a draw may do: the hand stands again, nothing else has changed -/
structure Stp (p : Addr) (H H' : Hp) : Prop where
  keep : ∀ b o, b ≠ p → H b = some o → H' b = some o
  cell : ∀ c, CellOf H p c → CellOf H' p c
  hand : HandAt H' p
theorem Stp.refl {p : Addr} {H : Hp} (h : HandAt H p) : Stp p H H := ⟨fun _ _ _ e => e, fun _ e => e, h⟩
theorem Stp.trans {p : Addr} {H H1 H2 : Hp} (a : Stp p H H1) (b : Stp p H1 H2) : Stp p H H2 := ⟨fun c o n e => b.keep c o n (a.keep c o n e), fun c e => b.cell c (a.cell c e), b.hand⟩
theorem hdK_inj {ca cb : Addr} {a g s t a' g' s' t' : Int} (h : hdK ca a g s t = hdK cb a' g' s' t') : ca = cb := by
  unfold hdK at h
  injection h with h1 _
  injection h1 with _ h2
  injection h2
theorem cell_eq {H : Hp} {p ca c : Addr} {a g s t : Int} (hp : H p = some (.dK (hdK ca a g s t))) (h : CellOf H p c) : c = ca := by
  obtain ⟨a', g', s', t', h⟩ := h
  rw [hp] at h
  have h1 := Option.some.inj h
  injection h1 with h2
  exact (hdK_inj h2).symm
theorem cell_to {H H' : Hp} {p ca : Addr} {a g s t a' g' s' t' : Int} (hp : H p = some (.dK (hdK ca a g s t))) (hp' : H' p = some (.dK (hdK ca a' g' s' t'))) : ∀ c, CellOf H p c → CellOf H' p c := fun c hc => by
  rw [cell_eq hp hc]
  exact ⟨a', g', s', t', hp'⟩
/-- an object that stood not there at the start may change, whatever has been drawn since -/
theorem Stp.mut {p D : Addr} {H H' : Hp} {o : HO} (h : HandAt H p) (S : Stp p H H') (hD : H D = none) : Stp p H (upd H' D o) := by
  obtain ⟨ca, cells, a, g, s, t, hp, hc, _⟩ := h
  obtain ⟨cb, cells', a', g', s', t', hp', hc', r⟩ := S.hand
  have e : ca = cb := cell_eq hp' (S.cell ca ⟨a, g, s, t, hp⟩)
  have n1 : p ≠ D := ne_of_none hp hD
  have n2 : cb ≠ D := e ▸ ne_of_none hc hD
  exact ⟨fun b o n e => by rw [upd_ne (ne_of_none e hD)]; exact S.keep b o n e, fun c hc => by
    obtain ⟨x1, x2, x3, x4, x5⟩ := S.cell c hc
    exact ⟨x1, x2, x3, x4, by rw [upd_ne n1]; exact x5⟩, cb, cells', a', g', s', t', by rw [upd_ne n1]; exact hp', by rw [upd_ne n2]; exact hc', r⟩
def spDraw : Sp := fun vs H Q _ => ∃ (p : Addr) (m : Int), vs = [.ref p, .int m] ∧ 0 < m ∧ m < 1099511627776 ∧ HandAt H p ∧ ∀ (d : Int) (H' : Hp), 0 ≤ d → d < m → Stp p H H' → Q (.int d) H'
/-- what is asked of the module's names -/
theorem map_at {cells : List Int} {a : Nat} (h : a < cells.length) : ∃ c, cells[a]? = some c ∧ c ∈ cells ∧ atI (cells.map V.int) (a : Int) = some (V.int c) := by
  refine ⟨cells[a], List.getElem?_eq_getElem h, List.getElem_mem h, ?_⟩
  unfold atI
  rw [Evl.ixN_nat (by rw [List.length_map]; exact h)]
  show (cells.map V.int)[a]? = _
  rw [List.getElem?_map, List.getElem?_eq_getElem h] <;> rfl
section
variable {P : Program} {w : World} {K : PySem.W.Frag} {mg : Str → Option Value} {base : Heap}
end
end Law

namespace Law
open PySem L2
section
variable {P : Program} {w : World} {K : PySem.W.Frag} {mg : Str → Option Value} {base : Heap}
abbrev nLawDraw : List Str := ["_law_hand_here", "_law_many", "_law_cell", "_law_digit", "_law_number_here"]
theorem scLawDraw : FnScope nLawDraw ["_law_hand_here", "_law_many"] (defScope s_law_draw) := ⟨rfl, rfl, rfl, by decide +kernel, rfl, by decide +kernel, by decide +kernel⟩
theorem ok_draw {f : Addr} {fd : FuncData} (F : Fun K "_law_draw" "_law_draw" s_law_draw f fd) (T : NmA mg) : FnOk P w K mg base CX0 1 f fd ["_law_hand_here", "_law_many"] spDraw := by
  refine F.ok scLawDraw (fun vs H Q E h => ?_) (fun cdv A' outer s H vs Q E hr h => ?_)
  · obtain ⟨p, m, rfl, _⟩ := h
    rfl
  · obtain ⟨p, m, rfl, hm0, hm1, hH, k⟩ := h
    have hu := hu_of hr
    refine ⟨_, Evl.pss_cut (ps_if (PW.pt (pw_and (pt_cmpR op_eq (pe_dget hu (pv 0) pe_str (fun _ _ => rfl)) pe_int (nomark _)) (pw_and1 (pt_cmpR op_lt (pe_dget hu (pv 0) pe_str (fun _ _ => rfl)) (pe_callB call_len_seq (by rfl) T.len PySem.boot_len (pa_cons (pe_dget hu (pv 0) pe_str (fun _ _ => rfl)) pa_nil)) (nomark _)))))
        (pss_cons (ps_set (i := 2) scLawDraw.nd rfl (Or.inl rfl) (pe_ix ix_list (pe_dget hu (pv 0) pe_str (fun _ _ => rfl)) (pe_dget hu (pv 0) pe_str (fun _ _ => rfl)) (fun _ _ => rfl)))
        (pss_cons (ps_dput hu (pv 0) pe_str (pe_op op_add (pe_dget hu (pv 0) pe_str (fun _ _ => rfl)) pe_int) rfl)
        (pss_cons (ps_dput hu (pv 0) pe_str (pe_op op_mod (pe_callTy call_int1 (by rfl) T.int (by decide +kernel) (pa_cons (pe_op op_add (pe_op op_add (pe_op op_mul (pe_dget hu (pv 0) pe_str (fun _ _ => rfl)) pe_int) (pv 2)) pe_int) pa_nil)) pe_int) rfl)
        (pss_one (ps_dput hu (pv 0) pe_str (pe_ifExp (pt_cmpR op_ge (pv 2) (pe_op op_pow pe_int pe_int) (nomark _)) (pv 2) pe_int) rfl))))) pss_nil)
      (pss_cons (ps_if (pt_cmpR op_gt (pe_dget hu (pv 0) pe_str (fun _ _ => rfl)) pe_int (nomark _))
        (pss_cons (ps_set (i := 3) scLawDraw.nd rfl (Or.inl rfl) (pe_op op_mod (pe_callTy call_int1 (by rfl) T.int (by decide +kernel) (pa_cons (pe_dget hu (pv 0) pe_str (fun _ _ => rfl)) pa_nil)) (pv 1)))
        (pss_cons (ps_dput hu (pv 0) pe_str (pe_op op_fdivW (pe_dget hu (pv 0) pe_str (fun _ _ => rfl)) (pv 1)) rfl)
        (pss_one (ps_ret (pv 3))))) pss_nil)
      (pss_cons (ps_dput hu (pv 0) pe_str (pe_op op_add (pe_dget hu (pv 0) pe_str (fun _ _ => rfl)) pe_int) rfl)
      (pss_cons (ps_set (i := 4) scLawDraw.nd rfl (Or.inl rfl) (pe_op op_mod (pe_callTy call_int1 (by rfl) T.int (by decide +kernel) (pa_cons (pe_op op_mul (pe_callTy call_int1 (by rfl) T.int (by decide +kernel) (pa_cons (pe_op op_add (pe_dget hu (pv 0) pe_str (fun _ _ => rfl)) (pe_op op_mul pe_int (pe_dget hu (pv 0) pe_str (fun _ _ => rfl)))) pa_nil)) pe_int) pa_nil)) pe_int))
      (pss_cons (ps_set (i := 4) scLawDraw.nd rfl (Or.inl rfl) (pe_op op_mod (pe_callTy call_int1 (by rfl) T.int (by decide +kernel) (pa_cons (pe_op op_mul (pv 4) (pe_op op_add (pe_op op_fdiv (pv 4) pe_int) pe_int)) pa_nil)) pe_int))
      (pss_cons (ps_set (i := 4) scLawDraw.nd rfl (Or.inl rfl) (pe_op op_mod (pe_callTy call_int1 (by rfl) T.int (by decide +kernel) (pa_cons (pe_op op_add (pe_op op_mul (pv 4) (pe_op op_add (pe_op op_fdiv (pv 4) pe_int) pe_int)) (pe_dget hu (pv 0) pe_str (fun _ _ => rfl))) pa_nil)) pe_int))
      (pss_one (ps_ret (pe_op op_mod (pe_callTy call_int1 (by rfl) T.int (by decide +kernel) (pa_cons (pe_op op_fdiv (pv 4) pe_int) pa_nil)) (pv 1))))))))), ?_⟩
    refine ⟨fun σ' H' => ∃ cv : Option V, σ' = [some (.ref p), some (.int m), cv, none, none] ∧ Stp p H H', ?_, ?_⟩
    · obtain ⟨ca, cells, a, g, s0, t, hp, hca, h63, ha, hc, hg, hs, ht⟩ := id hH
      have npc : ca ≠ p := ne_of hca hp (by intro z; cases z)
      have stop : ∃ cv : Option V, start nLawDraw [.ref p, .int m] = [some (.ref p), some (.int m), cv, none, none] ∧ Stp p H H := ⟨none, rfl, Stp.refl hH⟩
      refine ⟨_, rfl, p, _, rfl, gt_great hp, rfl, _, rfl, ite2 (fun hg0 => ?_) (fun _ => stop)⟩
      refine ⟨_, rfl, p, _, rfl, gt_at hp, _, rfl, p, _, rfl, gt_cells hp, ca, _, rfl, .inl (SqL.of hca), _, _, rfl, rfl, _, rfl, ite2 (fun hlt => ?_) (fun _ => stop)⟩
      have hlt' : a < cells.length := by
        have z := of_decide_eq_true hlt
        rw [List.length_map] at z
        omega
      obtain ⟨c, hc1, hc2, hc3⟩ := map_at hlt'
      have c0 := hc c hc2
      refine ⟨_, rfl, p, _, rfl, gt_cells hp, _, rfl, p, _, rfl, gt_at hp, ca, _, _, _, rfl, rfl, SqL.of hca, hc3, ?_⟩
      refine ⟨_, rfl, p, _, rfl, gt_at hp, _, _, rfl, rfl, _, rfl, p, _, rfl, pt_at hp _, ?_⟩
      refine ⟨_, rfl, p, _, rfl, gt_seed upd_same, _, _, rfl, rfl, .inr ⟨by decide, by decide⟩, _, rfl, _, _, rfl, rfl, _, _, rfl, rfl, .inl ⟨_, rfl, _, _, rfl, rfl, (by show (0 : Int) < 2147483629; decide), _, rfl, p, _, rfl, pt_seed upd_same _, ?_⟩⟩
      rw [upd_upd]
      refine ⟨_, rfl, _, _, rfl, rfl, ⟨by decide, by decide, by decide⟩, _, _, rfl, rfl, _, rfl, ite2 (fun _ => ?_) (fun _ => ?_)⟩
      · refine ⟨_, rfl, _, rfl, p, _, rfl, pt_great upd_same _, ?_⟩
        rw [upd_upd]
        exact ⟨_, rfl, fun b o n e => by rw [upd_ne n]; exact e, cell_to hp upd_same, ca, cells, a + 1, _, _, _, upd_same, by rw [upd_ne npc]; exact hca, h63, hlt', hc, c0, Int.emod_nonneg _ (by decide), ht⟩
      · refine ⟨_, rfl, p, _, rfl, pt_great upd_same _, ?_⟩
        rw [upd_upd]
        exact ⟨_, rfl, fun b o n e => by rw [upd_ne n]; exact e, cell_to hp upd_same, ca, cells, a + 1, _, _, _, upd_same, by rw [upd_ne npc]; exact hca, h63, hlt', hc, by decide, Int.emod_nonneg _ (by decide), ht⟩
    · rintro σ' H' ⟨cv, rfl, S1⟩
      obtain ⟨ca, cells, a, g, s0, t, hp, hca, h63, ha, hc, hg, hs, ht⟩ := S1.hand
      have npc : ca ≠ p := ne_of hca hp (by intro z; cases z)
      refine ⟨_, rfl, p, _, rfl, gt_great hp, _, _, rfl, rfl, _, rfl, ite2 (fun hg0 => ?_) (fun _ => ?_)⟩
      · refine ⟨_, rfl, p, _, rfl, gt_great hp, .inl ⟨_, rfl, _, rfl, _, _, rfl, rfl, hm0, ?_⟩⟩
        refine ⟨_, rfl, p, _, rfl, gt_great hp, _, rfl, _, _, rfl, rfl, wide_div (b := 40) hm0 (by omega) (by decide) (by decide), _, rfl, p, _, rfl, pt_great hp _, _, rfl, ?_⟩
        exact k _ _ (Int.emod_nonneg _ (by omega)) (Int.emod_lt_of_pos _ hm0) ⟨fun b o n e => by rw [upd_ne n]; exact S1.keep b o n e, fun c hc => cell_to hp upd_same c (S1.cell c hc), ca, cells, a, _, _, _, upd_same, by rw [upd_ne npc]; exact hca, h63, ha, hc, Int.ediv_nonneg hg (by omega), hs, ht⟩
      · refine ⟨_, rfl, p, _, rfl, gt_turn hp, _, _, rfl, rfl, _, rfl, p, _, rfl, pt_turn hp _, ?_⟩
        refine ⟨_, rfl, p, _, rfl, gt_seed upd_same, _, rfl, p, _, rfl, gt_turn upd_same, _, _, rfl, rfl, .inl ⟨by decide, by decide⟩, _, _, rfl, rfl, .inl ⟨_, rfl, _, _, rfl, rfl, .inr ⟨by decide, by decide⟩, .inl ⟨_, rfl, _, _, rfl, rfl, (by show (0 : Int) < 2147483647; decide), ?_⟩⟩⟩
        generalize hx : ((s0 + 7927 * (t + 1)) * 48271) % 2147483647 = x
        have x0 : 0 ≤ x := by rw [← hx]; exact Int.emod_nonneg _ (by decide)
        have x1 : x < 2147483647 := by rw [← hx]; exact Int.emod_lt_of_pos _ (by decide)
        refine ⟨_, rfl, _, rfl, _, _, rfl, rfl, ⟨by decide, by decide⟩, _, _, rfl, rfl, _, _, rfl, rfl, .inl ⟨by omega, by omega⟩, .inl ⟨_, rfl, _, _, rfl, rfl, (by show (0 : Int) < 2147483587; decide), ?_⟩⟩
        generalize hy : (x * (x / 1013 + 69623)) % 2147483587 = y
        have y0 : 0 ≤ y := by rw [← hy]; exact Int.emod_nonneg _ (by decide)
        have y1 : y < 2147483587 := by rw [← hy]; exact Int.emod_lt_of_pos _ (by decide)
        refine ⟨_, rfl, _, rfl, _, _, rfl, rfl, ⟨by decide, by decide⟩, _, _, rfl, rfl, _, _, rfl, rfl, .inl ⟨by omega, by omega⟩, _, rfl, p, _, rfl, gt_turn upd_same, _, _, rfl, rfl, .inl ⟨_, rfl, _, _, rfl, rfl, (by show (0 : Int) < 2147483399; decide), ?_⟩⟩
        refine ⟨_, rfl, _, _, rfl, rfl, ⟨by decide, by decide⟩, .inl ⟨_, rfl, _, rfl, _, _, rfl, rfl, hm0, ?_⟩⟩
        exact k _ _ (Int.emod_nonneg _ (by omega)) (Int.emod_lt_of_pos _ hm0) ⟨fun b o n e => by rw [upd_ne n]; exact S1.keep b o n e, fun c hc => cell_to hp upd_same c (S1.cell c hc), ca, cells, a, _, _, _, upd_same, by rw [upd_ne npc]; exact hca, h63, ha, hc, hg, hs, by omega⟩
end
end Law

namespace Law
open PySem L2
section
variable {P : Program} {w : World} {K : PySem.W.Frag} {mg : Str → Option Value} {base : Heap}
theorem cut63 {xs : List V} (h : xs.length ≤ 63) : cutV xs none (some 63) = xs := by
  unfold cutV
  show (xs.drop 0).take (HT.sIx xs.length xs.length (some ((63 : Nat) : Int)) - 0) = xs
  rw [HT.sIx_nat, Nat.min_eq_right (by omega), Nat.sub_zero, List.drop_zero, List.take_length]
theorem merge_app : ∀ (more acc : List (Key × V)), ((acc ++ more).map (·.1)).Nodup → mergeK acc more = acc ++ more
  | [], acc, _ => (List.append_nil acc).symm
  | p :: r, acc, h => by
    have hn : valV acc p.1 = none := by
      unfold valV
      rw [List.find?_eq_none.mpr]
      · rfl
      · intro kv hkv e
        rw [List.map_append, List.nodup_append] at h
        exact h.2.2 kv.1 (List.mem_map_of_mem hkv) p.1 (List.mem_map_of_mem List.mem_cons_self) (of_decide_eq_true e)
    have e : putK acc p.1 p.2 = acc ++ [p] := putK_new _ hn
    show mergeK (putK acc p.1 p.2) r = acc ++ p :: r
    rw [e, merge_app r (acc ++ [p]) (by rw [List.append_assoc]; exact h), List.append_assoc] <;> rfl
theorem hd_keys : ([Sum.inr ("cells" : Str), Sum.inr ("at" : Str), Sum.inr ("left" : Str), Sum.inr ("seed" : Str), Sum.inr ("turn" : Str)] : List Key).Nodup := by decide +kernel
theorem merge_hd (ca : Addr) (a g s t : Int) : mergeK [] (hdK ca a g s t) = hdK ca a g s t := merge_app _ [] hd_keys
def spHand (K : PySem.W.Frag) : Sp := fun vs H Q _ => ∃ (a : Addr) (ns : List Int), vs = [.ref a] ∧ SqL K H a (ns.map V.int) ∧ ns.length ≤ 63 ∧ ∀ (p : Addr) (H' : Hp), H p = none → Same H H' → HandAt H' p → Q (.ref p) H'
theorem scHand : FnScope ["_law_script", "_law_cells", "_law_cell"] ["_law_script"] (defScope s_law_hand) := ⟨rfl, rfl, rfl, by decide +kernel, rfl, by decide +kernel, by decide +kernel⟩
def absI (n : Int) : Int := if n < 0 then -n else n
theorem absI_nn (n : Int) : 0 ≤ absI n := by
  unfold absI
  split <;> omega
theorem ok_hand {f : Addr} {fd : FuncData} (F : Fun K "_law_hand" "_law_hand" s_law_hand f fd) (T : NmA mg) : FnOk P w K mg base CX0 1 f fd ["_law_script"] (spHand K) := by
  refine F.ok scHand (fun vs H Q E h => ?_) (fun cdv A outer s H vs Q E hr h => ?_)
  · obtain ⟨a, ns, rfl, _⟩ := h
    rfl
  · obtain ⟨a, ns, rfl, hS, h63, k⟩ := h
    have hu := hu_of hr
    refine ⟨_, pss_cons (ps_setLc (i := 1) (own := [("_law_cell", 2)]) (g := gName 2) (tt := tYes) rfl scHand.nd rfl rfl (sw_true rfl rfl rfl (by decide +kernel)) (pi_list (pe_slice sl_list (pv 0) po_none (po_some pe_int)))
        (blkOk_by (own := [("_law_cell", 2)]) (N := ["_law_script", "_law_cells", "_law_cell"]) (sc := defScope s_law_hand) (by decide +kernel)) (fun _ _ _ _ _ => pg_name (i := 2) scHand.nd rfl (Or.inl rfl)) (fun _ _ _ _ _ => pts_nil)
        (fun _ _ _ _ _ => pe_callB call_abs (by rfl) T.abs (by decide +kernel) (pa_cons (pe_callTy call_int1 (by rfl) T.int (by decide +kernel) (pa_cons (pv 2) pa_nil)) pa_nil)))
      (pss_one (ps_ret (pe_disp (pps_cons pe_str (pv 1) (pps_cons pe_str pe_int (pps_cons pe_str pe_int (pps_cons pe_str (pe_op op_add pe_int (pe_callB call_len_seq (by rfl) T.len PySem.boot_len (pa_cons (pv 1) pa_nil))) (pps_cons pe_str pe_int pps_nil))))) (by rfl) (by rfl) (fun z => by cases z) (by decide)))), ?_⟩
    refine ⟨_, rfl, 63, rfl, a, _, rfl, hS, fun sp nsp => ?_⟩
    have h63' : (ns.map V.int).length ≤ 63 := by rw [List.length_map]; exact h63
    rw [cut63 h63']
    refine ⟨sp, rfl, ⟨_, SqL.of upd_same⟩, fun D hD => ?_⟩
    have sD : Same H (upd (upd H sp (.lst (ns.map V.int))) D (.lst [])) := fun b o e => by
      have z : upd H sp (.lst (ns.map V.int)) b = some o := by
        rw [upd_ne (ne_of_none e nsp)]
        exact e
      rw [upd_ne (ne_of_none z hD)]
      exact z
    have nDs : sp ≠ D := ne_of_none upd_same hD
    have hD0 : H D = none := by
      rw [upd_ne nDs.symm] at hD
      exact hD
    refine lc_list (K := K) (a := sp) (xs := ns.map V.int) (fun i H' => Same H H' ∧ H' sp = some (.lst (ns.map V.int)) ∧ H' D = some (.lst (((ns.take i).map absI).map V.int))) ⟨sD, by rw [upd_ne nDs, upd_same], upd_same⟩ (fun i H' _ h => SqL.of h.2.1) ?_ ?_
    · rintro i x H' hi ⟨s1, h1, h2⟩
      obtain ⟨z, hz, rfl⟩ : ∃ z, ns[i]? = some z ∧ x = V.int z := by
        rw [List.getElem?_map] at hi
        cases e : ns[i]? with
        | none => rw [e] at hi; cases hi
        | some z => rw [e] at hi; exact ⟨z, rfl, (Option.some.inj hi).symm⟩
      have hil : i < ns.length := (List.getElem?_eq_some_iff.mp hz).1
      refine ⟨rfl, _, rfl, .inl ⟨_, rfl, _, rfl, _, h2, ?_, ?_⟩⟩
      · rw [List.length_map, List.length_map, List.length_take]
        exact small1000 (by omega)
      · refine ⟨fun b o e => ?_, ?_, ?_⟩
        · have hb : b ≠ D := ne_of_none e hD0
          rw [upd_ne hb]
          exact s1 b o e
        · rw [upd_ne nDs]
          exact h1
        · rw [upd_same, List.take_add_one, hz, List.map_append, List.map_append] <;> rfl
    · rintro H' ⟨s1, h1, h2⟩
      rw [List.length_map, List.take_length] at h2
      intro p np
      have npD : D ≠ p := ne_of_none h2 np
      have s2 : Same H (upd H' p (.dK [])) := fun b o e => by
        rw [upd_ne (ne_of_none (s1 b o e) np)]
        exact s1 b o e
      refine ⟨_, rfl, _, rfl, D, _, rfl, .inl (SqL.of (by rw [upd_ne npD]; exact h2)), _, _, rfl, rfl, upd_same, hdK D 0 0 (40961 + ((ns.map absI).map V.int).length) 0, rfl, (show 5 ≤ 15 by decide), ?_⟩
      rw [merge_hd, upd_upd]
      refine k p _ (s1.free np) (fun b o e => by rw [upd_ne (ne_of_none (s1 b o e) np)]; exact s1 b o e) ⟨D, ns.map absI, 0, 0, _, 0, upd_same, by rw [upd_ne npD]; exact h2, by rw [List.length_map]; exact h63, Nat.zero_le _, ?_, by decide, by omega, by decide⟩
      intro c hc
      obtain ⟨z, _, rfl⟩ := List.mem_map.mp hc
      exact absI_nn z
theorem Stp.sqL {p l : Addr} {H H' : Hp} {xs : List V} (S : Stp p H H') (hp : HandAt H p) (h : SqL K H l xs) : SqL K H' l xs := by
  obtain ⟨ca, cells, a, g, s0, t, hp, _⟩ := hp
  rcases h with (h | ⟨o, h⟩) | h
  · exact .inl (.inl (S.keep _ _ (ne_of h hp (by intro z; cases z)) h))
  · exact .inl (.inr ⟨o, S.keep _ _ (ne_of h hp (by intro z; cases z)) h⟩)
  · exact .inr h
theorem Stp.sqT {p l : Addr} {H H' : Hp} {xs : List V} (S : Stp p H H') (hp : HandAt H p) (h : SqT K H l xs) : SqT K H' l xs := by
  obtain ⟨ca, cells, a, g, s0, t, hp, _⟩ := hp
  rcases h with (h | ⟨o, h⟩) | h
  · exact .inl (.inl (S.keep _ _ (ne_of h hp (by intro z; cases z)) h))
  · exact .inl (.inr ⟨o, S.keep _ _ (ne_of h hp (by intro z; cases z)) h⟩)
  · exact .inr h
/-- a def of the module that may be called by its name -/
structure Cl (P : Program) (w : World) (K : PySem.W.Frag) (mg : Str → Option Value) (base : Heap) (CX : CXT) (k : Nat) (x : Str) (f : Addr) (fd : FuncData) (ps : List Str) (sp : Sp) : Prop where
  ok : FnOk P w K mg base CX k f fd ps sp
  b : Binds K fd ps []
  m : mg x = some (.ref f)
  kp : PySem.W.keepIn K (.ref f) = true
theorem Cl.call {X : Cx} {k : Nat} {x : Str} {f : Addr} {fd : FuncData} {ps : List Str} {sp : Sp} {p pos : Pos} {e : Expr} {es : List Expr} {t : TA} (c : Cl X.prog X.w X.K X.mg X.base CX0 k x f fd ps sp) (hr : Room k X.A) (ha : PA X (e :: es) t) (hg : Gl X x := by rfl) (hdb : (x == ("__debug__" : Str)) = false := by decide)
    (he : starEach (e :: es) X.env = (false, eval e X.env) :: starEach es X.env := by rfl) (hpl : (backTo pos (starEach es X.env)).any (·.1) = false := by rfl) :
    PE X (.Call (.Name x p) (e :: es) [] pos) (tCall sp [] E0 t) := pe_call c.ok hr hg c.m c.kp c.b .nil pass0 ha hdb he hpl
def spAny (K : PySem.W.Frag) : Sp := fun vs H Q _ => ∃ (p l : Addr) (xs : List V), vs = [.ref p, .ref l] ∧ (SqL K H l xs ∨ SqT K H l xs) ∧ 0 < xs.length ∧ xs.length < 1073741824 ∧ HandAt H p ∧ ∀ (i : Nat) (x : V) (H' : Hp), xs[i]? = some x → Stp p H H' → Q x H'
theorem scAny : FnScope ["_law_hand_here", "_law_things"] ["_law_hand_here", "_law_things"] (defScope s_law_any) := ⟨rfl, rfl, rfl, by decide +kernel, rfl, by decide +kernel, by decide +kernel⟩
theorem ok_any {f fD : Addr} {fd fdD : FuncData} (F : Fun K "_law_any" "_law_any" s_law_any f fd) (T : NmA mg) (D : Cl P w K mg base CX0 1 "_law_draw" fD fdD ["_law_hand_here", "_law_many"] spDraw) : FnOk P w K mg base CX0 2 f fd ["_law_hand_here", "_law_things"] (spAny K) := by
  refine F.ok scAny (fun vs H Q E h => ?_) (fun cdv A outer s H vs Q E hr h => ?_)
  · obtain ⟨p, l, xs, rfl, _⟩ := h
    rfl
  · obtain ⟨p, l, xs, rfl, hS, h0, h1, hH, k⟩ := h
    refine ⟨_, pss_one (ps_ret (pe_ix ix_seq (pv 1) (D.call hr (pa_cons (pv 0) (pa_cons (pe_callB call_len_seq (by rfl) T.len PySem.boot_len (pa_cons (pv 1) pa_nil)) pa_nil))) (fun _ _ => rfl))), ?_⟩
    refine ⟨_, rfl, _, rfl, _, rfl, l, xs, rfl, hS, p, _, rfl, by omega, by omega, hH, fun d H' d0 d1 S => ?_⟩
    obtain ⟨j, rfl⟩ := Int.eq_ofNat_of_zero_le d0
    have hj : j < xs.length := by omega
    have ha : atI xs ((j : Nat) : Int) = some xs[j] := by
      unfold atI
      rw [Evl.ixN_nat hj]
      exact List.getElem?_eq_getElem hj
    rcases hS with hS | hS
    · exact .inl ⟨l, xs, _, _, rfl, rfl, S.sqL hH hS, ha, k j _ H' (List.getElem?_eq_getElem hj) S⟩
    · exact .inr (.inl ⟨l, xs, _, _, rfl, rfl, S.sqT hH hS, ha, k j _ H' (List.getElem?_eq_getElem hj) S⟩)
end
end Law

namespace Law
open PySem L2
/-! ### the program's own: integers, fractions -/
def Ty3 (K : PySem.W.Frag) (H : Hp) (x : V) (bi bb : Bool) : Prop := ∃ t, TyX K H x t ∧ PySem.W.kitOne K t (.type "int") = some bi ∧ PySem.W.kitOne K t (.type "bool") = some bb
theorem ty3_int {K : PySem.W.Frag} {H : Hp} (i : Int) : Ty3 K H (.int i) true false := ⟨_, .base (.int i), kit_ty (by decide +kernel), kit_ty (by decide +kernel)⟩
theorem tyx_tup {K : PySem.W.Frag} {H : Hp} {a : Addr} {xs : List V} (h : SqT K H a xs) : TyX K H (.ref a) (.type "tuple") := by
  rcases h with (h | ⟨o, h⟩) | ⟨o, its, n, hk, hc, _⟩
  · exact .base (.tup h)
  · exact .fTuple h
  · exact .kTuple hk hc
theorem kit_tt {K : PySem.W.Frag} : PySem.W.kitOne K (.type "tuple") (.type "tuple") = some true := kit_ty (by decide +kernel)
end Law
namespace L2
open PySem
theorem Same.sqT {K : PySem.W.Frag} {H H' : Hp} {a : Addr} {xs : List V} (e : Same H H') (h : SqT K H a xs) : SqT K H' a xs := by
  rcases h with (h | ⟨o, h⟩) | h
  · exact .inl (.inl (e _ _ h))
  · exact .inl (.inr ⟨o, e _ _ h⟩)
  · exact .inr h
theorem Same.new {H : Hp} {p : Addr} {o : HO} (h : H p = none) : Same H (upd H p o) := fun b u e => by
  rw [upd_ne (ne_of_none e h)]
  exact e
theorem Same.mut {H H' : Hp} {p : Addr} {o : HO} (e : Same H H') (h : H p = none) : Same H (upd H' p o) := fun b u hb => by
  rw [upd_ne (ne_of_none hb h)]
  exact e b u hb
end L2
namespace Law
open PySem L2
section
variable {P : Program} {w : World} {K : PySem.W.Frag} {mg : Str → Option Value} {base : Heap}
def spIsInt (K : PySem.W.Frag) : Sp := fun vs H Q _ => ∃ x bi bb, vs = [x] ∧ Ty3 K H x bi bb ∧ Q (.bl (bi && !bb)) H
theorem scIsInt : FnScope ["thing"] ["thing"] (defScope s_is_integer) := ⟨rfl, rfl, rfl, by decide +kernel, rfl, by decide +kernel, by decide +kernel⟩
theorem ok_isint {f : Addr} {fd : FuncData} (F : Fun K "is_integer" "is_integer" s_is_integer f fd) (T : NmA mg) : FnOk P w K mg base CX0 1 f fd ["thing"] (spIsInt K) := by
  refine F.ok scIsInt (fun vs H Q E h => ?_) (fun cdv A outer s H vs Q E hr h => ?_)
  · obtain ⟨x, bi, bb, rfl, _⟩ := h
    rfl
  · obtain ⟨x, bi, bb, rfl, ⟨t, ty, h1, h2⟩, k⟩ := h
    refine ⟨_, pss_one (ps_ret (pe_and (pe_callB call_isi (by rfl) T.isi (by decide +kernel) (pa_cons (pv 0) (pa_cons (pe_bltn (v := .ty "int") (u := .type "int") (by rfl) T.int (by decide +kernel) rfl) pa_nil)))
      (pe_one (pe_not (pe_callB call_isi (by rfl) T.isi (by decide +kernel) (pa_cons (pv 0) (pa_cons (pe_bltn (v := .ty "bool") (u := .type "bool") (by rfl) T.bool (by decide +kernel) rfl) pa_nil))))))), ?_⟩
    refine ⟨_, rfl, _, _, _, _, _, rfl, .ty "int", ty, h1, _, rfl, ?_⟩
    cases bi with
    | true => exact iteT ⟨_, rfl, _, _, _, _, _, rfl, .ty "bool", ty, h2, _, rfl, k⟩
    | false => exact iteF k
def spWithin (K : PySem.W.Frag) : Sp := fun vs H Q _ => ∃ (lo hi : Int) (x : V), vs = [.int lo, .int hi, x] ∧ ((∃ i, x = .int i ∧ Q (.bl (decide (lo ≤ i) && decide (i ≤ hi))) H) ∨ ∃ bi bb, Ty3 K H x bi bb ∧ (bi && !bb) = false ∧ Q (.bl false) H)
theorem scWithin : FnScope ["low", "high", "thing"] ["low", "high", "thing"] (defScope s_is_within) := ⟨rfl, rfl, rfl, by decide +kernel, rfl, by decide +kernel, by decide +kernel⟩
theorem ok_within {f fI : Addr} {fd fdI : FuncData} (F : Fun K "is_within" "is_within" s_is_within f fd) (I : Cl P w K mg base CX0 1 "is_integer" fI fdI ["thing"] (spIsInt K)) : FnOk P w K mg base CX0 2 f fd ["low", "high", "thing"] (spWithin K) := by
  refine F.ok scWithin (fun vs H Q E h => ?_) (fun cdv A outer s H vs Q E hr h => ?_)
  · obtain ⟨lo, hi, x, rfl, _⟩ := h
    rfl
  · obtain ⟨lo, hi, x, rfl, h⟩ := h
    refine ⟨_, pss_one (ps_ret (pe_and (I.call hr (pa_cons (pv 2) pa_nil)) (pe_one (pe_chain op_le op_le (pv 0) (pv 2) (pv 1))))), ?_⟩
    rcases h with ⟨i, rfl, k⟩ | ⟨bi, bb, ty, hb, k⟩
    · refine ⟨_, rfl, _, true, false, rfl, ty3_int i, true, rfl, iteT ?_⟩
      refine ⟨_, rfl, _, rfl, _, _, rfl, rfl, _, rfl, ?_⟩
      refine ite2 (fun h1 => ?_) (fun h1 => ?_)
      · refine ⟨_, rfl, _, _, rfl, rfl, ?_⟩
        rw [h1, Bool.true_and] at k
        exact k
      · rw [Bool.not_eq_true] at h1
        rw [h1, Bool.false_and] at k
        exact k
    · refine ⟨_, rfl, x, bi, bb, rfl, ty, _, rfl, ?_⟩
      rw [hb]
      exact iteF k
def isW (lo hi : Int) : V → Bool
  | .int i => decide (lo ≤ i) && decide (i ≤ hi)
  | _ => false
def Known (K : PySem.W.Frag) (H : Hp) (x : V) : Prop := (∃ i, x = .int i) ∨ ∃ bi bb, Ty3 K H x bi bb ∧ (bi && !bb) = false ∧ ∀ lo hi, isW lo hi x = false
def spRowB (K : PySem.W.Frag) : Sp := fun vs H Q _ => ∃ (b : Int) (a : Addr) (xs : List V), vs = [.int b, .ref a] ∧ SqT K H a xs ∧ xs.length ≤ 1000 ∧ (∀ x ∈ xs, ∃ i, x = .int i) ∧ ∀ H', Same H H' → Q (.bl (xs.all (isW 0 (b - 1)))) H'
theorem scRowB : FnScope ["bound", "thing", "part"] ["bound", "thing"] (defScope s_is_row_below) := ⟨rfl, rfl, rfl, by decide +kernel, rfl, by decide +kernel, by decide +kernel⟩
theorem all_take {α : Type} (f : α → Bool) : ∀ xs : List α, (xs.map f).all id = xs.all f
  | [] => rfl
  | x :: xs => by rw [List.map_cons, List.all_cons, List.all_cons, all_take f xs] <;> rfl
theorem ok_rowb {f fW : Addr} {fd fdW : FuncData} (F : Fun K "is_row_below" "is_row_below" s_is_row_below f fd) (T : NmA mg) (W : Cl P w K mg base CX0 2 "is_within" fW fdW ["low", "high", "thing"] (spWithin K)) : FnOk P w K mg base CX0 3 f fd ["bound", "thing"] (spRowB K) := by
  refine F.ok scRowB (fun vs H Q E h => ?_) (fun cdv A outer s H vs Q E hr h => ?_)
  · obtain ⟨b, a, xs, rfl, _⟩ := h
    rfl
  · obtain ⟨b, a, xs, rfl, hS, hz, hx, k⟩ := h
    refine ⟨_, pss_one (ps_ret (pe_and (pe_callB call_isi (by rfl) T.isi (by decide +kernel) (pa_cons (pv 1) (pa_cons (pe_bltn (v := .ty "tuple") (u := .type "tuple") (by rfl) T.tuple (by decide +kernel) rfl) pa_nil)))
      (pe_one (pe_callB (cr_all rfl) (by rfl) T.all (by decide +kernel) (pa_cons (pe_lc (own := [("part", 2)]) (g := gName 2) (tt := tYes) rfl scRowB.nd (pi_tup (pv 1))
        (blkOk_by (own := [("part", 2)]) (N := ["bound", "thing", "part"]) (sc := defScope s_is_row_below) (by decide +kernel)) (fun _ _ _ _ _ => pg_name (i := 2) scRowB.nd rfl (Or.inl rfl)) (fun _ _ _ _ _ => pts_nil)
        (fun _ _ _ _ _ => W.call hr (pa_cons pe_int (pa_cons (pe_op op_sub (pv 0) pe_int) (pa_cons (pv 2) pa_nil))))) pa_nil))))), ?_⟩
    refine ⟨_, rfl, _, _, _, _, _, rfl, .ty "tuple", tyx_tup hS, kit_tt, _, rfl, iteT ?_⟩
    refine ⟨_, rfl, a, rfl, ⟨_, hS⟩, fun D hD => ?_⟩
    refine lc_tup (K := K) (a := a) (xs := xs) (fun i H' => Same H H' ∧ H' D = some (.lst (((xs.take i).map (isW 0 (b - 1))).map V.bl))) ⟨Same.new hD, upd_same⟩ (fun i H' _ h => h.1.sqT hS) ?_ ?_
    · rintro i x H' hi ⟨s1, h1⟩
      obtain ⟨z, rfl⟩ := hx x (List.mem_of_getElem? hi)
      refine ⟨rfl, _, rfl, _, _, rfl, rfl, _, rfl, _, _, _, rfl, .inl ⟨z, rfl, _, h1, ?_, s1.mut hD, ?_⟩⟩
      · rw [List.length_map, List.length_map, List.length_take]
        exact small1000 (by omega)
      · rw [upd_same, List.take_add_one, hi, List.map_append, List.map_append] <;> rfl
    · rintro H' ⟨s1, h1⟩
      rw [List.take_length] at h1
      refine ⟨D, _, rfl, SqL.of h1, ?_⟩
      rw [all_take]
      exact k H' s1
theorem dec_one (n : Nat) : decide (V.int (n : Int) = V.int 1) = (n == 1) := by
  rw [dec_int]
  by_cases e : n = 1
  · subst e
    rfl
  · rw [beq_eq_false_iff_ne.mpr e, beq_eq_false_iff_ne.mpr (by omega)]
def spFrac (K : PySem.W.Frag) : Sp := fun vs H Q _ => ∃ (a : Addr) (t b : Int), vs = [.ref a] ∧ SqT K H a [.int t, .int b] ∧ Q (.bl (decide (0 < b) && (Nat.gcd t.natAbs b.natAbs == 1))) H
end
end Law

namespace L2
open PySem PySem.Spec PyProof.Rows
/-! ### math.lcm of great ints -/
theorem lcm_le (a b : Nat) (hb : 0 < b) (ha : 0 < a) : Nat.lcm a b ≤ a * b := Nat.le_of_dvd (Nat.mul_pos ha hb) (Nat.lcm_dvd_mul a b)
theorem lcm_lt {a b : Nat} (ha : a < 2 ^ 9000) (hb : b < 2 ^ 9000) : Nat.lcm a b < 2 ^ 18000 := by
  by_cases h0 : a = 0
  · subst h0
    rw [Nat.lcm_zero_left]
    exact Nat.two_pow_pos _
  by_cases h1 : b = 0
  · subst h1
    rw [Nat.lcm_zero_right]
    exact Nat.two_pow_pos _
  have h := lcm_le a b (Nat.pos_of_ne_zero h1) (Nat.pos_of_ne_zero h0)
  have h2 : a * b < 2 ^ 9000 * 2 ^ 9000 := Nat.mul_lt_mul_of_lt_of_lt ha hb
  rw [← Nat.pow_add] at h2
  exact Nat.lt_of_le_of_lt h h2
def rLcm : List V → Hp → VK → Prop := fun vs H Q => ∃ a b : Int, vs = [.int a, .int b] ∧ a.natAbs < 2 ^ 9000 ∧ b.natAbs < 2 ^ 9000 ∧ Q (.int ((Nat.lcm a.natAbs b.natAbs : Nat) : Int)) H
theorem cr_lcm {X : Cx} : CallR X (.builtin "math.lcm") rLcm := by
  intro pins s σ H vs us Q I r h
  obtain ⟨a, b, rfl, ha, hb, q⟩ := h
  obtain ⟨t, u, rfl⟩ := Vals.int2 r
  have l1 : ∀ {n : Nat}, n < 2 ^ 9000 → n.log2 < 9000 := fun h => PySem.Flt.log2_lt_of (by decide) h
  have m1 : max 1 a.natAbs < 2 ^ 9000 := by
    rw [Nat.max_def]
    split
    · exact ha
    · exact Nat.one_lt_two_pow (by decide)
  have m2 : max a.natAbs b.natAbs < 2 ^ 9000 := by
    rw [Nat.max_def]
    split
    · exact hb
    · exact ha
  have e : ((Nat.lcm 1 a.natAbs).lcm b.natAbs : Nat) = Nat.lcm a.natAbs b.natAbs := by rw [Nat.lcm_one_left]
  have hz : ((((Nat.lcm 1 a.natAbs).lcm b.natAbs : Nat) : Int)).natAbs.log2 < bitsLine := by
    rw [e, Int.natAbs_natCast]
    exact Nat.lt_of_lt_of_le (PySem.Flt.log2_lt_of (by decide) (lcm_lt ha hb)) (by decide)
  have c1 := l1 m1
  have c2 := l1 m2
  refine PySem.call_function_meets PySem.W.MGF.kind_lcm PySem.W.MGF.plain_lcm PySem.W.MGF.entry_lcm (PySem.W.MGF.args_lcm _ _) (PySem.W.mg_run_lcm a t b u (by omega) (by omega) hz).meets ?_
  exact ⟨.int _, H, I.tok _, ⟨_, rfl⟩, by rw [e]; exact q⟩
end L2

namespace Law
open PySem L2
/-! ### lists of fractions -/
abbrev Fr := Int × Int
def FrAt (K : PySem.W.Frag) (H : Hp) (v : V) (f : Fr) : Prop := ∃ s, v = .ref s ∧ SqT K H s [.int f.1, .int f.2]
def FrsIn (K : PySem.W.Frag) (H : Hp) (vs : List V) (fs : List Fr) : Prop := vs.length = fs.length ∧ ∀ (i : Nat) (v : V), vs[i]? = some v → ∃ f, fs[i]? = some f ∧ FrAt K H v f
def FrsAt (K : PySem.W.Frag) (H : Hp) (a : Addr) (fs : List Fr) : Prop := ∃ vs, SqL K H a vs ∧ FrsIn K H vs fs
/-- of moderate size -/
def FrOk (f : Fr) : Prop := 0 < f.2 ∧ f.2.natAbs < 2 ^ 62 ∧ f.1.natAbs < 2 ^ 62
theorem FrAt.same {K : PySem.W.Frag} {H H' : Hp} {v : V} {f : Fr} (e : Same H H') (h : FrAt K H v f) : FrAt K H' v f := by
  obtain ⟨s, h1, h2⟩ := h
  exact ⟨s, h1, e.sqT h2⟩
theorem FrsIn.same {K : PySem.W.Frag} {H H' : Hp} {vs : List V} {fs : List Fr} (e : Same H H') (h : FrsIn K H vs fs) : FrsIn K H' vs fs := ⟨h.1, fun i v hv => by
  obtain ⟨f, h1, h2⟩ := h.2 i v hv
  exact ⟨f, h1, h2.same e⟩⟩
theorem FrsAt.same {K : PySem.W.Frag} {H H' : Hp} {a : Addr} {fs : List Fr} (e : Same H H') (h : FrsAt K H a fs) : FrsAt K H' a fs := by
  obtain ⟨vs, h1, h2⟩ := h
  exact ⟨vs, e.seq h1, h2.same e⟩
def lcmAll (fs : List Fr) : Nat := fs.foldl (fun m f => Nat.lcm m f.2.natAbs) 1
theorem lcmAll_snoc (fs : List Fr) (f : Fr) : lcmAll (fs ++ [f]) = Nat.lcm (lcmAll fs) f.2.natAbs := by
  unfold lcmAll
  rw [List.foldl_append] <;> rfl
theorem lcm_fold : ∀ (fs : List Fr) (m : Nat), 0 < m → (∀ f ∈ fs, FrOk f) → 0 < fs.foldl (fun m f => Nat.lcm m f.2.natAbs) m ∧ fs.foldl (fun m f => Nat.lcm m f.2.natAbs) m ≤ m * 2 ^ (62 * fs.length)
  | [], m, hm, _ => ⟨hm, by simp⟩
  | f :: fs, m, hm, h => by
    obtain ⟨h1, h2, _⟩ := h f List.mem_cons_self
    have p : 0 < f.2.natAbs := by omega
    have q : 0 < Nat.lcm m f.2.natAbs := Nat.lcm_pos hm p
    obtain ⟨i1, i2⟩ := lcm_fold fs (Nat.lcm m f.2.natAbs) q fun g hg => h g (List.mem_cons_of_mem _ hg)
    refine ⟨i1, Nat.le_trans i2 ?_⟩
    have e1 : Nat.lcm m f.2.natAbs ≤ m * 2 ^ 62 := Nat.le_trans (lcm_le _ _ p hm) (Nat.mul_le_mul_left _ (Nat.le_of_lt h2))
    have e2 : m * 2 ^ (62 * (f :: fs).length) = m * 2 ^ 62 * 2 ^ (62 * fs.length) := by
      rw [List.length_cons, Nat.mul_add, Nat.mul_one, Nat.add_comm, Nat.pow_add, Nat.mul_assoc]
    rw [e2]
    exact Nat.mul_le_mul_right _ e1
theorem lcmAll_pos {fs : List Fr} (h : ∀ f ∈ fs, FrOk f) : 0 < lcmAll fs := (lcm_fold fs 1 (by decide) h).1
theorem lcmAll_lt {fs : List Fr} (h : ∀ f ∈ fs, FrOk f) (hl : fs.length ≤ 24) : lcmAll fs < 2 ^ 1489 := by
  have z := (lcm_fold fs 1 (by decide) h).2
  rw [Nat.one_mul] at z
  refine Nat.lt_of_le_of_lt z (Nat.pow_lt_pow_right (by decide) (by omega))
theorem pow_mono {n a b : Nat} (h : n < 2 ^ a) (hab : a ≤ b) : n < 2 ^ b := Nat.lt_of_lt_of_le h (Nat.pow_le_pow_right (by decide) hab)
section
variable {P : Program} {w : World} {K : PySem.W.Frag} {mg : Str → Option Value} {base : Heap}
def spComB (K : PySem.W.Frag) : Sp := fun vs H Q _ => ∃ (a : Addr) (fs : List Fr), vs = [.ref a] ∧ FrsAt K H a fs ∧ fs.length ≤ 24 ∧ (∀ f ∈ fs, FrOk f) ∧ Q (.int (lcmAll fs : Nat)) H
def topsOf (fs : List Fr) (b : Int) : List Int := fs.map fun f => f.1 * (b / f.2)
def spTops (K : PySem.W.Frag) : Sp := fun vs H Q _ => ∃ (a : Addr) (fs : List Fr) (b : Int), vs = [.ref a, .int b] ∧ FrsAt K H a fs ∧ fs.length ≤ 24 ∧ (∀ f ∈ fs, FrOk f) ∧ ∀ p H', H p = none → Same H H' → H' p = some (.lst ((topsOf fs b).map V.int)) → Q (.ref p) H'
def spOne (K : PySem.W.Frag) : Sp := fun vs H Q _ => ∃ (a : Addr) (fs : List Fr), vs = [.ref a] ∧ FrsAt K H a fs ∧ fs.length ≤ 24 ∧ (∀ f ∈ fs, FrOk f) ∧ ∀ H', Same H H' → Q (.bl (decide ((topsOf fs (lcmAll fs : Nat)).sum = ((lcmAll fs : Nat) : Int)))) H'
end
end Law



namespace L2
open PySem PySem.Spec PyProof.Rows TL
/-! ### texts: cut at a sign -/
theorem first_of {c : Nat} : ∀ {l : List Nat}, c ∈ l → ∃ a b, l = a ++ c :: b ∧ c ∉ a
  | [], h => absurd h List.not_mem_nil
  | x :: l, h => by
    by_cases e : x = c
    · exact ⟨[], l, by rw [e] <;> rfl, List.not_mem_nil⟩
    · rcases List.mem_cons.mp h with h | h
      · exact absurd h.symm e
      · obtain ⟨a, b, h1, h2⟩ := first_of h
        refine ⟨x :: a, b, by rw [h1] <;> rfl, fun m => ?_⟩
        rcases List.mem_cons.mp m with m | m
        · exact e m.symm
        · exact h2 m
theorem part_at {x : Str} {c : Nat} {a b : List Nat} (e : tl x = a ++ c :: b) (h : c ∉ a) : Txt.partition x ⟨#[c]⟩ = (⟨a.toArray⟩, ⟨#[c]⟩, ⟨b.toArray⟩) := by
  have hy : tl (⟨#[c]⟩ : Str) = [c] := rfl
  rw [partition_par x ⟨#[c]⟩ (by rw [hy]; simp), hy, e, show a ++ c :: b = a ++ ([c] ++ b) from rfl, par_part1 h, List.nil_append]
theorem part_no {x : Str} {c : Nat} (h : c ∉ tl x) : Txt.partition x ⟨#[c]⟩ = (x, Str.empty, Str.empty) := by
  have hy : tl (⟨#[c]⟩ : Str) = [c] := rfl
  rw [partition_par x ⟨#[c]⟩ (by rw [hy]; simp), hy, par_none1 h]
theorem find_at {x : Str} {c : Nat} {a b : List Nat} (e : tl x = a ++ c :: b) (h : c ∉ a) : Txt.find x ⟨#[c]⟩ = (a.length : Int) := by
  have p := part_at e h
  unfold Txt.partition at p
  unfold Txt.find
  cases ho : Builtin.Str.occurrences x ⟨#[c]⟩ 0 x.length 1 with
  | nil =>
    rw [ho] at p
    have q : Str.empty = (⟨#[c]⟩ : Str) := congrArg (fun z : Str × Str × Str => z.2.1) p
    have q := congrArg (fun z : Str => z.length) q
    exact absurd (show (0 : Nat) = 1 from q) (by decide)
  | cons i r =>
    rw [ho] at p
    obtain ⟨hb, _⟩ := PySem.StrLaws.occ_spec x ⟨#[c]⟩ 0 x.length 1 i (by rw [ho]; exact List.mem_cons_self ..)
    have q : Builtin.Str.strSub x 0 i = (⟨a.toArray⟩ : Str) := congrArg (fun z : Str × Str × Str => z.1) p
    have q := congrArg (fun z : Str => (tl z).length) q
    have l : (tl x).length = x.length := (len_tl x).symm
    change (tl (Builtin.Str.strSub x 0 i)).length = a.length at q
    rw [tl_strSub, List.length_take, List.length_drop, l] at q
    have hb' : i + 1 ≤ x.length := hb
    have : i = a.length := by omega
    show (i : Int) = (a.length : Int)
    omega
theorem tl_cutS_to {z : Str} {n : Nat} : tl (cutS z none (some (n : Int))) = (tl z).take n := by
  unfold cutS
  show ((z.cps.toList.drop 0).take (HT.sIx z.length z.length (some (n : Int)) - 0)) = _
  have l := len_tl z
  rw [HT.sIx_nat, List.drop_zero, Nat.sub_zero]
  rcases Nat.le_total n z.length with h | h
  · rw [Nat.min_eq_left h]
  · rw [Nat.min_eq_right h]
    show (tl z).take z.length = _
    rw [List.take_of_length_le (by omega), List.take_of_length_le (by omega)]
theorem tl_cutS_from {z : Str} {n : Nat} : tl (cutS z (some (n : Int)) none) = (tl z).drop n := by
  unfold cutS
  show ((z.cps.toList.drop (HT.sIx z.length 0 (some (n : Int)))).take (z.length - HT.sIx z.length 0 (some (n : Int)))) = _
  have l := len_tl z
  rw [HT.sIx_nat]
  show ((tl z).drop (min n z.length)).take (z.length - min n z.length) = _
  rw [List.take_of_length_le (by rw [List.length_drop]; omega)]
  rcases Nat.le_total n z.length with h | h
  · rw [Nat.min_eq_left h]
  · rw [Nat.min_eq_right h, List.drop_of_length_le (by omega), List.drop_of_length_le (by omega)]
theorem tl_cutS_last {z : Str} : tl (cutS z none (some (-1))) = (tl z).take ((tl z).length - 1) := by
  unfold cutS
  show ((z.cps.toList.drop 0).take (HT.sIx z.length z.length (some (-1)) - 0)) = _
  have l := len_tl z
  have e : HT.sIx z.length z.length (some (-1)) = z.length - 1 := by
    have := HT.sIx_le z.length z.length (Nat.le_refl _) (some (-1))
    unfold HT.sIx
    simp only
    split <;> omega
  rw [e, List.drop_zero, Nat.sub_zero, l]
/-! ### numbers as texts -/
/-- what number_of_text tells -/
def numO (w : Str) : Option Int :=
  if (!Txt.isascii w || !Txt.isdigit w || decide ((12 : Int) < ((w.length : Nat) : Int))) = true then none else if (Txt.startswith w "0" && !decide (w = "0")) = true then none else some (NumText.digitsVal (tl w) : Int)
theorem asc_iff (w : Str) : Txt.isascii w = true ↔ ∀ c ∈ tl w, c < 128 := by
  unfold Txt.isascii
  rw [← Array.all_toList, List.all_eq_true]
  exact ⟨fun h c hc => of_decide_eq_true (h c hc), fun h c hc => decide_eq_true (h c hc)⟩
theorem dig_of {c : Nat} (h : c < 128) : Unicode.isDigit c = decide (48 ≤ c ∧ c ≤ 57) := by
  have key : ∀ c, c < 128 → Unicode.isDigit c = decide (48 ≤ c ∧ c ≤ 57) := by decide +kernel
  exact key c h
theorem dig_iff {w : Str} (ha : ∀ c ∈ tl w, c < 128) : Txt.isdigit w = true ↔ tl w ≠ [] ∧ NumText.AllDigits (tl w) := by
  unfold Txt.isdigit
  rw [Bool.and_eq_true, ← Array.all_toList, List.all_eq_true]
  have l := len_tl w
  constructor
  · rintro ⟨h1, h2⟩
    refine ⟨fun z => ?_, fun c hc => ?_⟩
    · rw [z] at l
      have := of_decide_eq_true h1
      rw [l] at this
      exact absurd this (by decide)
    · have := h2 c hc
      rw [dig_of (ha c hc)] at this
      exact of_decide_eq_true this
  · rintro ⟨h1, h2⟩
    refine ⟨decide_eq_true ?_, fun c hc => ?_⟩
    · have := List.length_pos_iff.mpr h1
      omega
    · rw [dig_of (ha c hc)]
      exact decide_eq_true (h2 c hc)
theorem tl_zero : tl ("0" : Str) = [48] := by decide +kernel
theorem starts0 (w : Str) : Txt.startswith w "0" = ((tl w).take 1 == [48]) := by
  unfold Txt.startswith
  rw [PySem.StrLaws.subAt_eq]
  have h0 : ("0" : Str).length = 1 := by decide +kernel
  have h1 : ("0" : Str).cps.toList = [48] := tl_zero
  have l := len_tl w
  rw [h0, h1, List.drop_zero]
  show (decide (0 + 1 ≤ w.length) && ((tl w).take 1 == [48])) = _
  cases hw : tl w with
  | nil =>
    rw [hw] at l
    have : ¬ (0 + 1 ≤ w.length) := by rw [l]; decide
    rw [decide_eq_false this] <;> rfl
  | cons c r =>
    rw [hw] at l
    have : 0 + 1 ≤ w.length := by rw [l, List.length_cons]; omega
    rw [decide_eq_true this, Bool.true_and]
theorem eq_zero (w : Str) : decide (w = ("0" : Str)) = decide (tl w = [48]) := by
  by_cases h : w = "0"
  · rw [decide_eq_true h, h, tl_zero] <;> rfl
  · rw [decide_eq_false h, decide_eq_false fun z => h (ext_tl (z.trans tl_zero.symm))]
theorem val_snoc (u : List Nat) (c : Nat) : NumText.digitsVal (u ++ [c]) = NumText.digitsVal u * 10 + (c - 48) := by
  unfold NumText.digitsVal
  rw [List.foldl_append] <;> rfl
/-- digits without a needless nought are their number's -/
theorem num_back : ∀ (k : Nat) (u : List Nat), u.length = k → u ≠ [] → NumText.AllDigits u → (u.head? = some 48 → u = [48]) → numL (NumText.digitsVal u) = u ∧ (u ≠ [48] → 0 < NumText.digitsVal u)
  | 0, u, hl, hn, _, _ => absurd (List.length_eq_zero_iff.mp hl) hn
  | k + 1, u, hl, hn, hd, h0 => by
    obtain ⟨v, c, rfl⟩ : ∃ v c, u = v ++ [c] := ⟨u.dropLast, u.getLast hn, (List.dropLast_concat_getLast hn).symm⟩
    have hc := hd c (List.mem_append.mpr (.inr (List.mem_singleton.mpr rfl)))
    rw [val_snoc]
    by_cases hv : v = []
    · subst hv
      have e : NumText.digitsVal [] = 0 := rfl
      rw [e, Nat.zero_mul, Nat.zero_add, numL_lt (by omega)]
      refine ⟨by show [48 + (c - 48)] = [c]; rw [show 48 + (c - 48) = c by omega], fun z => ?_⟩
      have : c ≠ 48 := fun q => z (by rw [q] <;> rfl)
      omega
    · have hv0 : v.head? = some 48 → v = [48] := fun q => by
        have z := h0 (by rw [List.head?_append, q] <;> rfl)
        have z := congrArg List.length z
        rw [List.length_append] at z
        have := List.length_pos_iff.mpr hv
        have z' : v.length + 1 = 1 := z
        omega
      rw [List.length_append] at hl
      obtain ⟨i1, i2⟩ := num_back k v (by simpa using hl) hv (fun d hd' => hd d (List.mem_append.mpr (.inl hd'))) hv0
      have v48 : v ≠ [48] := fun q => by
        have z := h0 (by rw [q] <;> rfl)
        rw [q] at z
        have z := congrArg List.length z
        exact absurd z (by simp)
      have p := i2 v48
      refine ⟨?_, fun _ => by omega⟩
      have e1 : (NumText.digitsVal v * 10 + (c - 48)) / 10 = NumText.digitsVal v := by omega
      have e2 : (NumText.digitsVal v * 10 + (c - 48)) % 10 = c - 48 := by omega
      rw [numL_step (by omega), e1, e2, i1, show 48 + (c - 48) = c by omega]
theorem numL_head {k : Nat} (h : (numL k).head? = some 48) : numL k = [48] := by
  have key : ∀ n k : Nat, k ≤ n → (numL k).head? = some 48 → k = 0 := by
    intro n
    induction n with
    | zero => exact fun k hk _ => by omega
    | succ n ih =>
      intro k hk h
      by_cases k10 : k < 10
      · rw [numL_lt k10] at h
        have := Option.some.inj h
        omega
      · rw [numL_step (by omega), List.head?_append] at h
        cases hq : (numL (k / 10)).head? with
        | none => exact absurd (List.head?_eq_none_iff.mp hq) (numL_ne _)
        | some z =>
          rw [hq] at h
          have := ih (k / 10) (by omega) (hq.trans h)
          omega
  have := key k k (Nat.le_refl _) h
  subst this
  exact numL_lt (by decide)
theorem numO_num {w : Str} {k : Nat} (h : tl w = numL k) (hk : k < 10 ^ 12) : numO w = some (k : Int) := by
  have hd := numL_digits k
  have ha : ∀ c ∈ tl w, c < 128 := fun c hc => by
    rw [h] at hc
    have := hd c hc
    omega
  have l := len_tl w
  have l12 : w.length ≤ 12 := by
    rw [l, h]
    exact numL_len (by decide) hk
  unfold numO
  have c1 : (!Txt.isascii w || !Txt.isdigit w || decide ((12 : Int) < ((w.length : Nat) : Int))) = false := by
    rw [(asc_iff w).mpr ha, (dig_iff ha).mpr ⟨by rw [h]; exact numL_ne k, by rw [h]; exact hd⟩, decide_eq_false (by omega)] <;> rfl
  have c2 : (Txt.startswith w "0" && !decide (w = "0")) = false := by
    rw [starts0, eq_zero, h]
    by_cases q : (numL k).take 1 = [48]
    · have hh : (numL k).head? = some 48 := by
        cases hn : numL k with
        | nil => exact absurd hn (numL_ne k)
        | cons c r =>
          rw [hn] at q
          have : c = 48 := by simpa using q
          rw [this] <;> rfl
      rw [decide_eq_true (numL_head hh), Bool.not_true, Bool.and_false]
    · rw [show ((numL k).take 1 == [48]) = false from beq_eq_false_iff_ne.mpr q, Bool.false_and]
  rw [c1, c2, h, numL_val] <;> rfl
theorem numO_back {w : Str} {i : Int} (h : numO w = some i) : ∃ k : Nat, i = (k : Int) ∧ tl w = numL k ∧ w.length ≤ 12 ∧ NumText.AllDigits (tl w) := by
  unfold numO at h
  by_cases c1 : (!Txt.isascii w || !Txt.isdigit w || decide ((12 : Int) < ((w.length : Nat) : Int))) = true
  · rw [if_pos c1] at h
    cases h
  · rw [if_neg c1] at h
    by_cases c2 : (Txt.startswith w "0" && !decide (w = "0")) = true
    · rw [if_pos c2] at h
      cases h
    · rw [if_neg c2] at h
      rw [Bool.not_eq_true, Bool.or_eq_false_iff, Bool.or_eq_false_iff, Bool.not_eq_false', Bool.not_eq_false'] at c1
      obtain ⟨⟨a1, a2⟩, a3⟩ := c1
      have ha := (asc_iff w).mp a1
      obtain ⟨d1, d2⟩ := (dig_iff ha).mp a2
      have l12 := of_decide_eq_false a3
      have h0 : (tl w).head? = some 48 → tl w = [48] := fun q => by
        rw [Bool.not_eq_true, starts0, eq_zero] at c2
        have t1 : ((tl w).take 1 == [48]) = true := by
          cases hw : tl w with
          | nil => rw [hw] at q; cases q
          | cons c r =>
            rw [hw] at q
            have := Option.some.inj q
            rw [this] <;> rfl
        rw [t1, Bool.true_and, Bool.not_eq_false'] at c2
        exact of_decide_eq_true c2
      obtain ⟨e1, _⟩ := num_back _ (tl w) rfl d1 d2 h0
      exact ⟨NumText.digitsVal (tl w), (Option.some.inj h).symm, e1.symm, by omega, d2⟩
def numV (w : Str) : V := match numO w with
  | some i => .int i
  | none => .non
/-- a word is a number below n -/
def goodW (n : Nat) (w : List Nat) : Bool := ((List.range n).map numL).contains w
theorem goodW_iff {n : Nat} {w : List Nat} : goodW n w = true ↔ ∃ k, k < n ∧ w = numL k := by
  unfold goodW
  rw [List.contains_iff_mem, List.mem_map]
  exact ⟨fun ⟨k, h1, h2⟩ => ⟨k, List.mem_range.mp h1, h2.symm⟩, fun ⟨k, h1, h2⟩ => ⟨k, List.mem_range.mpr h1, h2.symm⟩⟩
/-- what is_within tells of what number_of_text tells -/
theorem numO_good {n : Nat} (hn : n ≤ 10 ^ 12) (w : Str) : goodW n (tl w) = true ↔ ∃ k : Nat, numO w = some (k : Int) ∧ k < n ∧ tl w = numL k := by
  rw [goodW_iff]
  constructor
  · rintro ⟨k, h1, h2⟩
    exact ⟨k, numO_num h2 (by omega), h1, h2⟩
  · rintro ⟨k, _, h2, h3⟩
    exact ⟨k, h2, h3⟩
/-! ### a text of coins: its words, the first wrong one -/
def wdsOf (l : List Nat) : List (List Nat) := if l = [] then [] else spl [32] 0 [] l
def firstBad (n : Nat) : List (List Nat) → Option Nat
  | [] => none
  | w :: ws => if goodW n w = true then (firstBad n ws).map (· + 1) else some 0
theorem firstBad_none {n : Nat} : ∀ {ws : List (List Nat)}, firstBad n ws = none ↔ ∀ w ∈ ws, goodW n w = true
  | [] => ⟨fun _ w hw => absurd hw List.not_mem_nil, fun _ => rfl⟩
  | w :: ws => by
    unfold firstBad
    by_cases h : goodW n w = true
    · rw [if_pos h, Option.map_eq_none_iff, firstBad_none]
      exact ⟨fun q v hv => by
        rcases List.mem_cons.mp hv with e | e
        · rw [e]; exact h
        · exact q v e, fun q v hv => q v (List.mem_cons_of_mem _ hv)⟩
    · rw [if_neg h]
      exact ⟨fun q => (by cases q), fun q => absurd (q w List.mem_cons_self) h⟩
theorem firstBad_some {n : Nat} : ∀ {ws : List (List Nat)} {i : Nat}, (∀ j, j < i → ∃ w, ws[j]? = some w ∧ goodW n w = true) → (∃ w, ws[i]? = some w ∧ goodW n w = false) → firstBad n ws = some i
  | [], i, _, ⟨w, h, _⟩ => by simp at h
  | w :: ws, 0, _, ⟨v, h, g⟩ => by
    have e := Option.some.inj h
    subst e
    unfold firstBad
    rw [if_neg (by rw [g]; exact Bool.false_ne_true)]
  | w :: ws, i + 1, h, ⟨v, h1, g⟩ => by
    obtain ⟨u, hu, gu⟩ := h 0 (Nat.succ_pos _)
    have e := Option.some.inj hu
    subst e
    have ih := firstBad_some (ws := ws) (i := i) (fun j hj => h (j + 1) (by omega)) ⟨v, h1, g⟩
    unfold firstBad
    rw [if_pos gu, ih] <;> rfl
/-- (line, whether it is closed, what stands behind) -/
def cutL (l : List Nat) : List Nat × Bool × List Nat := match par [10] [] l with
  | some (a, b) => (a, true, b)
  | none => (l, false, [])
theorem cutL_at {l a b : List Nat} (e : l = a ++ 10 :: b) (h : 10 ∉ a) : cutL l = (a, true, b) := by
  unfold cutL
  rw [e, show a ++ 10 :: b = a ++ ([10] ++ b) from rfl, par_part1 h] <;> rfl
theorem cutL_no {l : List Nat} (h : 10 ∉ l) : cutL l = (l, false, []) := by
  unfold cutL
  rw [par_none1 h]
/-- the first wrong word of a text of coins, if one is wrong -/
def badF (n : Nat) (l : List Nat) : Option Nat := match firstBad n (wdsOf (cutL l).1) with
  | some i => some i
  | none => if (cutL l).2.1 = true ∧ (cutL l).2.2 = [] then none else some (wdsOf (cutL l).1).length
end L2
namespace L2
open PySem TL
/-- a text that is split is its parts joined -/
theorem join_spl {s : Nat} : ∀ (l acc : List Nat), joinL [s] (spl [s] 0 acc l) = acc ++ l
  | [], acc => by rw [spl_nil, List.append_nil] <;> rfl
  | c :: r, acc => by
    by_cases e : c = s
    · subst e
      have h : pre [c] (c :: r) = true := pre_self [c] r
      rw [spl_hit h]
      have n : spl [c] ([c].length - 1) [] r ≠ [] := by
        show spl [c] 0 [] r ≠ []
        intro z
        have ih := join_spl (s := c) r []
        have l := congrArg List.length (join_spl (s := c) r [])
        cases r with
        | nil => rw [spl_nil] at z; cases z
        | cons d r2 =>
          by_cases e2 : d = c
          · rw [e2, spl_hit (show pre [c] (c :: r2) = true from pre_self [c] r2)] at z
            cases z
          · rw [z] at l
            exact absurd l (by simp [joinL])
      cases hq : spl [c] ([c].length - 1) [] r with
      | nil => exact absurd hq n
      | cons p q =>
        show acc ++ ([c] ++ joinL [c] (p :: q)) = _
        rw [← hq]
        show acc ++ ([c] ++ joinL [c] (spl [c] 0 [] r)) = _
        rw [join_spl r []]
        rfl
    · rw [spl_miss (pre_of_head [] r e), join_spl r (acc ++ [c]), List.append_assoc] <;> rfl
theorem spl_ne (s : Nat) (l acc : List Nat) : spl [s] 0 acc l ≠ [] := by
  cases l with
  | nil => rw [spl_nil]; simp
  | cons c r =>
    by_cases e : c = s
    · rw [e, spl_hit (show pre [s] (s :: r) = true from pre_self [s] r)]
      simp
    · intro z
      have h := join_spl (s := s) (c :: r) acc
      rw [z] at h
      have l := congrArg List.length h
      rw [List.length_append] at l
      exact absurd l (by simp [joinL])
theorem joinL_len (s : Nat) : ∀ (ps : List (List Nat)), (∀ p ∈ ps, p ≠ []) → 2 * ps.length ≤ (joinL [s] ps).length + 1
  | [], _ => by simp
  | [p], h => by
    have := List.length_pos_iff.mpr (h p List.mem_cons_self)
    show 2 * 1 ≤ p.length + 1
    omega
  | p :: q :: r, h => by
    have := List.length_pos_iff.mpr (h p List.mem_cons_self)
    have ih := joinL_len s (q :: r) fun x hx => h x (List.mem_cons_of_mem _ hx)
    show 2 * ((q :: r).length + 1) ≤ (p ++ ([s] ++ joinL [s] (q :: r))).length + 1
    rw [List.length_append, List.length_append]
    show _ ≤ p.length + (1 + _) + 1
    omega
theorem wds_join (l : List Nat) : joinL [32] (wdsOf l) = l := by
  unfold wdsOf
  by_cases e : l = []
  · rw [if_pos e, e] <;> rfl
  · rw [if_neg e, join_spl, List.nil_append]
/-- a well-formed text of so many signs has half as many words -/
theorem wds_len {n : Nat} {l : List Nat} (h : badF n l = none) : 2 * (wdsOf (cutL l).1).length ≤ l.length := by
  unfold badF at h
  cases hb : firstBad n (wdsOf (cutL l).1) with
  | some i => rw [hb] at h; cases h
  | none =>
    rw [hb] at h
    have good := firstBad_none.mp hb
    have hc : (cutL l).2.1 = true ∧ (cutL l).2.2 = [] := by
      by_cases z : (cutL l).2.1 = true ∧ (cutL l).2.2 = []
      · exact z
      · change (if _ then _ else _) = none at h
        rw [if_neg z] at h
        cases h
    have j := joinL_len 32 (wdsOf (cutL l).1) fun p hp => by
      obtain ⟨k, _, rfl⟩ := goodW_iff.mp (good p hp)
      exact numL_ne k
    rw [wds_join] at j
    have len : (cutL l).1.length + 1 ≤ l.length := by
      by_cases m : 10 ∈ l
      · obtain ⟨a, b, e1, e2⟩ := first_of m
        rw [cutL_at e1 e2, e1, List.length_append]
        show a.length + 1 ≤ a.length + (b.length + 1)
        omega
      · rw [cutL_no m] at hc
        cases hc.1
    omega
theorem mem_joinL (s : Nat) : ∀ {ps : List (List Nat)} {p : List Nat}, p ∈ ps → p.length ≤ (joinL [s] ps).length
  | [], _, h => absurd h List.not_mem_nil
  | [q], p, h => by rw [List.mem_singleton.mp h]; exact Nat.le_refl _
  | q :: r :: t, p, h => by
    have e : (joinL [s] (q :: r :: t)).length = q.length + (1 + (joinL [s] (r :: t)).length) := by
      show (q ++ ([s] ++ joinL [s] (r :: t))).length = _
      rw [List.length_append, List.length_append] <;> rfl
    rcases List.mem_cons.mp h with rfl | h
    · omega
    · have := mem_joinL s h
      omega
theorem cnt_joinL (s : Nat) : ∀ (ps : List (List Nat)), ps.length ≤ (joinL [s] ps).length + 1
  | [] => Nat.zero_le _
  | [p] => by show 1 ≤ p.length + 1; omega
  | p :: q :: r => by
    have ih := cnt_joinL s (q :: r)
    show (q :: r).length + 1 ≤ (p ++ ([s] ++ joinL [s] (q :: r))).length + 1
    rw [List.length_append, List.length_append]
    show _ ≤ p.length + (1 + _) + 1
    omega
theorem nums_vals : ∀ {ws : List Str} {cs : List Int}, ws.map tl = (cs.map fun c => numL c.toNat) → (∀ c ∈ cs, 0 ≤ c ∧ c < 10 ^ 12) → ws.map numV = cs.map V.int
  | [], [], _, _ => rfl
  | [], c :: cs, h, _ => by cases h
  | w :: ws, [], h, _ => by cases h
  | w :: ws, c :: cs, h, hc => by
    rw [List.map_cons, List.map_cons] at h
    injection h with h1 h2
    obtain ⟨c0, c1⟩ := hc c List.mem_cons_self
    have e := numO_num h1 (by omega)
    rw [List.map_cons, List.map_cons, nums_vals h2 fun d hd => hc d (List.mem_cons_of_mem _ hd)]
    unfold numV
    rw [e, show ((c.toNat : Nat) : Int) = c by omega]
theorem nums_of {n : Nat} : ∀ {ws : List (List Nat)}, (∀ w ∈ ws, goodW n w = true) → ∃ cs : List Int, (∀ c ∈ cs, 0 ≤ c ∧ c < (n : Int)) ∧ ws = cs.map fun c => numL c.toNat
  | [], _ => ⟨[], fun c hc => absurd hc List.not_mem_nil, rfl⟩
  | w :: ws, h => by
    obtain ⟨k, k1, k2⟩ := goodW_iff.mp (h w List.mem_cons_self)
    obtain ⟨cs, c1, c2⟩ := nums_of fun v hv => h v (List.mem_cons_of_mem _ hv)
    refine ⟨(k : Int) :: cs, fun c hc => ?_, by rw [k2, c2] <;> rfl⟩
    rcases List.mem_cons.mp hc with rfl | hc
    · omega
    · exact c1 c hc
end L2
namespace L2
open PySem PySem.Spec PyProof.Rows TL
/-! ### texts of systems: what is read -/
/-- all of them, if none is missing -/
def allO {α : Type} : List (Option α) → Option (List α)
  | [] => some []
  | none :: _ => none
  | some a :: r => (allO r).map (a :: ·)
theorem allO_some {α : Type} : ∀ {l : List (Option α)} {m : List α}, allO l = some m → l = m.map some
  | [], m, h => by
    cases h
    rfl
  | none :: _, m, h => by cases h
  | some a :: r, m, h => by
    obtain ⟨k, h1, h2⟩ := Option.map_eq_some_iff.mp (show (allO r).map (a :: ·) = some m from h)
    rw [← h2, List.map_cons, ← allO_some h1]
theorem allO_map {α : Type} : ∀ m : List α, allO (m.map some) = some m
  | [] => rfl
  | a :: m => by
    show (allO (m.map some)).map (a :: ·) = _
    rw [allO_map m] <;> rfl
theorem allO_none {α : Type} : ∀ {l : List (Option α)}, allO l = none ↔ none ∈ l
  | [] => ⟨fun h => (nomatch h), fun h => absurd h List.not_mem_nil⟩
  | none :: r => ⟨fun _ => List.mem_cons_self, fun _ => rfl⟩
  | some a :: r => by
    show (allO r).map (a :: ·) = none ↔ _
    rw [Option.map_eq_none_iff, allO_none, List.mem_cons]
    exact ⟨fun h => .inr h, fun h => h.elim (fun z => nomatch z) id⟩
theorem split_no {x : Str} {c : Nat} (hc : c < 256) (h : c ∉ tl x) : Txt.split x ⟨#[c]⟩ = [x] := by
  have hy : tl (⟨#[c]⟩ : Str) = [c] := rfl
  refine map_tl_inj ?_
  rw [split_spl x _ (by rw [hy]; simp) (kind_ok (by simp [hc])), hy, spl_last1 h] <;> rfl
theorem split_at {x : Str} {c : Nat} {a b : List Nat} (hc : c < 256) (e : tl x = a ++ c :: b) (h : c ∉ a) : Txt.split x ⟨#[c]⟩ = ⟨a.toArray⟩ :: Txt.split ⟨b.toArray⟩ ⟨#[c]⟩ := by
  have hy : tl (⟨#[c]⟩ : Str) = [c] := rfl
  refine map_tl_inj ?_
  rw [List.map_cons, split_spl x _ (by rw [hy]; simp) (kind_ok (by simp [hc])), split_spl ⟨b.toArray⟩ _ (by rw [hy]; simp) (kind_ok (by simp [hc])), hy, e, show a ++ c :: b = a ++ ([c] ++ b) from rfl, spl_part1 h] <;> rfl
theorem split_ne {x : Str} {c : Nat} (hc : c < 256) : Txt.split x ⟨#[c]⟩ ≠ [] := by
  by_cases m : c ∈ tl x
  · obtain ⟨a, b, e1, e2⟩ := first_of m
    rw [split_at hc e1 e2]
    simp
  · rw [split_no hc m]
    simp
theorem split_two {x : Str} {c : Nat} (hc : c < 256) (m : c ∈ tl x) : ∃ u v r, Txt.split x ⟨#[c]⟩ = u :: v :: r := by
  obtain ⟨a, b, e1, e2⟩ := first_of m
  rw [split_at hc e1 e2]
  cases h : Txt.split (⟨b.toArray⟩ : Str) ⟨#[c]⟩ with
  | nil => exact absurd h (split_ne hc)
  | cons v r => exact ⟨_, v, r, rfl⟩
theorem numO_bad {w : Str} {c : Nat} (h : c ∈ tl w) (hc : c < 48 ∨ 57 < c) : numO w = none := by
  cases e : numO w with
  | none => rfl
  | some i =>
    obtain ⟨k, _, _, _, d⟩ := numO_back e
    have := d c h
    omega
theorem numO_nil : numO Str.empty = none := by
  cases e : numO Str.empty with
  | none => rfl
  | some i =>
    obtain ⟨k, _, h, _⟩ := numO_back e
    exact absurd h.symm (numL_ne k)
theorem val_lt : ∀ (u : List Nat) (a : Nat), NumText.AllDigits u → u.foldl (fun n c => n * 10 + (c - 48)) a < (a + 1) * 10 ^ u.length
  | [], a, _ => by simp
  | c :: u, a, h => by
    have hc := h c List.mem_cons_self
    have ih := val_lt u (a * 10 + (c - 48)) fun d hd => h d (List.mem_cons_of_mem _ hd)
    refine Nat.lt_of_lt_of_le ih ?_
    have : (a + 1) * 10 ^ (c :: u).length = (a * 10 + 10) * 10 ^ u.length := by rw [List.length_cons, Nat.pow_succ, Nat.mul_comm (10 ^ u.length) 10, ← Nat.mul_assoc, Nat.add_mul]
    rw [this]
    exact Nat.mul_le_mul_right _ (by omega)
theorem numO_nn {w : Str} {i : Int} (h : numO w = some i) : 0 ≤ i ∧ i < 10 ^ 12 := by
  obtain ⟨k, rfl, h1, h2, h3⟩ := numO_back h
  refine ⟨by omega, ?_⟩
  have l := len_tl w
  have z := val_lt (tl w) 0 h3
  rw [h1] at z
  have e : (numL k).foldl (fun n c => n * 10 + (c - 48)) 0 = k := numL_val k
  rw [e, Nat.zero_add, Nat.one_mul, ← h1, ← l] at z
  have := Nat.lt_of_lt_of_le z (Nat.pow_le_pow_right (show 0 < 10 by decide) h2)
  omega
def headO (x : Str) : Option Int := if (Txt.partition x ⟨#[32]⟩).1 = ("states" : Str) then numO (Txt.partition x ⟨#[32]⟩).2.2 else none
def headL (x : Str) : Option Int := match Txt.split x ⟨#[32]⟩ with
  | [a, b] => if a = ("states" : Str) then numO b else none
  | _ => none
theorem head_eq (x : Str) : headL x = headO x := by
  unfold headL headO
  by_cases m : 32 ∈ tl x
  · obtain ⟨a, b, e1, e2⟩ := first_of m
    rw [split_at (by decide) e1 e2, part_at e1 e2]
    by_cases m2 : 32 ∈ tl (⟨b.toArray⟩ : Str)
    · obtain ⟨u, v, r, e⟩ := split_two (by decide) m2
      rw [e, numO_bad m2 (.inl (by decide))]
      simp
    · rw [split_no (by decide) m2]
  · rw [split_no (by decide) m, part_no m, numO_nil]
    simp
def frac2 : Option Int → Option Int → Option (Int × Int)
  | some t, some b => if b ≠ 1 ∧ 0 < b ∧ Nat.gcd t.natAbs b.natAbs = 1 then some (t, b) else none
  | _, _ => none
theorem frac2_no (o : Option Int) : frac2 o none = none := by cases o <;> rfl
def fracO (x : Str) : Option (Int × Int) := if (Txt.partition x ⟨#[47]⟩).2.1 = Str.empty then (numO (Txt.partition x ⟨#[47]⟩).1).map fun t => (t, 1) else frac2 (numO (Txt.partition x ⟨#[47]⟩).1) (numO (Txt.partition x ⟨#[47]⟩).2.2)
theorem sl_ne : ¬ (⟨#[47]⟩ : Str) = Str.empty := fun z => by
  have := congrArg (fun z : Str => z.length) z
  exact absurd (show (1 : Nat) = 0 from this) (by decide)
def fracL (x : Str) : Option (Int × Int) := match allO ((Txt.split x ⟨#[47]⟩).map numO) with
  | some [t] => some (t, 1)
  | some [t, b] => if 1 < b ∧ Nat.gcd t.natAbs b.natAbs = 1 then some (t, b) else none
  | _ => none
theorem frac_eq (x : Str) : fracL x = fracO x := by
  unfold fracL fracO
  by_cases m : 47 ∈ tl x
  · obtain ⟨a, b, e1, e2⟩ := first_of m
    rw [split_at (by decide) e1 e2, part_at e1 e2]
    simp only
    rw [if_neg sl_ne]
    by_cases m2 : 47 ∈ tl (⟨b.toArray⟩ : Str)
    · obtain ⟨u, v, r, e⟩ := split_two (by decide) m2
      rw [e, numO_bad m2 (.inl (by decide)), frac2_no]
      have key : ∀ o p q (s : List (Option Int)), (match allO (o :: p :: q :: s) with
        | some [t] => some (t, 1)
        | some [t, b] => if 1 < b ∧ Nat.gcd t.natAbs b.natAbs = 1 then some (t, b) else none
        | _ => none) = (none : Option (Int × Int)) := fun o p q s => by
        cases o with
        | none => rfl
        | some o =>
          cases p with
          | none => rfl
          | some p =>
            cases q with
            | none => rfl
            | some q =>
              cases h : allO s with
              | none => simp [allO, h]
              | some l => simp [allO, h]
      rw [List.map_cons, List.map_cons, List.map_cons, key]
    · rw [split_no (by decide) m2, List.map_cons, List.map_cons, List.map_nil]
      cases numO (⟨a.toArray⟩ : Str) with
      | none => rfl
      | some t =>
        cases numO (⟨b.toArray⟩ : Str) with
        | none => rfl
        | some b =>
          show (if _ then _ else _) = if _ then _ else _
          by_cases h1 : 1 < b
          · by_cases h2 : Nat.gcd t.natAbs b.natAbs = 1
            · rw [if_pos ⟨h1, h2⟩, if_pos ⟨by omega, by omega, h2⟩]
            · rw [if_neg (fun z => h2 z.2), if_neg (fun z => h2 z.2.2)]
          · rw [if_neg (fun z => h1 z.1), if_neg (fun z => by omega)]
  · rw [split_no (by decide) m, part_no m, List.map_cons, List.map_nil]
    simp only
    rw [if_pos trivial]
    cases numO x <;> rfl
theorem frac_sp {x : Str} (m : 32 ∈ tl x) : fracO x = none := by
  unfold fracO
  by_cases m2 : 47 ∈ tl x
  · obtain ⟨a, b, e1, e2⟩ := first_of m2
    rw [part_at e1 e2]
    simp only
    rw [if_neg sl_ne]
    rw [e1] at m
    rcases List.mem_append.mp m with m | m
    · rw [numO_bad (w := ⟨a.toArray⟩) (c := 32) m (.inl (by decide))] <;> rfl
    · rcases List.mem_cons.mp m with m | m
      · cases m
      · rw [numO_bad (w := ⟨b.toArray⟩) (c := 32) m (.inl (by decide)), frac2_no]
  · rw [part_no m2]
    simp only
    rw [if_pos trivial, numO_bad m (.inl (by decide))] <;> rfl
/-- what fracO tells is in lowest terms -/
theorem frac_ok {x : Str} {t b : Int} (h : fracO x = some (t, b)) : 0 ≤ t ∧ t < 10 ^ 12 ∧ 0 < b ∧ b < 10 ^ 12 ∧ Nat.gcd t.natAbs b.natAbs = 1 := by
  unfold fracO at h
  by_cases c : (Txt.partition x ⟨#[47]⟩).2.1 = Str.empty
  · rw [if_pos c] at h
    obtain ⟨t', h1, h2⟩ := Option.map_eq_some_iff.mp h
    cases h2
    obtain ⟨a1, a2⟩ := numO_nn h1
    exact ⟨a1, a2, by decide, by decide, by simp⟩
  · rw [if_neg c] at h
    cases h1 : numO (Txt.partition x ⟨#[47]⟩).1 with
    | none => rw [h1] at h; cases h
    | some t' =>
      cases h2 : numO (Txt.partition x ⟨#[47]⟩).2.2 with
      | none => rw [h1, h2] at h; cases h
      | some b' =>
        rw [h1, h2] at h
        obtain ⟨a1, a2⟩ := numO_nn h1
        obtain ⟨b1, b2⟩ := numO_nn h2
        change (if _ then _ else _) = _ at h
        by_cases d : b' ≠ 1 ∧ 0 < b' ∧ Nat.gcd t'.natAbs b'.natAbs = 1
        · rw [if_pos d] at h
          cases h
          exact ⟨a1, a2, d.2.1, b2, d.2.2⟩
        · rw [if_neg d] at h
          cases h
def numsO (x : Str) : Option (List Int) := allO ((Txt.split x ⟨#[32]⟩).map numO)
theorem nums_nil : numsO Str.empty = none := by
  unfold numsO
  rw [split_no (by decide) (show 32 ∉ tl Str.empty from List.not_mem_nil), List.map_cons, numO_nil] <;> rfl
theorem nums_ok {x : Str} {l : List Int} (h : numsO x = some l) : (∀ i ∈ l, 0 ≤ i ∧ i < 10 ^ 12) ∧ l.length = (Txt.split x ⟨#[32]⟩).length := by
  have z := allO_some h
  refine ⟨fun i hi => ?_, by have y := congrArg List.length z; rw [List.length_map, List.length_map] at y; exact y.symm⟩
  have : some i ∈ (Txt.split x ⟨#[32]⟩).map numO := by rw [z]; exact List.mem_map.mpr ⟨i, hi, rfl⟩
  obtain ⟨w, _, hw⟩ := List.mem_map.mp this
  exact numO_nn hw
/-- ": " -/
abbrev cs : Str := ⟨#[58, 32]⟩
def moveO (x : Str) : Option ((Int × Int) × List Int) := match fracO (Txt.partition x cs).1, numsO (Txt.partition x cs).2.2 with
  | some f, some l => some (f, l)
  | _, _ => none
def lineL (x : Str) : Option ((Int × Int) × List Int) := match Txt.split x ⟨#[32]⟩ with
  | w :: v :: r => if (tl w).getLast? = some 58 then (match fracO ⟨(tl w).dropLast.toArray⟩, allO ((v :: r).map numO) with
    | some f, some l => some (f, l)
    | _, _ => none) else none
  | _ => none
theorem pre2 {l : List Nat} (h : pre [58, 32] l = true) : ∃ r, l = 58 :: 32 :: r := by
  have e : l.take 2 = [58, 32] := eq_of_beq h
  match l, e with
  | c :: d :: r, e =>
    have e : [c, d] = [58, 32] := e
    injection e with e1 e
    injection e with e2 e
    exact ⟨r, by rw [e1, e2]⟩
theorem line_eq (x : Str) : lineL x = moveO x := by
  unfold lineL moveO
  have hy : tl cs = [58, 32] := rfl
  have pp := partition_par x cs (by rw [hy]; simp)
  rw [hy] at pp
  by_cases m : 32 ∈ tl x
  · obtain ⟨a, b, e1, e2⟩ := first_of m
    rw [split_at (by decide) e1 e2]
    cases hs : Txt.split (⟨b.toArray⟩ : Str) ⟨#[32]⟩ with
    | nil => exact absurd hs (split_ne (by decide))
    | cons v r =>
      by_cases hl : a.getLast? = some 58
      · obtain ⟨a', ha⟩ := List.getLast?_eq_some_iff.mp hl
        have no : ∀ i, i < a'.length → pre [58, 32] ((a' ++ ([58, 32] ++ b)).drop i) = false := fun i hi => by
          cases hp : pre [58, 32] ((a' ++ ([58, 32] ++ b)).drop i) with
          | false => rfl
          | true =>
            obtain ⟨q, hq⟩ := pre2 hp
            have z : (a' ++ ([58, 32] ++ b))[i + 1]? = some 32 := by
              have : ((a' ++ ([58, 32] ++ b)).drop i)[1]? = some 32 := by rw [hq] <;> rfl
              rw [List.getElem?_drop] at this
              exact this
            have z2 : a[i + 1]? = some 32 := by
              have e : a' ++ ([58, 32] ++ b) = a ++ (32 :: b) := by rw [ha, List.append_assoc] <;> rfl
              rw [e, List.getElem?_append_left (by rw [ha, List.length_append]; simp; omega)] at z
              exact z
            exact absurd (List.mem_of_getElem? z2) e2
        have e3 : tl x = a' ++ ([58, 32] ++ b) := by rw [e1, ha, List.append_assoc] <;> rfl
        rw [e3, par_part (by simp) no, List.nil_append] at pp
        rw [pp]
        have hl2 : (tl (⟨a.toArray⟩ : Str)).getLast? = some 58 := hl
        simp only
        rw [if_pos hl2]
        have dl : (tl (⟨a.toArray⟩ : Str)).dropLast = a' := by
          show a.dropLast = a'
          rw [ha, List.dropLast_concat]
        rw [dl]
        unfold numsO
        rw [hs]
      · have hl2 : ¬ (tl (⟨a.toArray⟩ : Str)).getLast? = some 58 := hl
        simp only
        rw [if_neg hl2]
        have bad : fracO (Txt.partition x cs).1 = none ∨ numsO (Txt.partition x cs).2.2 = none := by
          rw [pp]
          cases hp : par [58, 32] [] (tl x) with
          | none => exact .inr nums_nil
          | some q =>
            obtain ⟨u, z⟩ := q
            refine .inl (frac_sp ?_)
            show 32 ∈ u
            -- u is ahead of the first mark
            have key : ∀ (l acc u z : List Nat), par [58, 32] acc l = some (u, z) → ∃ p, u = acc ++ p ∧ l = p ++ 58 :: 32 :: z := fun l => by
              induction l with
              | nil => intro acc u z h; cases h
              | cons c l ih =>
                intro acc u z h
                cases hc : pre [58, 32] (c :: l) with
                | true =>
                  obtain ⟨q, hq⟩ := pre2 hc
                  rw [par_hit hc, hq] at h
                  cases h
                  exact ⟨[], (List.append_nil _).symm, hq⟩
                | false =>
                  rw [par_miss hc] at h
                  obtain ⟨p, h1, h2⟩ := ih _ _ _ h
                  exact ⟨c :: p, by rw [h1, List.append_assoc] <;> rfl, by rw [h2] <;> rfl⟩
            obtain ⟨p, h1, h2⟩ := key _ _ _ _ hp
            rw [List.nil_append] at h1
            subst h1
            -- the first blank stands in it
            by_cases hm : 32 ∈ u
            · exact hm
            · exfalso
              rw [e1] at h2
              have la : a = u ++ [58] := by
                have n2 : 32 ∉ u ++ [58] := fun z => by
                  rcases List.mem_append.mp z with z | z
                  · exact hm z
                  · simp at z
                have uq : ∀ (p q r s : List Nat), 32 ∉ p → 32 ∉ q → p ++ 32 :: r = q ++ 32 :: s → p = q := fun p => by
                  induction p with
                  | nil =>
                    intro q r s _ hq h
                    cases q with
                    | nil => rfl
                    | cons d q =>
                      injection h with h _
                      exact absurd (h ▸ List.mem_cons_self) hq
                  | cons c p ih =>
                    intro q r s hp hq h
                    cases q with
                    | nil =>
                      injection h with h _
                      exact absurd (h ▸ List.mem_cons_self) hp
                    | cons d q =>
                      injection h with h1 h2
                      rw [h1, ih q r s (fun z => hp (List.mem_cons_of_mem _ z)) (fun z => hq (List.mem_cons_of_mem _ z)) h2]
                refine uq a (u ++ [58]) b z e2 n2 ?_
                rw [h2, List.append_assoc] <;> rfl
              exact hl (by rw [la]; simp)
        rcases bad with bad | bad
        · rw [bad]
        · rw [bad]
          cases fracO (Txt.partition x cs).1 <;> rfl
  · rw [split_no (by decide) m]
    have no : par [58, 32] [] (tl x) = none := by
      refine par_none fun i hi => ?_
      cases hp : pre [58, 32] ((tl x).drop i) with
      | false => rfl
      | true =>
        obtain ⟨q, hq⟩ := pre2 hp
        have : 32 ∈ (tl x).drop i := by rw [hq]; simp
        exact absurd (List.mem_of_mem_drop this) m
    rw [no] at pp
    rw [pp]
    simp only
    rw [nums_nil]
    cases fracO x <;> rfl
end L2
namespace L2
open PySem PySem.Spec PyProof.Rows TL
abbrev Mv3 := (Int × Int) × List Int
/-- the place of the first one that is missing -/
def firstNo {α : Type} : List (Option α) → Option Nat
  | [] => none
  | none :: _ => some 0
  | some _ :: r => (firstNo r).map (· + 1)
theorem firstNo_none {α : Type} : ∀ {l : List (Option α)}, firstNo l = none → l = (l.filterMap id).map some
  | [], _ => rfl
  | none :: _, h => by cases h
  | some a :: r, h => by
    have z := firstNo_none (Option.map_eq_none_iff.mp (show (firstNo r).map (· + 1) = none from h))
    show some a :: r = some a :: (r.filterMap id).map some
    rw [← z]
theorem firstNo_at {α : Type} : ∀ {l : List (Option α)} {i : Nat}, firstNo l = some i → l[i]? = some none ∧ ∀ j, j < i → ∃ a, l[j]? = some (some a)
  | [], _, h => by cases h
  | none :: _, _, h => by
    cases h
    exact ⟨rfl, fun j hj => absurd hj (Nat.not_lt_zero _)⟩
  | some a :: r, i, h => by
    obtain ⟨k, h1, h2⟩ := Option.map_eq_some_iff.mp (show (firstNo r).map (· + 1) = some i from h)
    subst h2
    obtain ⟨a1, a2⟩ := firstNo_at h1
    refine ⟨a1, fun j hj => ?_⟩
    cases j with
    | zero => exact ⟨a, rfl⟩
    | succ j => exact a2 j (by omega)
theorem firstNo_of {α : Type} : ∀ {l : List (Option α)} {i : Nat}, l[i]? = some none → (∀ j, j < i → ∃ a, l[j]? = some (some a)) → firstNo l = some i
  | [], i, h, _ => by simp at h
  | none :: r, 0, _, _ => rfl
  | none :: r, i + 1, _, h => by
    obtain ⟨a, ha⟩ := h 0 (Nat.succ_pos _)
    cases ha
  | some a :: r, 0, h, _ => by cases h
  | some a :: r, i + 1, h, g => by
    have ih := firstNo_of (l := r) (i := i) h fun j hj => g (j + 1) (by omega)
    show (firstNo r).map (· + 1) = _
    rw [ih] <;> rfl
theorem firstNo_all {α : Type} : ∀ {l : List (Option α)}, (∀ (j : Nat) (o : Option α), l[j]? = some o → ∃ a, o = some a) → firstNo l = none
  | [], _ => rfl
  | none :: r, h => by
    obtain ⟨a, ha⟩ := h 0 none rfl
    cases ha
  | some a :: r, h => by
    show (firstNo r).map (· + 1) = none
    rw [firstNo_all fun j o hj => h (j + 1) o hj] <;> rfl
/-- a part of a System that is wrong -/
abbrev Part := Sum Str Nat
def mvB (many : Int) (m : Mv3) : Bool := decide (0 < m.1.1) && (m.2.all (fun s => decide (s < many)) && decide ((m.2.length : Int) = many))
def badMv (many : Int) (ms : List Mv3) : Option Nat := firstNo (ms.map fun m => if mvB many m = true then some m else none)
def wrongF (one : List (Int × Int) → Bool) (many : Int) (ms : List Mv3) : Option Part :=
  if ¬ (1 ≤ many ∧ many ≤ 12) then some (.inl "many") else if ¬ (1 ≤ ms.length ∧ ms.length ≤ 24) then some (.inl "moves") else
  match badMv many ms with
  | some i => some (.inr i)
  | none => if one (ms.map (·.1)) = true then none else some (.inl "shares")
inductive Out
  | line (n : Nat)
  | part (p : Part)
  | told (many : Int) (ms : List Mv3)
def madeF (one : List (Int × Int) → Bool) (many : Int) (ms : List Mv3) : Out := match wrongF one many ms with
  | some p => .part p
  | none => .told many ms
/-- what is read of the lines, the last one behind the last line feed -/
def readF (one : List (Int × Int) → Bool) (ls : List Str) : Out := match ls.dropLast with
  | [] => .line 1
  | h :: r => match headO h with
    | none => .line 1
    | some many => match firstNo (r.map moveO) with
      | some i => .line (i + 2)
      | none => if ls.getLast? = some Str.empty then madeF one many ((r.map moveO).filterMap id) else .line ls.length
/-! ### the text of a system -/
def fracT (f : Int × Int) : List Nat := numL f.1.toNat ++ (if f.2 = 1 then [] else 47 :: numL f.2.toNat)
def moveT (m : Mv3) : List Nat := fracT m.1 ++ [58, 32] ++ joinL [32] (m.2.map fun s => numL s.toNat)
def headT (many : Int) : List Nat := [115, 116, 97, 116, 101, 115, 32] ++ numL many.toNat
def textT (many : Int) (ms : List Mv3) : List Nat := headT many ++ [10] ++ (ms.map fun m => moveT m ++ [10]).flatten
theorem tl_states : tl ("states" : Str) = [115, 116, 97, 116, 101, 115] := by decide +kernel
theorem head_back {many : Int} (h0 : 0 ≤ many) (h1 : many < 10 ^ 12) : headO ⟨(headT many).toArray⟩ = some many := by
  have e : tl (⟨(headT many).toArray⟩ : Str) = [115, 116, 97, 116, 101, 115] ++ 32 :: numL many.toNat := by
    show headT many = _
    unfold headT
    rfl
  unfold headO
  rw [part_at e (by decide)]
  simp only
  rw [if_pos (ext_tl (by rw [tl_states]))]
  rw [numO_num (w := ⟨(numL many.toNat).toArray⟩) (k := many.toNat) rfl (by omega)]
  exact congrArg some (by omega)
theorem frac_back {f : Int × Int} (h0 : 0 ≤ f.1) (h1 : f.1 < 10 ^ 12) (h2 : 0 < f.2) (h3 : f.2 < 10 ^ 12) (h4 : Nat.gcd f.1.natAbs f.2.natAbs = 1) : fracO ⟨(fracT f).toArray⟩ = some f := by
  obtain ⟨t, b⟩ := f
  unfold fracO
  by_cases e : b = 1
  · have el : tl (⟨(fracT (t, b)).toArray⟩ : Str) = numL t.toNat := by
      show fracT (t, b) = _
      unfold fracT
      rw [if_pos e, List.append_nil]
    have no : 47 ∉ tl (⟨(fracT (t, b)).toArray⟩ : Str) := by rw [el]; exact numL_free (.inl (by decide))
    rw [part_no no]
    simp only
    rw [if_pos trivial, numO_num el (by have : t < 10 ^ 12 := h1; have : 0 ≤ t := h0; omega), e]
    exact congrArg some (by have : 0 ≤ t := h0; show (((t.toNat : Nat) : Int), (1 : Int)) = _; rw [show ((t.toNat : Nat) : Int) = t by omega])
  · have el : tl (⟨(fracT (t, b)).toArray⟩ : Str) = numL t.toNat ++ 47 :: numL b.toNat := by
      show fracT (t, b) = _
      unfold fracT
      rw [if_neg e]
    rw [part_at el (numL_free (.inl (by decide)))]
    simp only
    have p1 : 0 ≤ t := h0
    have p2 : t < 10 ^ 12 := h1
    have p3 : 0 < b := h2
    have p4 : b < 10 ^ 12 := h3
    rw [if_neg sl_ne, numO_num (w := ⟨(numL t.toNat).toArray⟩) (k := t.toNat) rfl (by omega), numO_num (w := ⟨(numL b.toNat).toArray⟩) (k := b.toNat) rfl (by omega), show ((t.toNat : Nat) : Int) = t by omega, show ((b.toNat : Nat) : Int) = b by omega]
    show (if _ then _ else _) = _
    rw [if_pos ⟨e, p3, h4⟩]
theorem nums_back {l : List Int} (hn : l ≠ []) (h : ∀ i ∈ l, 0 ≤ i ∧ i < 10 ^ 12) : numsO ⟨(joinL [32] (l.map fun s => numL s.toNat)).toArray⟩ = some l := by
  unfold numsO
  have e : (Txt.split (⟨(joinL [32] (l.map fun s => numL s.toNat)).toArray⟩ : Str) ⟨#[32]⟩).map tl = l.map fun s => numL s.toNat := by
    have hy : tl (⟨#[32]⟩ : Str) = [32] := rfl
    rw [split_spl _ _ (by rw [hy]; simp) (kind_ok (by simp)), hy]
    show spl [32] 0 [] (joinL [32] (l.map fun s => numL s.toNat)) = _
    refine spl_join (by simpa using hn) fun p hp => ?_
    obtain ⟨i, _, rfl⟩ := List.mem_map.mp hp
    exact numL_free (.inl (by decide))
  generalize Txt.split (⟨(joinL [32] (l.map fun s => numL s.toNat)).toArray⟩ : Str) ⟨#[32]⟩ = ws at e
  have key : ∀ (ws : List Str) (l : List Int), (∀ i ∈ l, 0 ≤ i ∧ i < 10 ^ 12) → ws.map tl = (l.map fun s => numL s.toNat) → ws.map numO = l.map some := fun ws => by
    induction ws with
    | nil =>
      intro l _ h
      cases l with
      | nil => rfl
      | cons a l => simp at h
    | cons w ws ih =>
      intro l hl h
      cases l with
      | nil => simp at h
      | cons a l =>
        rw [List.map_cons, List.map_cons] at h
        injection h with h1 h2
        obtain ⟨a0, a1⟩ := hl a List.mem_cons_self
        rw [List.map_cons, List.map_cons, ih l (fun i hi => hl i (List.mem_cons_of_mem _ hi)) h2, numO_num h1 (by omega), show ((a.toNat : Nat) : Int) = a by omega]
  rw [key ws l h e, allO_map]
def MvSm (m : Mv3) : Prop := 0 ≤ m.1.1 ∧ m.1.1 < 10 ^ 12 ∧ 0 < m.1.2 ∧ m.1.2 < 10 ^ 12 ∧ Nat.gcd m.1.1.natAbs m.1.2.natAbs = 1 ∧ ∀ i ∈ m.2, 0 ≤ i ∧ i < 10 ^ 12
theorem fracT_free {f : Int × Int} {c : Nat} (h : c < 47 ∨ 57 < c) : c ∉ fracT f := fun m => by
  unfold fracT at m
  rcases List.mem_append.mp m with m | m
  · exact numL_free (by omega) m
  · by_cases e : f.2 = 1
    · rw [if_pos e] at m
      cases m
    · rw [if_neg e] at m
      rcases List.mem_cons.mp m with m | m
      · omega
      · exact numL_free (by omega) m
theorem join_free {c : Nat} : ∀ (l : List Int), (c ≠ 32) → (c < 48 ∨ 57 < c) → c ∉ joinL [32] (l.map fun s => numL s.toNat)
  | [], _, _ => List.not_mem_nil
  | [a], _, h => numL_free h
  | a :: b :: l, n, h => fun m => by
    rcases List.mem_append.mp (show c ∈ numL a.toNat ++ ([32] ++ joinL [32] ((b :: l).map fun s => numL s.toNat)) from m) with m | m
    · exact numL_free h m
    · rcases List.mem_append.mp m with m | m
      · simp at m
        exact n m
      · exact join_free (b :: l) n h m
theorem move_back {m : Mv3} (h : MvSm m) (hn : m.2 ≠ []) : moveO ⟨(moveT m).toArray⟩ = some m := by
  obtain ⟨h1, h2, h3, h4, h5, h6⟩ := h
  unfold moveO
  have hy : tl cs = [58, 32] := rfl
  have pp := partition_par (⟨(moveT m).toArray⟩ : Str) cs (by rw [hy]; simp)
  have e : tl (⟨(moveT m).toArray⟩ : Str) = fracT m.1 ++ ([58, 32] ++ joinL [32] (m.2.map fun s => numL s.toNat)) := by
    show moveT m = _
    unfold moveT
    rw [List.append_assoc]
  rw [hy, e, par_part1 (fracT_free (.inr (by decide))), List.nil_append] at pp
  rw [pp]
  simp only
  rw [frac_back h1 h2 h3 h4 h5, nums_back hn h6]
theorem text_lines {many : Int} {ms : List Mv3} {x : Str} (h : tl x = textT many ms) : Txt.split x ⟨#[10]⟩ = (⟨(headT many).toArray⟩ : Str) :: ((ms.map fun m => (⟨(moveT m).toArray⟩ : Str)) ++ [Str.empty]) := by
  have hy : tl (⟨#[10]⟩ : Str) = [10] := rfl
  refine map_tl_inj ?_
  rw [split_spl x _ (by rw [hy]; simp) (kind_ok (by simp)), hy, h]
  unfold textT
  have f1 : 10 ∉ headT many := fun m => by
    rcases List.mem_append.mp m with m | m
    · revert m; decide
    · exact numL_free (.inl (by decide)) m
  rw [List.append_assoc, spl_part1 f1, List.nil_append, List.map_cons]
  congr 1
  clear h
  induction ms with
  | nil => rfl
  | cons m ms ih =>
    have f2 : 10 ∉ moveT m := fun z => by
      unfold moveT at z
      rcases List.mem_append.mp z with z | z
      · rcases List.mem_append.mp z with z | z
        · exact fracT_free (.inl (by decide)) z
        · revert z; decide
      · exact join_free m.2 (by decide) (.inl (by decide)) z
    rw [List.map_cons, List.flatten_cons, List.append_assoc, spl_part1 f2, List.nil_append, ih] <;> rfl
theorem firstNo_somes {α : Type} : ∀ l : List α, firstNo (l.map some) = none
  | [] => rfl
  | a :: l => by
    show (firstNo (l.map some)).map (· + 1) = none
    rw [firstNo_somes l] <;> rfl
theorem read_back {one : List (Int × Int) → Bool} {many : Int} {ms : List Mv3} {x : Str} (h : tl x = textT many ms) (m0 : 0 ≤ many) (m1 : many < 10 ^ 12) (hm : ∀ m ∈ ms, MvSm m ∧ m.2 ≠ []) : readF one (Txt.split x ⟨#[10]⟩) = madeF one many ms := by
  rw [text_lines h]
  unfold readF
  have e : ((⟨(headT many).toArray⟩ : Str) :: ((ms.map fun m => (⟨(moveT m).toArray⟩ : Str)) ++ [Str.empty])).dropLast = (⟨(headT many).toArray⟩ : Str) :: (ms.map fun m => (⟨(moveT m).toArray⟩ : Str)) := by
    rw [← List.cons_append, List.dropLast_concat]
  have l : ((⟨(headT many).toArray⟩ : Str) :: ((ms.map fun m => (⟨(moveT m).toArray⟩ : Str)) ++ [Str.empty])).getLast? = some Str.empty := by
    rw [← List.cons_append, List.getLast?_concat]
  rw [e]
  simp only
  rw [head_back m0 m1]
  simp only
  have z : (ms.map fun m => (⟨(moveT m).toArray⟩ : Str)).map moveO = ms.map some := by
    rw [List.map_map]
    exact List.map_congr_left fun m hmm => move_back (hm m hmm).1 (hm m hmm).2
  rw [z, firstNo_somes]
  simp only
  rw [if_pos l]
  congr 1
  induction ms with
  | nil => rfl
  | cons m ms ih => simp
end L2
namespace L2
open PySem PySem.Spec PyProof.Rows TL
/-! ### texts of models -/
theorem e_empS : tl Str.empty = [] := rfl
def headW (wd x : Str) : Option Int := if (Txt.partition x ⟨#[32]⟩).1 = wd then numO (Txt.partition x ⟨#[32]⟩).2.2 else none
def rowW (x : Str) : Option (List Int) := if (Txt.partition x ⟨#[32]⟩).1 = ("weights" : Str) then numsO (Txt.partition x ⟨#[32]⟩).2.2 else none
abbrev Tie := (Int × Int) × List (List Int)
abbrev bar : Str := ⟨#[32, 124, 32]⟩
def two : Option (List Int) → Option (List (List Int)) → Option Tie
  | some [i, j], some t => some ((i, j), t)
  | _, _ => none
theorem two_none (o : Option (List Int)) : two o none = none := by
  unfold two
  split
  · rename_i h
    cases h
  · rfl
def tieO (x : Str) : Option Tie := if (Txt.partition (Txt.partition x cs).1 ⟨#[32]⟩).1 = ("tie" : Str) then two (numsO (Txt.partition (Txt.partition x cs).1 ⟨#[32]⟩).2.2) (allO ((Txt.split (Txt.partition x cs).2.2 bar).map numsO)) else none
/-- behind a word and a blank -/
theorem behind_word {α : Type} (f : Str → Option α) (f0 : f Str.empty = none) {wd x : Str} (hw : 32 ∉ tl wd) :
    (if (Txt.partition x ⟨#[32]⟩).1 = wd then f (Txt.partition x ⟨#[32]⟩).2.2 else none) = if (tl x).take ((tl wd).length + 1) = tl wd ++ [32] then f ⟨((tl x).drop ((tl wd).length + 1)).toArray⟩ else none := by
  by_cases m : 32 ∈ tl x
  · obtain ⟨a, b, e1, e2⟩ := first_of m
    rw [part_at e1 e2]
    simp only
    by_cases h : (⟨a.toArray⟩ : Str) = wd
    · have ha : tl wd = a := by rw [← h]
      rw [if_pos h, ha, if_pos (by rw [e1, show a ++ 32 :: b = (a ++ [32]) ++ b by rw [List.append_assoc] <;> rfl, show a.length + 1 = (a ++ [32]).length by rw [List.length_append] <;> rfl, List.take_left])]
      rw [e1, show a ++ 32 :: b = (a ++ [32]) ++ b by rw [List.append_assoc] <;> rfl, show a.length + 1 = (a ++ [32]).length by rw [List.length_append] <;> rfl, List.drop_left]
    · rw [if_neg h, if_neg]
      intro z
      apply h
      refine ext_tl (show a = tl wd from ?_)
      have e : tl x = tl wd ++ 32 :: (tl x).drop ((tl wd).length + 1) := by
        have := List.take_append_drop ((tl wd).length + 1) (tl x)
        rw [z] at this
        rw [List.append_assoc] at this
        exact this.symm
      have uq : ∀ (p q r s : List Nat), 32 ∉ p → 32 ∉ q → p ++ 32 :: r = q ++ 32 :: s → p = q := fun p => by
        induction p with
        | nil =>
          intro q r s _ hq h
          cases q with
          | nil => rfl
          | cons d q =>
            injection h with h _
            exact absurd (h ▸ List.mem_cons_self) hq
        | cons c p ih =>
          intro q r s hp hq h
          cases q with
          | nil =>
            injection h with h _
            exact absurd (h ▸ List.mem_cons_self) hp
          | cons d q =>
            injection h with h1 h2
            rw [h1, ih q r s (fun z => hp (List.mem_cons_of_mem _ z)) (fun z => hq (List.mem_cons_of_mem _ z)) h2]
      exact uq a (tl wd) b _ e2 hw (e1.symm.trans e)
  · rw [part_no m]
    simp only
    rw [f0, if_neg (c := (tl x).take _ = _)]
    · split <;> rfl
    · intro z
      have : 32 ∈ (tl x).take ((tl wd).length + 1) := by rw [z]; simp
      exact m (List.mem_of_mem_take this)
theorem word_is {α : Type} {f : Str → Option α} (f0 : f Str.empty = none) {wd x : Str} (hw : 32 ∉ tl wd) {a : α} (h : (if (Txt.partition x ⟨#[32]⟩).1 = wd then f (Txt.partition x ⟨#[32]⟩).2.2 else none) = some a) : ∃ b, tl x = tl wd ++ 32 :: b ∧ f ⟨b.toArray⟩ = some a := by
  rw [behind_word f f0 hw] at h
  by_cases c : (tl x).take ((tl wd).length + 1) = tl wd ++ [32]
  · rw [if_pos c] at h
    refine ⟨(tl x).drop ((tl wd).length + 1), ?_, h⟩
    have := List.take_append_drop ((tl wd).length + 1) (tl x)
    rw [c, List.append_assoc] at this
    exact this.symm
  · rw [if_neg c] at h
    cases h
theorem word_back {α : Type} {f : Str → Option α} {wd : Str} (hw : 32 ∉ tl wd) (b : List Nat) : (if (Txt.partition (⟨(tl wd ++ 32 :: b).toArray⟩ : Str) ⟨#[32]⟩).1 = wd then f (Txt.partition (⟨(tl wd ++ 32 :: b).toArray⟩ : Str) ⟨#[32]⟩).2.2 else none) = f ⟨b.toArray⟩ := by
  have e : tl (⟨(tl wd ++ 32 :: b).toArray⟩ : Str) = tl wd ++ 32 :: b := rfl
  rw [part_at e hw]
  show (if (⟨(tl wd).toArray⟩ : Str) = wd then f ⟨b.toArray⟩ else none) = _
  rw [if_pos (show (⟨(tl wd).toArray⟩ : Str) = wd from ext_tl rfl)]
theorem t_places : tl ("places" : Str) = [112, 108, 97, 99, 101, 115] := by decide +kernel
theorem t_levels : tl ("levels" : Str) = [108, 101, 118, 101, 108, 115] := by decide +kernel
theorem t_weights : tl ("weights" : Str) = [119, 101, 105, 103, 104, 116, 115] := by decide +kernel
theorem t_tie : tl ("tie" : Str) = [116, 105, 101] := by decide +kernel
theorem n_places : 32 ∉ tl ("places" : Str) := by rw [t_places]; decide
theorem n_levels : 32 ∉ tl ("levels" : Str) := by rw [t_levels]; decide
theorem n_weights : 32 ∉ tl ("weights" : Str) := by rw [t_weights]; decide
theorem n_tie : 32 ∉ tl ("tie" : Str) := by rw [t_tie]; decide
/-! ### joined and split by a longer mark -/
theorem spl_neS {S : List Nat} (l acc : List Nat) : spl S 0 acc l ≠ [] := by
  induction l generalizing acc with
  | nil => rw [spl_nil]; simp
  | cons c r ih =>
    cases h : pre S (c :: r) with
    | true => rw [spl_hit h]; simp
    | false => rw [spl_miss h]; exact ih _
theorem join_splS {S : List Nat} (hS : S ≠ []) : ∀ (n : Nat) (l acc : List Nat), l.length ≤ n → joinL S (spl S 0 acc l) = acc ++ l
  | _, [], acc, _ => by rw [spl_nil, List.append_nil] <;> rfl
  | 0, c :: r, _, h => by simp at h
  | n + 1, c :: r, acc, h => by
    cases hp : pre S (c :: r) with
    | false =>
      rw [spl_miss hp, join_splS hS n r _ (by simpa using h), List.append_assoc] <;> rfl
    | true =>
      rw [spl_hit hp, spl_pass]
      have e : (c :: r).take S.length = S := eq_of_beq hp
      have e2 : c :: r = S ++ r.drop (S.length - 1) := by
        have z := List.take_append_drop S.length (c :: r)
        rw [e] at z
        rw [← z]
        congr 1
        cases S with
        | nil => exact absurd rfl hS
        | cons s S => rfl
      have ih := join_splS hS n (r.drop (S.length - 1)) [] (by rw [List.length_drop]; simp at h; omega)
      cases hq : spl S 0 [] (r.drop (S.length - 1)) with
      | nil => exact absurd hq (spl_neS _ _)
      | cons p q =>
        rw [hq] at ih
        show acc ++ (S ++ joinL S (p :: q)) = _
        rw [ih, List.nil_append, ← e2]
theorem spl_bar : ∀ {parts : List (List Nat)}, parts ≠ [] → (∀ p ∈ parts, 124 ∉ p) → spl [32, 124, 32] 0 [] (joinL [32, 124, 32] parts) = parts
  | [], h, _ => absurd rfl h
  | [p], _, hp => by
    have np := hp p List.mem_cons_self
    show spl [32, 124, 32] 0 [] p = [p]
    refine (spl_last fun i hi => ?_).trans (by rw [List.nil_append])
    cases h : pre [32, 124, 32] (p.drop i) with
    | false => rfl
    | true =>
      have e : (p.drop i).take 3 = [32, 124, 32] := eq_of_beq h
      have : 124 ∈ (p.drop i).take 3 := by rw [e]; simp
      exact absurd (List.mem_of_mem_drop (List.mem_of_mem_take this)) np
  | p :: q :: r, _, hp => by
    have np := hp p List.mem_cons_self
    have ih := spl_bar (parts := q :: r) (by simp) fun x hx => hp x (List.mem_cons_of_mem _ hx)
    show spl [32, 124, 32] 0 [] (p ++ ([32, 124, 32] ++ joinL [32, 124, 32] (q :: r))) = _
    rw [spl_part (by simp) fun i hi => ?_, List.nil_append, ih]
    cases h : pre [32, 124, 32] ((p ++ ([32, 124, 32] ++ joinL [32, 124, 32] (q :: r))).drop i) with
    | false => rfl
    | true =>
      have e : ((p ++ ([32, 124, 32] ++ joinL [32, 124, 32] (q :: r))).drop i).take 3 = [32, 124, 32] := eq_of_beq h
      have z : (p ++ ([32, 124, 32] ++ joinL [32, 124, 32] (q :: r)))[i + 1]? = some 124 := by
        have z := congrArg (fun l : List Nat => l[1]?) e
        simp only [List.getElem?_take, List.getElem?_drop] at z
        simpa using z
      by_cases c : i + 1 < p.length
      · rw [List.getElem?_append_left c] at z
        exact absurd (List.mem_of_getElem? z) np
      · rw [List.getElem?_append_right (by omega), show i + 1 - p.length = 0 by omega] at z
        cases z
/-! ### what stands in a line that is read -/
def rowT (l : List Int) : List Nat := joinL [32] (l.map fun s => numL s.toNat)
def tieT (t : Tie) : List Nat := tl ("tie" : Str) ++ 32 :: (numL t.1.1.toNat ++ 32 :: numL t.1.2.toNat) ++ [58, 32] ++ joinL [32, 124, 32] (t.2.map rowT)
theorem num_is {w : Str} {i : Int} (h : numO w = some i) : tl w = numL i.toNat := by
  obtain ⟨k, rfl, h1, _⟩ := numO_back h
  rw [Int.toNat_natCast]
  exact h1
theorem nums_is {y : Str} {l : List Int} (h : numsO y = some l) : tl y = rowT l ∧ l ≠ [] := by
  unfold numsO at h
  have z := allO_some h
  have hy : tl (⟨#[32]⟩ : Str) = [32] := rfl
  have e := split_spl y (⟨#[32]⟩ : Str) (by rw [hy]; simp) (kind_ok (by simp))
  rw [hy] at e
  have j : joinL [32] (spl [32] 0 [] (tl y)) = tl y := by rw [join_spl, List.nil_append]
  have ne := split_ne (x := y) (c := 32) (by decide)
  generalize Txt.split y (⟨#[32]⟩ : Str) = ws at z e ne
  have key : ∀ (ws : List Str) (l : List Int), ws.map numO = l.map some → ws.map tl = l.map fun s => numL s.toNat := fun ws => by
    induction ws with
    | nil =>
      intro l h
      cases l with
      | nil => rfl
      | cons a l => simp at h
    | cons w ws ih =>
      intro l h
      cases l with
      | nil => simp at h
      | cons a l =>
        rw [List.map_cons, List.map_cons] at h
        injection h with h1 h2
        rw [List.map_cons, List.map_cons, num_is h1, ih l h2]
  refine ⟨?_, fun z2 => ?_⟩
  · rw [← j, ← e, key ws l z] <;> rfl
  · rw [z2] at z
    exact ne (List.map_eq_nil_iff.mp z)
theorem head_is {wd x : Str} (hw : 32 ∉ tl wd) {n : Int} (h : headW wd x = some n) : tl x = tl wd ++ 32 :: numL n.toNat ∧ 0 ≤ n ∧ n < 10 ^ 12 := by
  obtain ⟨b, h1, h2⟩ := word_is numO_nil hw h
  rw [h1, ← num_is h2]
  exact ⟨rfl, numO_nn h2⟩
theorem row_is {x : Str} {l : List Int} (h : rowW x = some l) : tl x = tl ("weights" : Str) ++ 32 :: rowT l ∧ l ≠ [] ∧ ∀ i ∈ l, 0 ≤ i ∧ i < 10 ^ 12 := by
  obtain ⟨b, h1, h2⟩ := word_is nums_nil n_weights h
  obtain ⟨h3, h4⟩ := nums_is h2
  rw [h1, ← h3]
  exact ⟨rfl, h4, (nums_ok h2).1⟩
def RowSm (l : List Int) : Prop := l ≠ [] ∧ ∀ i ∈ l, 0 ≤ i ∧ i < 10 ^ 12
def TieSm (t : Tie) : Prop := (0 ≤ t.1.1 ∧ t.1.1 < 10 ^ 12) ∧ (0 ≤ t.1.2 ∧ t.1.2 < 10 ^ 12) ∧ t.2 ≠ [] ∧ ∀ r ∈ t.2, RowSm r
theorem t_bar : tl bar = [32, 124, 32] := rfl
theorem split_bar_nil : (Txt.split Str.empty bar).map numsO = [none] := by
  have e := split_spl Str.empty bar (by rw [t_bar]; simp) (kind_ok (by decide +kernel))
  rw [t_bar, e_empS, spl_nil] at e
  cases h : Txt.split Str.empty bar with
  | nil => rw [h] at e; simp at e
  | cons w ws =>
    rw [h] at e
    cases ws with
    | nil =>
      have e0 : tl w = [] := (List.cons.inj e).1
      have : w = Str.empty := ext_tl e0
      rw [this, List.map_cons, nums_nil] <;> rfl
    | cons v r => simp at e
theorem rows_is {y : Str} {t : List (List Int)} (h : allO ((Txt.split y bar).map numsO) = some t) : tl y = joinL [32, 124, 32] (t.map rowT) ∧ t ≠ [] ∧ ∀ r ∈ t, RowSm r := by
  have z := allO_some h
  have e := split_spl y bar (by rw [t_bar]; simp) (kind_ok (by decide +kernel))
  rw [t_bar] at e
  have j : joinL [32, 124, 32] (spl [32, 124, 32] 0 [] (tl y)) = tl y := by rw [join_splS (by simp) _ _ _ (Nat.le_refl _), List.nil_append]
  have ne : Txt.split y bar ≠ [] := fun q => by
    rw [q] at e
    exact spl_neS _ _ e.symm
  generalize Txt.split y bar = ws at z e ne
  have key : ∀ (ws : List Str) (t : List (List Int)), ws.map numsO = t.map some → ws.map tl = t.map rowT ∧ ∀ r ∈ t, RowSm r := fun ws => by
    induction ws with
    | nil =>
      intro l h
      cases l with
      | nil => exact ⟨rfl, fun r hr => absurd hr List.not_mem_nil⟩
      | cons a l => simp at h
    | cons w ws ih =>
      intro l h
      cases l with
      | nil => simp at h
      | cons a l =>
        rw [List.map_cons, List.map_cons] at h
        injection h with h1 h2
        obtain ⟨i1, i2⟩ := ih l h2
        obtain ⟨n1, n2⟩ := nums_is h1
        refine ⟨by rw [List.map_cons, List.map_cons, n1, i1], fun r hr => ?_⟩
        rcases List.mem_cons.mp hr with rfl | hr
        · exact ⟨n2, (nums_ok h1).1⟩
        · exact i2 r hr
  obtain ⟨k1, k2⟩ := key ws t z
  refine ⟨by rw [← j, ← e, k1], fun z2 => ?_, k2⟩
  rw [z2] at z
  exact ne (List.map_eq_nil_iff.mp z)
theorem tie_is {x : Str} {t : Tie} (h : tieO x = some t) : tl x = tieT t ∧ TieSm t := by
  unfold tieO at h
  have pp := partition_par x cs (by simp [tl])
  have hy : tl cs = [58, 32] := rfl
  rw [hy] at pp
  cases hp : par [58, 32] [] (tl x) with
  | none =>
    rw [hp] at pp
    rw [pp] at h
    simp only at h
    rw [split_bar_nil] at h
    have : two (numsO (Txt.partition x ⟨#[32]⟩).2.2) (allO [none]) = none := two_none _
    rw [this] at h
    split at h <;> cases h
  | some q =>
    obtain ⟨a, b⟩ := q
    rw [hp] at pp
    rw [pp] at h
    simp only at h
    have key : ∀ (l acc u z : List Nat), par [58, 32] acc l = some (u, z) → ∃ p, u = acc ++ p ∧ l = p ++ 58 :: 32 :: z := fun l => by
      induction l with
      | nil => intro acc u z h; cases h
      | cons c l ih =>
        intro acc u z h
        cases hc : pre [58, 32] (c :: l) with
        | true =>
          obtain ⟨q, hq⟩ := pre2 hc
          rw [par_hit hc, hq] at h
          cases h
          exact ⟨[], (List.append_nil _).symm, hq⟩
        | false =>
          rw [par_miss hc] at h
          obtain ⟨p, h1, h2⟩ := ih _ _ _ h
          exact ⟨c :: p, by rw [h1, List.append_assoc] <;> rfl, by rw [h2] <;> rfl⟩
    obtain ⟨p, k1, k2⟩ := key _ _ _ _ hp
    rw [List.nil_append] at k1
    subst k1
    cases hr : allO ((Txt.split (⟨b.toArray⟩ : Str) bar).map numsO) with
    | none =>
      rw [hr, two_none] at h
      split at h <;> cases h
    | some rows =>
      obtain ⟨r1, r2, r3⟩ := rows_is hr
      rw [hr] at h
      have hf : (if (Txt.partition (⟨a.toArray⟩ : Str) ⟨#[32]⟩).1 = ("tie" : Str) then (fun y => two (numsO y) (some rows)) (Txt.partition (⟨a.toArray⟩ : Str) ⟨#[32]⟩).2.2 else none) = some t := h
      obtain ⟨c, c1, c2⟩ := word_is (f := fun y => two (numsO y) (some rows)) (by show two (numsO Str.empty) _ = none; rw [nums_nil] <;> rfl) n_tie hf
      cases hn : numsO (⟨c.toArray⟩ : Str) with
      | none => rw [hn] at c2; cases c2
      | some l =>
        rw [hn] at c2
        match l, hn, c2 with
        | [i, j], hn, c2 =>
          cases c2
          obtain ⟨n1, _⟩ := nums_is hn
          have n2 := (nums_ok hn).1
          refine ⟨?_, n2 i (by simp), n2 j (by simp), r2, r3⟩
          have n1 : c = numL i.toNat ++ 32 :: numL j.toNat := n1
          have c1 : a = tl ("tie" : Str) ++ 32 :: c := c1
          have r1 : b = joinL [32, 124, 32] (rows.map rowT) := r1
          rw [k2, c1, n1, r1]
          unfold tieT
          simp only [List.append_assoc, List.cons_append, List.nil_append]
/-! ### and back -/
theorem head_backW {wd : Str} (hw : 32 ∉ tl wd) {n : Int} (h0 : 0 ≤ n) (h1 : n < 10 ^ 12) : headW wd ⟨(tl wd ++ 32 :: numL n.toNat).toArray⟩ = some n := by
  unfold headW
  rw [word_back hw, numO_num (w := ⟨(numL n.toNat).toArray⟩) (k := n.toNat) rfl (by omega)]
  exact congrArg some (by omega)
theorem row_back {l : List Int} (h : RowSm l) : rowW ⟨(tl ("weights" : Str) ++ 32 :: rowT l).toArray⟩ = some l := by
  unfold rowW
  rw [word_back n_weights]
  exact nums_back h.1 h.2
theorem rowT_free {c : Nat} (l : List Int) (h1 : c ≠ 32) (h2 : c < 48 ∨ 57 < c) : c ∉ rowT l := join_free l h1 h2
theorem tie_back {t : Tie} (h : TieSm t) : tieO ⟨(tieT t).toArray⟩ = some t := by
  obtain ⟨⟨⟨a1, a2⟩, a3, a4⟩, ⟨b1, b2⟩, h3, h4⟩ : ((0 ≤ t.1.1 ∧ t.1.1 < 10 ^ 12) ∧ 0 ≤ t.1.2 ∧ t.1.2 < 10 ^ 12) ∧ (0 ≤ t.1.2 ∧ t.1.2 < 10 ^ 12) ∧ t.2 ≠ [] ∧ ∀ r ∈ t.2, RowSm r := ⟨⟨h.1, h.2.1⟩, h.2⟩
  obtain ⟨⟨i, j⟩, rows⟩ := t
  unfold tieO
  have pp := partition_par (⟨(tieT ((i, j), rows)).toArray⟩ : Str) cs (by simp [tl])
  have hy : tl cs = [58, 32] := rfl
  have e : tl (⟨(tieT ((i, j), rows)).toArray⟩ : Str) = (tl ("tie" : Str) ++ 32 :: (numL i.toNat ++ 32 :: numL j.toNat)) ++ ([58, 32] ++ joinL [32, 124, 32] (rows.map rowT)) := by
    show tieT ((i, j), rows) = _
    unfold tieT
    rw [List.append_assoc]
  have nf : 58 ∉ tl ("tie" : Str) ++ 32 :: (numL i.toNat ++ 32 :: numL j.toNat) := fun m => by
    rcases List.mem_append.mp m with m | m
    · rw [t_tie] at m
      revert m
      decide
    · rcases List.mem_cons.mp m with m | m
      · cases m
      · rcases List.mem_append.mp m with m | m
        · exact numL_free (.inr (by decide)) m
        · rcases List.mem_cons.mp m with m | m
          · cases m
          · exact numL_free (.inr (by decide)) m
  rw [hy, e, par_part1 nf, List.nil_append] at pp
  rw [pp]
  simp only
  have sb : (Txt.split (⟨(joinL [32, 124, 32] (rows.map rowT)).toArray⟩ : Str) bar).map numsO = rows.map some := by
    have e2 := split_spl (⟨(joinL [32, 124, 32] (rows.map rowT)).toArray⟩ : Str) bar (by rw [t_bar]; simp) (kind_ok (by decide +kernel))
    rw [t_bar] at e2
    have e3 : spl [32, 124, 32] 0 [] (tl (⟨(joinL [32, 124, 32] (rows.map rowT)).toArray⟩ : Str)) = rows.map rowT := spl_bar (by simpa using h3) fun p hp => by
      obtain ⟨r, _, rfl⟩ := List.mem_map.mp hp
      exact rowT_free r (by decide) (.inr (by decide))
    rw [e3] at e2
    generalize Txt.split (⟨(joinL [32, 124, 32] (rows.map rowT)).toArray⟩ : Str) bar = ws at e2
    have key : ∀ (ws : List Str) (rows : List (List Int)), (∀ r ∈ rows, RowSm r) → ws.map tl = rows.map rowT → ws.map numsO = rows.map some := fun ws => by
      induction ws with
      | nil =>
        intro rows _ h
        cases rows with
        | nil => rfl
        | cons a l => simp at h
      | cons w ws ih =>
        intro rows hr h
        cases rows with
        | nil => simp at h
        | cons a l =>
          rw [List.map_cons, List.map_cons] at h
          injection h with h1 h2
          have ra := hr a List.mem_cons_self
          have : w = (⟨(rowT a).toArray⟩ : Str) := ext_tl h1
          rw [List.map_cons, List.map_cons, ih l (fun r hr' => hr r (List.mem_cons_of_mem _ hr')) h2, this]
          exact congrArg (· :: _) (nums_back ra.1 ra.2)
    exact key ws rows h4 e2
  rw [sb, allO_map]
  have n2 : numsO (⟨(numL i.toNat ++ 32 :: numL j.toNat).toArray⟩ : Str) = some [i, j] := nums_back (l := [i, j]) (by simp) fun x hx => by
    simp only [List.mem_cons, List.not_mem_nil, or_false] at hx
    rcases hx with rfl | rfl
    · exact ⟨a1, a2⟩
    · exact ⟨a3, a4⟩
  have := word_back (f := fun y => two (numsO y) (some rows)) n_tie (numL i.toNat ++ 32 :: numL j.toNat)
  refine this.trans ?_
  show two (numsO _) (some rows) = _
  rw [n2] <;> rfl
end L2
namespace L2
open PySem PySem.Spec PyProof.Rows
section
variable {X : Cx} {pos : Pos}
theorem pgs_star {e : Expr} {es : List Expr} {t : TG} {u : TGs} {p : Pos} (h1 : PG X e t) (h2 : PGs X es u) : PGs X (.Starred e p :: es) (gCons t u) := by
  refine ⟨fun pins s σ H vs us Q I r h => ?_⟩
  obtain ⟨v, vr, e1, h⟩ := h
  subst e1
  cases r with
  | cons r rr =>
    show wpAny _ _ (assignInOrder (assign e X.env :: (assignEach es X.env).map (·.2)) _) _ _ _
    refine assignInOrder_cons (thn (h1.run pins s σ H _ _ _ I r h) fun _ s1 ⟨σ1, H1, I1, q1⟩ => ?_)
    exact h2.run pins s1 σ1 H1 _ _ Q I1 rr q1
/-- (a, b, *rest) = a list: what is left over is a new list -/
def gStar (K : PySem.W.Frag) (i : Nat) (t : TGs) : TG := fun v σ H Q => ∃ a xs, v = .ref a ∧ SqL K H a xs ∧ i ≤ xs.length ∧ ∀ p, H p = none → t (xs.take i ++ [.ref p]) σ (upd H p (.lst (xs.drop i))) Q
theorem pg_star {es : List Expr} {k : Nat} {t : TGs} {i : Nat} (hc : X.calm = true) (h : PGs X es t)
    (hn : (assignEach es X.env).length = i + 1 := by rfl) (hst : (assignEach es X.env).findIdx? (·.1) = some i := by rfl) : PG X (.Tuple es k pos) (gStar X.K i t) := by
  refine ⟨fun pins s σ H v u Q I r hw => ?_⟩
  obtain ⟨a, xs, e1, hq, hi, hw⟩ := hw
  subst e1
  cases r
  obtain ⟨its, rv, pl, hz⟩ := I.list hq
  have hl := pl.isList
  have hh := I.ok.hd hc
  have hxl := rv.length
  rw [PyProof.Rows.assign_Tuple]
  refine wpAny_bind (wpAny_standAt ?_)
  unfold unpack
  rw [hn, hst]
  refine wpAny_bind (wpAny_holding ?_)
  have hlt : a ≠ s.heap.objs.size := by obtain ⟨o, ho, _⟩ := hl; exact Nat.ne_of_lt (Heap.lt_size ho)
  have sz : its.toArray.size = its.length := List.size_toArray
  unfold unpackItems
  refine wpAny_bind ?_
  unfold notIterableAtAll
  refine wpAny_bind (wpAny_specialOf hl.typeIs slot_list_iter.lookup ?_)
  refine wpAny_pure ?_
  simp only [Bool.false_eq_true, if_false]
  refine wpAny_bind (wpAny_holding (wpAny_pyIter_list hl ?_))
  refine wpAny_bind (wpAny_holding (PySem.W.kun_draw hlt i 0 _ _ ⟨_, Heap.get?_push_size _ rfl, rfl, rfl⟩ (hl.push _) (by omega) fun h₁ hit₁ hs₁ => ?_))
  have hl₁ : h₁.IsList a its.toArray := (hl.push _).extBut hs₁.extBut hlt
  rw [Nat.zero_add] at hit₁
  have hit₁' := hit₁
  obtain ⟨oi, hoi, _⟩ := hit₁'
  have hl₁' := hl₁
  obtain ⟨ol, hol, _⟩ := hl₁'
  rw [List.drop_zero]
  have hfl : (its.toArray.toList.take i).length = i := by rw [List.length_take, Array.length_toList]; omega
  rw [if_neg (show ¬ ((its.toArray.toList.take i).length < i) by rw [hfl]; omega)]
  refine wpAny_bind (wpAny_holding (PySem.W.kun_collect (s := { s with heap := h₁ }) (T := "list_iterator") (.inr (.inr (.inl rfl))) (Walks.list (A := X.A.in1) hh s.heap.objs.size a hlt its.toArray) (fun j u st => st.1.typeIs) (k := i) (by omega) ⟨hit₁, hl₁⟩ (Heap.lt_size hoi) (Heap.lt_size hol) (fun h₂ tk hk => ?_) (by omega)))
  have hrl : (its.toArray.toList.drop i).length = its.toArray.size - i := by rw [List.length_drop, Array.length_toList]
  show wpAny _ _ (if (its.toArray.toList.drop i).length < i + 1 - 1 - i then _ else _) _ _ _
  rw [if_neg (by rw [hrl]; omega)]
  show wpAny _ _ (newList ((its.toArray.toList.drop i).take ((its.toArray.toList.drop i).length - (i + 1 - 1 - i))) >>= fun d => pure (its.toArray.toList.take i ++ [d] ++ (its.toArray.toList.drop i).drop ((its.toArray.toList.drop i).length - (i + 1 - 1 - i)))) _ _ _
  rw [show i + 1 - 1 - i = 0 by omega, Nat.sub_zero, List.take_length, List.drop_length]
  have he : ∀ b u, s.heap.get? b = some u → h₂.get? b = some u := fun b o e => hk b o (Nat.ne_of_lt (Heap.lt_size e)) (hs₁.extBut b o (Nat.ne_of_lt (Heap.lt_size e)) (Heap.get?_push_of_some _ e))
  have I1 : Inv X pins σ H { s with heap := h₂, toks := tk } := I.kept he
  refine wpAny_bind (wpAny_newList ?_ (by rw [hrl]; omega))
  refine wpAny_pure ?_
  have hf : H h₂.objs.size = none := I1.hok.fresh (Nat.le_refl _)
  have I2 : Inv X pins σ (upd H h₂.objs.size (.lst (xs.drop i))) { s with heap := h₂.push (seqObj "list" (its.toArray.toList.drop i).toArray 0), toks := tk } := I1.laid (t' := tk) (fun b u e => Heap.get?_push_of_some _ e) (Nat.le_refl _) ⟨by rw [List.length_drop]; omega, its.toArray.toList.drop i, 0, rv.drop i, Heap.get?_push_size _ rfl⟩
  rw [List.append_nil]
  exact h.run pins _ σ _ _ _ Q I2 (Vals.append (rv.take i) (Paired.cons (show RelV (.ref h₂.objs.size) (.ref h₂.objs.size) from rfl) Paired.nil)) (hw _ hf)
end
def rGeT (K : PySem.W.Frag) : R2 := fun x y H Q => ∃ (a b : Addr) (ns ms : List Int), x = .ref a ∧ y = .ref b ∧ SqT K H a (ns.map V.int) ∧ SqT K H b (ms.map V.int) ∧
  Q (.bl (Ob.lexAt (fun j => decide (ns.getD j 0 = ms.getD j 0)) (fun j => decide (ms.getD j 0 ≤ ns.getD j 0)) (decide (ms.length ≤ ns.length)) 0 (min ns.length ms.length))) H
theorem op_geT {X : Cx} (hu : X.A.units < cLine) : OpR X (compareOp .GtE) (rGeT X.K) := by
  intro pins s σ H x y v u Q I rx ry h
  obtain ⟨a, b, ns, ms, rfl, rfl, ha, hb, q⟩ := h
  cases rx
  cases ry
  obtain ⟨its, r1, p1, _⟩ := I.tuple ha
  obtain ⟨its2, r2, p2, _⟩ := I.tuple hb
  have i1 : IntsAre its ns := Vals.ints r1
  have i2 : IntsAre its2 ms := Vals.ints r2
  have e1 : its.toArray.size = ns.length := by rw [List.size_toArray]; exact i1.length
  have e2 : its2.toArray.size = ms.length := by rw [List.size_toArray]; exact i2.length
  have at1 : ∀ j (h1 : j < its.toArray.size), ∃ t, its.toArray[j] = .int (ns.getD j 0) t := fun j h1 => PyProof.Rows.IntsAre.int_at i1 _ _ (by simp at h1; simp [h1])
  have at2 : ∀ j (h1 : j < its2.toArray.size), ∃ t, its2.toArray[j] = .int (ms.getD j 0) t := fun j h1 => PyProof.Rows.IntsAre.int_at i2 _ _ (by simp at h1; simp [h1])
  have R := Ob.RcOp.tuples_ge (A := X.A) (s := s) (e := fun j => decide (ns.getD j 0 = ms.getD j 0)) (r := fun j => decide (ms.getD j 0 ≤ ns.getD j 0)) p1 p2 hu (fun j h1 h2 => by
    obtain ⟨t, et⟩ := at1 j h1
    obtain ⟨t', et'⟩ := at2 j h2
    rw [et, et']
    have z : (ns.getD j 0 == ms.getD j 0) = decide (ns.getD j 0 = ms.getD j 0) := by
      by_cases q : ns.getD j 0 = ms.getD j 0
      · rw [decide_eq_true q]; exact beq_iff_eq.mpr q
      · rw [decide_eq_false q]; exact beq_eq_false_iff_ne.mpr q
    rw [← z]
    exact SeqAt.EqAt.int_int _ _ _ _) (fun j h1 h2 _ => by
    obtain ⟨t, et⟩ := at1 j h1
    obtain ⟨t', et'⟩ := at2 j h2
    rw [et, et']
    exact Ob.RcOp.ge_int _ _ _ _)
  rw [e1, e2] at R
  have z : wpAny (model X.prog X.w) X.A (compareOp .GtE (.ref a) (.ref b)) (EP X pins σ Q) X.xe s := R X.prog X.w X.xe (EP X pins σ Q) ⟨.bl _, H, I, rfl, q⟩
  exact z
end L2
namespace L2
open PySem PySem.Spec PyProof.Rows TL
@[elab_as_elim] theorem new_step {H : Hp} {a : Addr} {o : HO} {Q : Hp → Prop} (h : H a = none) (k : ∀ G, Same H G → G a = some o → Q G) : Q (upd H a o) := k _ (Same.new h) upd_same
theorem logn {n : Int} (h : n.natAbs < 2 ^ 1000) : n.natAbs.log2 < 1920 := by
  by_cases z : n.natAbs = 0
  · rw [z]
    decide
  · have := (Nat.log2_lt z (k := 1000)).mpr h
    omega
theorem natsum_le {c : Nat} : ∀ (l : List Nat), (∀ x ∈ l, x ≤ c) → l.sum ≤ l.length * c
  | [], _ => Nat.zero_le _
  | x :: l, h => by
    have := natsum_le l fun y hy => h y (List.mem_cons_of_mem _ hy)
    have := h x List.mem_cons_self
    rw [List.sum_cons, List.length_cons, Nat.add_mul, Nat.one_mul]
    omega
theorem len_joinL : ∀ (ps : List (List Nat)) (c : Nat), (∀ p ∈ ps, p.length ≤ c) → (joinL [32] ps).length ≤ ps.length * (c + 1)
  | [], _, _ => Nat.zero_le _
  | [p], c, h => by
    have := h p List.mem_cons_self
    show p.length ≤ 1 * (c + 1)
    omega
  | p :: q :: r, c, h => by
    have i := len_joinL (q :: r) c fun x hx => h x (List.mem_cons_of_mem _ hx)
    have := h p List.mem_cons_self
    show (p ++ ([32] ++ joinL [32] (q :: r))).length ≤ _
    rw [List.length_append, List.length_append, List.length_cons (a := p), Nat.add_mul (q :: r).length 1, Nat.one_mul]
    show p.length + (1 + _) ≤ _
    omega
def optV : Option Int → V
  | some i => .int i
  | none => .non
theorem numV_opt (w : Str) : numV w = optV (numO w) := by unfold numV optV; cases numO w <;> rfl
theorem inV_opts : ∀ l : List (Option Int), inV V.non (l.map optV) = decide (none ∈ l)
  | [] => rfl
  | o :: l => by
    unfold inV
    rw [List.map_cons, List.any_cons]
    have ih := inV_opts l
    unfold inV at ih
    rw [ih]
    cases o with
    | none =>
      show (true || _) = _
      rw [Bool.true_or, decide_eq_true (List.mem_cons_self)]
    | some i =>
      show (false || _) = _
      rw [Bool.false_or]
      refine decide_eq_decide.mpr ⟨fun h => List.mem_cons_of_mem _ h, fun h => ?_⟩
      rcases List.mem_cons.mp h with h | h
      · cases h
      · exact h
theorem flat_opts : ∀ l : List (Option Int), (l.map optV).all flatV = true
  | [] => rfl
  | o :: l => by
    rw [List.map_cons, List.all_cons, flat_opts l]
    cases o <;> rfl
theorem one_sp : tl (" " : Str) = [32] := by decide +kernel
theorem one_nl : tl ("\n" : Str) = [10] := by decide +kernel
theorem nl_is : ("\n" : Str) = (⟨#[10]⟩ : Str) := ext_tl one_nl
theorem sp_is : (" " : Str) = (⟨#[32]⟩ : Str) := ext_tl one_sp
theorem sl_is : ("/" : Str) = (⟨#[47]⟩ : Str) := ext_tl (by decide +kernel)
theorem cs_is : (": " : Str) = cs := ext_tl (by decide +kernel)
theorem e_emp : ("" : Str) = Str.empty := ext_tl (by decide +kernel)
theorem tl_str {c : Int} (h : 0 ≤ c) : tl (Str.ofString (toString c)) = numL c.toNat := by
  obtain ⟨k, rfl⟩ := Int.eq_ofNat_of_zero_le h
  exact tl_num k
theorem part_len (x y : Str) (hy : tl y ≠ []) : (Txt.partition x y).1.length ≤ x.length ∧ (Txt.partition x y).2.2.length ≤ x.length := by
  have pp := partition_par x y hy
  cases h : par (tl y) [] (tl x) with
  | none =>
    rw [h] at pp
    rw [pp]
    exact ⟨Nat.le_refl _, Nat.zero_le _⟩
  | some q =>
    obtain ⟨u, z⟩ := q
    rw [h] at pp
    rw [pp]
    have key : ∀ (l acc u z : List Nat), par (tl y) acc l = some (u, z) → u.length ≤ acc.length + l.length ∧ z.length ≤ l.length := fun l => by
      induction l with
      | nil => intro acc u z h; cases h
      | cons c l ih =>
        intro acc u z h
        cases hc : pre (tl y) (c :: l) with
        | true =>
          rw [par_hit hc] at h
          cases h
          exact ⟨by omega, by rw [List.length_drop]; omega⟩
        | false =>
          rw [par_miss hc] at h
          obtain ⟨h1, h2⟩ := ih _ _ _ h
          rw [List.length_append] at h1
          simp at h1
          rw [List.length_cons]
          omega
    obtain ⟨h1, h2⟩ := key _ _ _ _ h
    rw [len_tl x]
    rw [List.length_nil, Nat.zero_add] at h1
    exact ⟨h1, h2⟩
end L2
namespace Law
open PySem L2 TL
theorem dec_str (x y : Str) : decide (V.str x = V.str y) = decide (x = y) := by
  by_cases h : x = y
  · rw [h, decide_eq_true rfl, decide_eq_true rfl]
  · rw [decide_eq_false h]
    exact decide_eq_false fun e => h (V.str.inj e)
section
variable {P : Program} {w : World} {K : PySem.W.Frag} {mg : Str → Option Value} {base : Heap}
def spNum : Sp := fun vs H Q _ => ∃ (x : Str), vs = [.str x] ∧ x.length ≤ 16000000 ∧ Q (numV x) H
abbrev nNumberOfText : List Str := ["text"]
theorem scNumberOfText : FnScope nNumberOfText ["text"] (defScope s_number_of_text) := ⟨rfl, rfl, rfl, by decide +kernel, rfl, by decide +kernel, by decide +kernel⟩
theorem ok_number_of_text {f : Addr} {fd : FuncData} (F : Fun K "number_of_text" "number_of_text" s_number_of_text f fd) (T : NmA mg) : FnOk P w K mg base CX0 1 f fd ["text"] spNum := by
  refine F.ok scNumberOfText (fun vs H Q E h => ?_) (fun cdv A' outer s H vs Q E hr h => ?_)
  · obtain ⟨x, rfl, _⟩ := h
    rfl
  · obtain ⟨x, rfl, hl, k⟩ := h
    refine ⟨_, pss_cons (ps_if (PW.pt (pw_or (pt_not (pt_val (pe_m0 PySem.F.slot_str_isascii PySem.F.type_str_isascii mt_isascii (pv 0)))) (pw_or (pt_not (pt_val (pe_m0 PySem.F.slot_str_isdigit PySem.F.type_str_isdigit mt_isdigit (pv 0)))) (pw_or1 (pt_cmpR op_gt (pe_callB call_len_str (by rfl) T.len PySem.boot_len (pa_cons (pv 0) pa_nil)) pe_int (nomark _))))))
        (pss_one (ps_ret pe_non)) pss_nil)
      (pss_cons (ps_if (PW.pt (pw_and (pt_val (pe_m1 PySem.F.slot_str_startswith PySem.F.type_str_startswith mt_startswith (pv 0) pe_str)) (pw_and1 (pt_cmpR op_ne (pv 0) pe_str (nomark _)))))
        (pss_one (ps_ret pe_non)) pss_nil)
      (pss_one (ps_ret (pe_callTy call_int_str (by rfl) T.int (by decide +kernel) (pa_cons (pv 0) pa_nil))))), ?_⟩
    have z : x.length ≤ sizeLine := by rw [sizeLine_eq]; omega
    unfold numV numO at k
    refine ⟨_, rfl, ⟨_, rfl⟩, x, rfl, rfl, trivial, ?_⟩
    refine ⟨_, rfl, ?_⟩
    cases ha : Txt.isascii x with
    | false =>
      rw [ha] at k
      exact iteT k
    | true =>
      refine iteF ⟨_, rfl, ⟨_, rfl⟩, x, rfl, rfl, trivial, _, rfl, ?_⟩
      cases hd : Txt.isdigit x with
      | false =>
        rw [ha, hd] at k
        exact iteT k
      | true =>
        rw [ha, hd] at k
        change Q (match (if decide ((12 : Int) < ((x.length : Nat) : Int)) = true then none else _) with | some i => .int i | none => .non) H at k
        refine iteF ⟨_, rfl, x, rfl, z, _, _, rfl, rfl, _, rfl, ite2 (fun h12 => ?_) (fun h12 => ?_)⟩
        · rw [if_pos h12] at k
          exact k
        · rw [if_neg h12] at k
          refine ⟨_, rfl, ⟨_, rfl⟩, x, _, rfl, rfl, _, rfl, ?_⟩
          have fin : (Txt.startswith x "0" && !decide (x = "0")) = false → ∃ a n, [V.str x] = [.str a] ∧ PySem.intText? a = some n ∧ a.length ≤ 640 ∧ Q (.int n) H := fun e => by
            rw [e] at k
            have as := (asc_iff x).mp ha
            obtain ⟨d1, d2⟩ := (dig_iff as).mp hd
            have l12 : ¬ (12 : Int) < ((x.length : Nat) : Int) := fun q => h12 (decide_eq_true q)
            exact ⟨x, _, rfl, intText_digits d2 d1 (by omega), by omega, k⟩
          cases hs : Txt.startswith x "0" with
          | false => exact iteF ⟨_, rfl, fin (by rw [hs] <;> rfl)⟩
          | true =>
            refine iteT ⟨_, rfl, rfl, _, rfl, ?_⟩
            rw [dec_str]
            cases hz : decide (x = ("0" : Str)) with
            | true => exact iteF ⟨_, rfl, fin (by rw [hs, hz] <;> rfl)⟩
            | false =>
              rw [hs, hz] at k
              exact iteT k
def spHeadB : Sp := fun vs H Q _ => ∃ (wd x : Str), vs = [.str wd, .str x] ∧ x.length ≤ 16000000 ∧ ∀ H', Same H H' → Q (optV (headW wd x)) H'
abbrev nNumberBehind : List Str := ["word", "line", "begun", "_", "rest"]
theorem scNumberBehind : FnScope nNumberBehind ["word", "line"] (defScope s_number_behind) := ⟨rfl, rfl, rfl, by decide +kernel, rfl, by decide +kernel, by decide +kernel⟩
theorem ok_number_behind {f : Addr} {fd : FuncData} {fcNum : Addr} {fdcNum : FuncData} (F : Fun K "number_behind" "number_behind" s_number_behind f fd) (T : NmA mg) (cNum : Cl P w K mg base CX0 1 "number_of_text" fcNum fdcNum ["text"] spNum) : FnOk P w K mg base CX0 2 f fd ["word", "line"] spHeadB := by
  refine F.ok scNumberBehind (fun vs H Q E h => ?_) (fun cdv A' outer s H vs Q E hr h => ?_)
  · obtain ⟨wd, x, rfl, _⟩ := h
    rfl
  · obtain ⟨wd, x, rfl, xl, k⟩ := h
    have hu := hu_of hr
    refine ⟨_, pss_cons (ps_asg (pe_m1 PySem.F.slot_str_partition PySem.F.type_str_partition mt_partition (pv 1) pe_str) (pg_tup (by rfl) (pgs_cons (pg_name (i := 2) scNumberBehind.nd rfl (Or.inl rfl)) (pgs_cons (pg_name (i := 3) scNumberBehind.nd rfl (Or.inl rfl)) (pgs_cons (pg_name (i := 4) scNumberBehind.nd rfl (Or.inl rfl)) pgs_nil)))))
      (pss_one (ps_ret (pe_ifExp (pt_cmpR op_eq (pv 2) (pv 0) (nomark _)) (cNum.call (hr.mono (by decide)) (pa_cons (pv 4) pa_nil)) pe_non))), ?_⟩
    have z : x.length ≤ sizeLine := by rw [sizeLine_eq]; omega
    obtain ⟨l1, l2⟩ := part_len x (" " : Str) (by rw [one_sp]; simp)
    refine ⟨_, rfl, ⟨_, rfl⟩, x, _, rfl, rfl, by decide +kernel, z, fun p hp => ?_⟩
    refine new_step hp fun H1 s1 e1 => ?_
    refine ⟨p, _, rfl, SqT.of e1, rfl, _, _, rfl, _, _, rfl, _, _, rfl, rfl, ?_⟩
    have kk := k H1 s1
    unfold headW at kk
    rw [← sp_is] at kk
    refine ⟨_, rfl, _, rfl, rfl, _, rfl, ?_⟩
    rw [dec_str]
    by_cases e : (Txt.partition x (" " : Str)).1 = wd
    · rw [decide_eq_true e]
      rw [if_pos e] at kk
      exact iteT ⟨_, rfl, _, rfl, by omega, by rw [numV_opt]; exact kk⟩
    · rw [decide_eq_false e]
      rw [if_neg e] at kk
      exact iteF kk
def spNums (K : PySem.W.Frag) : Sp := fun vs H Q _ => ∃ (x : Str), vs = [.str x] ∧ x.length ≤ 16000000 ∧ (∀ H', numsO x = none → Same H H' → Q .non H') ∧ (∀ l p H', numsO x = some l → Same H H' → SqT K H' p (l.map V.int) → Q (.ref p) H')
theorem spl_bound (x : Str) : (∀ u ∈ Txt.split x (⟨#[32]⟩ : Str), u.length ≤ x.length) ∧ (Txt.split x (⟨#[32]⟩ : Str)).length ≤ x.length + 1 := by
  have hy : tl (⟨#[32]⟩ : Str) = [32] := rfl
  have e := split_spl x (⟨#[32]⟩ : Str) (by rw [hy]; simp) (kind_ok (by simp))
  rw [hy] at e
  have j : joinL [32] (spl [32] 0 [] (tl x)) = tl x := by rw [join_spl, List.nil_append]
  refine ⟨fun u hu => ?_, ?_⟩
  · have m : tl u ∈ spl [32] 0 [] (tl x) := by rw [← e]; exact List.mem_map.mpr ⟨u, hu, rfl⟩
    have := mem_joinL 32 m
    rw [j, ← len_tl, ← len_tl] at this
    exact this
  · have z := cnt_joinL 32 (spl [32] 0 [] (tl x))
    rw [j, ← len_tl, ← e, List.length_map] at z
    exact z
abbrev nNumbersOfText : List Str := ["text", "numbers", "word"]
theorem scNumbersOfText : FnScope nNumbersOfText ["text"] (defScope s_numbers_of_text) := ⟨rfl, rfl, rfl, by decide +kernel, rfl, by decide +kernel, by decide +kernel⟩
theorem ok_numbers_of_text {f : Addr} {fd : FuncData} {fcNum : Addr} {fdcNum : FuncData} (F : Fun K "numbers_of_text" "numbers_of_text" s_numbers_of_text f fd) (T : NmA mg) (cNum : Cl P w K mg base CX0 1 "number_of_text" fcNum fdcNum ["text"] spNum) : FnOk P w K mg base CX0 2 f fd ["text"] (spNums K) := by
  refine F.ok scNumbersOfText (fun vs H Q E h => ?_) (fun cdv A' outer s H vs Q E hr h => ?_)
  · obtain ⟨x, rfl, _⟩ := h
    rfl
  · obtain ⟨x, rfl, xl, k1, k2⟩ := h
    have hu := hu_of hr
    refine ⟨_, pss_cons (ps_setLc (i := 1) (own := [("word", 2)]) (g := (gName 2)) (tt := tYes) (by rfl) scNumbersOfText.nd rfl rfl (sw_true rfl rfl rfl (by decide +kernel)) (pi_list (pe_m1 PySem.F.slot_str_split PySem.F.type_str_split mt_split (pv 0) pe_str)) (blkOk_by (own := [("word", 2)]) (N := nNumbersOfText) (sc := defScope s_numbers_of_text) (by decide +kernel)) (fun _ _ _ _ _ => (pg_name (i := 2) scNumbersOfText.nd rfl (Or.inl rfl))) (fun _ _ _ _ _ => pts_nil) (fun _ _ _ _ _ => (cNum.call (hr.mono (by decide)) (pa_cons (pv 2) pa_nil))))
      (pss_one (ps_ret (pe_ifExp (pt_cmpR op_in_seq pe_non (pv 1) (by rfl)) pe_non (pe_callTy call_tuple_of (by rfl) T.tuple (by decide +kernel) (pa_cons (pv 1) pa_nil))))), ?_⟩
    have z : x.length ≤ sizeLine := by rw [sizeLine_eq]; omega
    obtain ⟨wl, cl⟩ := spl_bound x
    rw [← sp_is] at wl cl
    have hn : numsO x = allO ((Txt.split x (" " : Str)).map numO) := by rw [sp_is] <;> rfl
    refine ⟨_, rfl, ⟨_, rfl⟩, x, _, rfl, rfl, by decide +kernel, by rw [sizeLine_eq]; omega, fun p hp => ?_⟩
    refine new_step hp fun H1 s1 e1 => ?_
    generalize Txt.split x (" " : Str) = ws at wl cl e1 hn
    refine ⟨p, rfl, ⟨_, SqL.of e1⟩, fun D hD => ?_⟩
    refine lc_list (K := K) (a := p) (xs := ws.map V.str) (fun i H' => Same H1 H' ∧ H' D = some (.lst ((ws.take i).map numV))) ⟨Same.new hD, upd_same⟩ (fun i H' _ g => SqL.of (g.1 _ _ e1)) (fun i y H2 hi g => ?_) fun H2 g => ?_
    · obtain ⟨s2, g2⟩ := g
      rw [List.getElem?_map] at hi
      obtain ⟨u, hu, rfl⟩ := Option.map_eq_some_iff.mp hi
      have il := (List.getElem?_eq_some_iff.mp hu).1
      refine ⟨rfl, _, rfl, u, rfl, by have := wl u (List.mem_of_getElem? hu); omega, _, g2, ?_, s2.mut hD, ?_⟩
      · rw [List.length_map, List.length_take, sizeLine_eq]
        omega
      · rw [upd_same, List.take_add_one, hu, List.map_append] <;> rfl
    · obtain ⟨s2, g2⟩ := g
      rw [List.length_map, List.take_length] at g2
      have e2 : ws.map numV = (ws.map numO).map optV := by
        rw [List.map_map]
        exact List.map_congr_left fun w _ => numV_opt w
      rw [e2] at g2
      refine ⟨_, rfl, D, _, rfl, .inl (SqL.of g2), rfl, flat_opts _, _, rfl, ?_⟩
      rw [inV_opts]
      cases h : allO (ws.map numO) with
      | none =>
        rw [show (if false = true then !decide (none ∈ ws.map numO) else decide (none ∈ ws.map numO)) = true by rw [if_neg Bool.false_ne_true]; exact decide_eq_true (allO_none.mp h)]
        exact iteT (k1 H2 (hn.trans h) (s1.trans s2))
      | some l =>
        rw [show (if false = true then !decide (none ∈ ws.map numO) else decide (none ∈ ws.map numO)) = false by rw [if_neg Bool.false_ne_true]; exact decide_eq_false fun m => by rw [allO_none.mpr m] at h; cases h]
        have e3 := allO_some h
        rw [e3, List.map_map] at g2
        refine iteF ⟨_, rfl, D, _, rfl, .inl ⟨SqL.of g2, fun q hq => k2 l q _ (hn.trans h) ((s1.trans s2).mut (s1.free (s2.free hq))) (SqT.of upd_same)⟩⟩
end
end Law

namespace L2
open PySem PySem.Spec PyProof.Rows TL
def rLenK (K : PySem.W.Frag) : List V → Hp → VK → Prop := fun xs H Q => ∃ p ys, xs = [.ref p] ∧ (SqL K H p ys ∨ SqT K H p ys) ∧ Q (.int (ys.length : Nat)) H
theorem filter_snoc {α : Type} {f : α → Bool} {xs : List α} {i : Nat} {x : α} (h : xs[i]? = some x) : (xs.take (i + 1)).filter f = (xs.take i).filter f ++ if f x = true then [x] else [] := by
  rw [List.take_add_one, h, List.filter_append]
  congr 1
  show [x].filter f = _
  rw [List.filter_cons, List.filter_nil]
theorem in_two (p i j : Int) : inV (.int p) [.int i, .int j] = (decide (p = i) || decide (p = j)) := by
  unfold inV
  rw [List.any_cons, List.any_cons, List.any_nil, Bool.or_false]
  show (decide (i = p) || decide (j = p)) = _
  rw [decide_eq_decide.mpr (show i = p ↔ p = i from ⟨Eq.symm, Eq.symm⟩), decide_eq_decide.mpr (show j = p ↔ p = j from ⟨Eq.symm, Eq.symm⟩)]
/-! ### a model's data -/
def AllIn {α : Type} (R : V → α → Prop) (vs : List V) (l : List α) : Prop := vs.length = l.length ∧ ∀ (i : Nat) (v : V), vs[i]? = some v → ∃ x, l[i]? = some x ∧ R v x
theorem AllIn.mono {α : Type} {R R' : V → α → Prop} {vs : List V} {l : List α} (h : AllIn R vs l) (f : ∀ v x, R v x → R' v x) : AllIn R' vs l := ⟨h.1, fun i v hv => by
  obtain ⟨x, h1, h2⟩ := h.2 i v hv
  exact ⟨x, h1, f _ _ h2⟩⟩
theorem snoc_getA {α : Type} {xs : List α} {y v : α} {i : Nat} (h : (xs ++ [y])[i]? = some v) : (i < xs.length ∧ xs[i]? = some v) ∨ (i = xs.length ∧ y = v) := by
  by_cases hi : i < xs.length
  · rw [List.getElem?_append_left hi] at h
    exact .inl ⟨hi, h⟩
  · rw [List.getElem?_append_right (by omega)] at h
    have : i - xs.length = 0 := by
      cases e : i - xs.length with
      | zero => rfl
      | succ n => rw [e] at h; simp at h
    rw [this] at h
    exact .inr ⟨by omega, Option.some.inj h⟩
theorem AllIn.snoc {α : Type} {R : V → α → Prop} {vs : List V} {l : List α} {v : V} {x : α} (h : AllIn R vs l) (hv : R v x) : AllIn R (vs ++ [v]) (l ++ [x]) := by
  refine ⟨by rw [List.length_append, List.length_append, h.1] <;> rfl, fun i u hu => ?_⟩
  rcases snoc_getA hu with ⟨hi, e⟩ | ⟨hi, e⟩
  · obtain ⟨y, h1, h2⟩ := h.2 i u e
    exact ⟨y, by rw [List.getElem?_append_left (by rw [← h.1]; exact hi)]; exact h1, h2⟩
  · subst e
    refine ⟨x, ?_, hv⟩
    rw [List.getElem?_append_right (by rw [hi, h.1]; exact Nat.le_refl _), hi, h.1, Nat.sub_self]
    rfl
theorem AllIn.nil {α : Type} {R : V → α → Prop} : AllIn R [] [] := ⟨rfl, fun i v hv => by simp at hv⟩
theorem AllIn.drop {α : Type} {R : V → α → Prop} {vs : List V} {l : List α} (n : Nat) (h : AllIn R vs l) : AllIn R (vs.drop n) (l.drop n) := ⟨by rw [List.length_drop, List.length_drop, h.1], fun i v hv => by
  rw [List.getElem?_drop] at hv
  obtain ⟨x, h1, h2⟩ := h.2 _ v hv
  exact ⟨x, by rw [List.getElem?_drop]; exact h1, h2⟩⟩
theorem AllIn.take {α : Type} {R : V → α → Prop} {vs : List V} {l : List α} (n : Nat) (h : AllIn R vs l) : AllIn R (vs.take n) (l.take n) := ⟨by rw [List.length_take, List.length_take, h.1], fun i v hv => by
  rw [List.getElem?_take] at hv
  split at hv
  · rename_i c
    obtain ⟨x, h1, h2⟩ := h.2 _ v hv
    exact ⟨x, by rw [List.getElem?_take, if_pos c]; exact h1, h2⟩
  · cases hv⟩
theorem sqT_updL {K : PySem.W.Frag} {H : Hp} {a D : Addr} {acc xs : List V} {o : HO} (hD : H D = some (.lst acc)) (h : SqT K H a xs) : SqT K (upd H D o) a xs := by
  rcases h with (z | ⟨q, z⟩) | z
  · refine .inl (.inl ?_)
    rw [upd_ne (ne_of z hD (by intro y; cases y))]
    exact z
  · refine .inl (.inr ⟨q, ?_⟩)
    rw [upd_ne (ne_of z hD (by intro y; cases y))]
    exact z
  · exact .inr z
def RowAt (K : PySem.W.Frag) (H : Hp) (v : V) (l : List Int) : Prop := ∃ a, v = .ref a ∧ SqT K H a (l.map V.int)
theorem RowAt.same {K : PySem.W.Frag} {H H' : Hp} {v : V} {l : List Int} (s : Same H H') (h : RowAt K H v l) : RowAt K H' v l := by
  obtain ⟨a, h1, h2⟩ := h
  exact ⟨a, h1, s.sqT h2⟩
theorem RowAt.upd {K : PySem.W.Frag} {H : Hp} {D : Addr} {acc : List V} {o : HO} {v : V} {l : List Int} (hD : H D = some (.lst acc)) (h : RowAt K H v l) : RowAt K (upd H D o) v l := by
  obtain ⟨a, h1, h2⟩ := h
  exact ⟨a, h1, sqT_updL hD h2⟩
def RowsAt (K : PySem.W.Frag) (H : Hp) (a : Addr) (t : List (List Int)) : Prop := ∃ vs, SqT K H a vs ∧ AllIn (RowAt K H) vs t
theorem RowsAt.same {K : PySem.W.Frag} {H H' : Hp} {a : Addr} {t : List (List Int)} (s : Same H H') (h : RowsAt K H a t) : RowsAt K H' a t := by
  obtain ⟨vs, h1, h2⟩ := h
  exact ⟨vs, s.sqT h1, h2.mono fun _ _ => RowAt.same s⟩
theorem RowsAt.upd {K : PySem.W.Frag} {H : Hp} {D : Addr} {acc : List V} {o : HO} {a : Addr} {t : List (List Int)} (hD : H D = some (.lst acc)) (h : RowsAt K H a t) : RowsAt K (upd H D o) a t := by
  obtain ⟨vs, h1, h2⟩ := h
  exact ⟨vs, sqT_updL hD h1, h2.mono fun _ _ => RowAt.upd hD⟩
def TieAt (K : PySem.W.Frag) (H : Hp) (v : V) (t : Tie) : Prop := ∃ a b, v = .ref a ∧ SqT K H a [.int t.1.1, .int t.1.2, .ref b] ∧ RowsAt K H b t.2
theorem TieAt.same {K : PySem.W.Frag} {H H' : Hp} {v : V} {t : Tie} (s : Same H H') (h : TieAt K H v t) : TieAt K H' v t := by
  obtain ⟨a, b, h1, h2, h3⟩ := h
  exact ⟨a, b, h1, s.sqT h2, h3.same s⟩
theorem TieAt.upd {K : PySem.W.Frag} {H : Hp} {D : Addr} {acc : List V} {o : HO} {v : V} {t : Tie} (hD : H D = some (.lst acc)) (h : TieAt K H v t) : TieAt K (upd H D o) v t := by
  obtain ⟨a, b, h1, h2, h3⟩ := h
  exact ⟨a, b, h1, sqT_updL hD h2, h3.upd hD⟩
def TiesAt (K : PySem.W.Frag) (H : Hp) (a : Addr) (ts : List Tie) : Prop := ∃ vs, SqT K H a vs ∧ AllIn (TieAt K H) vs ts
theorem TiesAt.same {K : PySem.W.Frag} {H H' : Hp} {a : Addr} {ts : List Tie} (s : Same H H') (h : TiesAt K H a ts) : TiesAt K H' a ts := by
  obtain ⟨vs, h1, h2⟩ := h
  exact ⟨vs, s.sqT h1, h2.mono fun _ _ => TieAt.same s⟩
structure Mdl where
  many : Int
  levels : Int
  ws : List (List Int)
  ts : List Tie
def modF (many levels : Int) (w t : Addr) : List (Str × V) := putF "ties" (.ref t) (putF "weights" (.ref w) (putF "levels" (.int levels) (putF "many" (.int many) [])))
theorem nTM : ¬ ("ties" : Str) = "many" := by decide +kernel
theorem nTL : ¬ ("ties" : Str) = "levels" := by decide +kernel
theorem nTW : ¬ ("ties" : Str) = "weights" := by decide +kernel
theorem nWM : ¬ ("weights" : Str) = "many" := by decide +kernel
theorem nWL : ¬ ("weights" : Str) = "levels" := by decide +kernel
theorem nLM : ¬ ("levels" : Str) = "many" := by decide +kernel
theorem modF_many (m l : Int) (w t : Addr) : (modF m l w t).lookup ("many" : Str) = some (.int m) := by
  unfold modF
  rw [lookup_putF, if_neg (Ne.symm nTM), lookup_putF, if_neg (Ne.symm nWM), lookup_putF, if_neg (Ne.symm nLM), lookup_putF, if_pos rfl]
theorem modF_levels (m l : Int) (w t : Addr) : (modF m l w t).lookup ("levels" : Str) = some (.int l) := by
  unfold modF
  rw [lookup_putF, if_neg (Ne.symm nTL), lookup_putF, if_neg (Ne.symm nWL), lookup_putF, if_pos rfl]
theorem modF_weights (m l : Int) (w t : Addr) : (modF m l w t).lookup ("weights" : Str) = some (.ref w) := by
  unfold modF
  rw [lookup_putF, if_neg (Ne.symm nTW), lookup_putF, if_pos rfl]
theorem modF_ties (m l : Int) (w t : Addr) : (modF m l w t).lookup ("ties" : Str) = some (.ref t) := by
  unfold modF
  rw [lookup_putF, if_pos rfl]
def ModAt (K : PySem.W.Frag) (C : Addr) (H : Hp) (p : Addr) (m : Mdl) : Prop := ∃ dx w t, H p = some (.ins C dx (modF m.many m.levels w t)) ∧ RowsAt K H w m.ws ∧ TiesAt K H t m.ts
theorem ModAt.same {K : PySem.W.Frag} {C : Addr} {H H' : Hp} {p : Addr} {m : Mdl} (s : Same H H') (h : ModAt K C H p m) : ModAt K C H' p m := by
  obtain ⟨dx, w, t, h1, h2, h3⟩ := h
  exact ⟨dx, w, t, s _ _ h1, h2.same s, h3.same s⟩
structure ModT (K : PySem.W.Frag) (mg : Str → Option Value) (C : Addr) : Prop where
  cl : Cls K C
  nK : NoAttr K C "many"
  nL : NoAttr K C "levels"
  nW : NoAttr K C "weights"
  nT : NoAttr K C "ties"
  mgC : mg "Model" = some (.ref C)
  ha : PySem.W.findIn K (.ref C) "__class__" = some (some (.builtin "object.__class__"))
  hn : PySem.W.specialIn K (.builtin "object.__class__") "__get__" = some (some (.builtin "getset_descriptor.__get__"))
  ht : PySem.W.takesIn K (.builtin "object.__class__") = some true
  hm : PySem.W.mroIn K C (.type "object") = some true
theorem ModAt.ty {K : PySem.W.Frag} {mg : Str → Option Value} {C : Addr} {H : Hp} {p : Addr} {m : Mdl} (T : ModT K mg C) (h : ModAt K C H p m) : TyX K H (.ref p) (.ref C) := by
  obtain ⟨dx, w, t, h1, _⟩ := h
  exact .base (.ins h1 T.cl T.ha T.hn T.ht T.hm)
theorem kit_selfM {K : PySem.W.Frag} {v : Value} (h : (v == v) = true) : PySem.W.kitOne K v v = some true := by
  unfold PySem.W.kitOne
  rw [if_pos h]
/-! ### what a model must be -/
def tabB (rows cols : Int) (t : List (List Int)) : Bool := decide ((t.length : Int) = rows) && t.all fun l => decide ((l.length : Int) = cols) && l.all fun x => decide (x ≤ 1000)
def tieB (many levels : Int) (t : Tie) : Bool := decide (t.1.2 < many) && (decide (t.1.1 < t.1.2) && tabB levels levels t.2)
def cntT (ts : List Tie) (p : Int) : Nat := (ts.filter fun t => decide (p = t.1.1) || decide (p = t.1.2)).length
def leP (a b : Int × Int) : Bool := if a.1 = b.1 then decide (a.2 ≤ b.2) else decide (a.1 ≤ b.1)
abbrev RowOk (l : List Int) : Prop := ∀ x ∈ l, 0 ≤ x
abbrev TabOk (t : List (List Int)) : Prop := t.length ≤ 16000000 ∧ ∀ l ∈ t, l.length ≤ 16000000 ∧ RowOk l
/-- small enough to be written -/
structure MdlSm (m : Mdl) : Prop where
  m0 : 0 ≤ m.many
  m1 : m.many ≤ 12
  l0 : 0 ≤ m.levels
  l1 : m.levels ≤ 4
  wl : m.ws.length ≤ 12
  wr : ∀ l ∈ m.ws, l.length ≤ 4 ∧ l ≠ [] ∧ ∀ x ∈ l, 0 ≤ x ∧ x ≤ 1000
  tl : m.ts.length ≤ 144
  tr : ∀ t ∈ m.ts, (0 ≤ t.1.1 ∧ t.1.1 < 12) ∧ (0 ≤ t.1.2 ∧ t.1.2 < 12) ∧ t.2.length ≤ 4 ∧ t.2 ≠ [] ∧ ∀ l ∈ t.2, l.length ≤ 4 ∧ l ≠ [] ∧ ∀ x ∈ l, 0 ≤ x ∧ x ≤ 1000
def linesT (m : Mdl) : List (List Nat) := (tl ("places" : Str) ++ 32 :: numL m.many.toNat) :: (tl ("levels" : Str) ++ 32 :: numL m.levels.toNat) :: (m.ws.map (fun l => tl ("weights" : Str) ++ 32 :: rowT l) ++ m.ts.map tieT)
def modT (m : Mdl) : List Nat := (linesT m).flatMap fun l => l ++ [10]
theorem len_joinS {S : List Nat} : ∀ (ps : List (List Nat)) (c : Nat), (∀ p ∈ ps, p.length ≤ c) → (joinL S ps).length ≤ ps.length * (c + S.length)
  | [], _, _ => Nat.zero_le _
  | [p], c, h => by
    have := h p List.mem_cons_self
    show p.length ≤ 1 * (c + S.length)
    omega
  | p :: q :: r, c, h => by
    have i := len_joinS (S := S) (q :: r) c fun x hx => h x (List.mem_cons_of_mem _ hx)
    have := h p List.mem_cons_self
    show (p ++ (S ++ joinL S (q :: r))).length ≤ _
    rw [List.length_append, List.length_append, List.length_cons (a := p), Nat.add_mul (q :: r).length 1, Nat.one_mul]
    omega
abbrev RowS (l : List Int) : Prop := l.length ≤ 4 ∧ ∀ x ∈ l, 0 ≤ x ∧ x ≤ 1000
theorem numS_len {x : Int} (h0 : 0 ≤ x) (h1 : x ≤ 1000) : (numL x.toNat).length ≤ 4 := numL_len (by decide) (by show x.toNat < 10000; omega)
theorem rowT_len {l : List Int} (h : RowS l) : (rowT l).length ≤ 20 := by
  have z := len_joinS (S := [32]) (l.map fun s => numL s.toNat) 4 fun p hp => by
    obtain ⟨i, hi, rfl⟩ := List.mem_map.mp hp
    exact numS_len (h.2 i hi).1 (h.2 i hi).2
  rw [List.length_map] at z
  have z : (rowT l).length ≤ l.length * (4 + 1) := z
  have := h.1
  omega
theorem numP_len {x : Int} (h0 : 0 ≤ x) (h1 : x < 13) : (numL x.toNat).length ≤ 2 := numL_len (by decide) (by show x.toNat < 100; omega)
theorem rowsT_len {t : List (List Int)} (h : t.length ≤ 4 ∧ ∀ l ∈ t, RowS l) : (joinL [32, 124, 32] (t.map rowT)).length ≤ 92 := by
  have z := len_joinS (S := [32, 124, 32]) (t.map rowT) 20 fun p hp => by
    obtain ⟨l, hl, rfl⟩ := List.mem_map.mp hp
    exact rowT_len (h.2 l hl)
  rw [List.length_map] at z
  have z : (joinL [32, 124, 32] (t.map rowT)).length ≤ t.length * (20 + 3) := z
  have := h.1
  omega
theorem tieT_len {t : Tie} (h0 : 0 ≤ t.1.1 ∧ t.1.1 < 12) (h1 : 0 ≤ t.1.2 ∧ t.1.2 < 12) (h : t.2.length ≤ 4 ∧ ∀ l ∈ t.2, RowS l) : (tieT t).length ≤ 103 := by
  have a := numP_len h0.1 (by omega)
  have b := numP_len h1.1 (by omega)
  have c := rowsT_len h
  unfold tieT
  rw [t_tie]
  simp only [List.length_append, List.length_cons, List.length_nil]
  omega
end L2
namespace Law
open PySem L2 TL
section
variable {P : Program} {w : World} {K : PySem.W.Frag} {mg : Str → Option Value} {base : Heap}
def spRowT (K : PySem.W.Frag) : Sp := fun vs H Q _ => ∃ (a : Addr) (l : List Int), vs = [.ref a] ∧ SqT K H a (l.map V.int) ∧ RowS l ∧ ∀ t H', Same H H' → tl t = rowT l → Q (.str t) H'
abbrev nRowText : List Str := ["row", "number"]
theorem scRowText : FnScope nRowText ["row"] (defScope s_row_text) := ⟨rfl, rfl, rfl, by decide +kernel, rfl, by decide +kernel, by decide +kernel⟩
theorem ok_row_text {f : Addr} {fd : FuncData} (F : Fun K "row_text" "row_text" s_row_text f fd) (T : NmA mg) : FnOk P w K mg base CX0 1 f fd ["row"] (spRowT K) := by
  refine F.ok scRowText (fun vs H Q E h => ?_) (fun cdv A' outer s H vs Q E hr h => ?_)
  · obtain ⟨a, l, rfl, _⟩ := h
    rfl
  · obtain ⟨a, l, rfl, hS, hl, k⟩ := h
    have hu := hu_of hr
    refine ⟨_, pss_one (ps_ret (pe_m1 PySem.F.slot_str_join PySem.F.type_str_join mt_join pe_str (pe_lc (own := [("number", 1)]) (g := (gName 1)) (tt := tYes) rfl scRowText.nd  (pi_tup (pv 0)) (blkOk_by (own := [("number", 1)]) (N := nRowText) (sc := defScope s_row_text) (by decide +kernel)) (fun _ _ _ _ _ => (pg_name (i := 1) scRowText.nd rfl (Or.inl rfl))) (fun _ _ _ _ _ => pts_nil) (fun _ _ _ _ _ => (pe_callTy call_str_int (by rfl) T.str (by decide +kernel) (pa_cons (pv 1) pa_nil)))))), ?_⟩
    refine ⟨⟨_, rfl⟩, _, rfl, a, rfl, ⟨_, hS⟩, fun D hD => ?_⟩
    refine lc_tup (K := K) (a := a) (xs := l.map V.int) (fun j H' => Same H H' ∧ H' D = some (.lst ((l.take j).map fun c => V.str (Str.ofString (toString c))))) ⟨Same.new hD, upd_same⟩ (fun j H' _ g => g.1.sqT hS) (fun j y H4 hj g => ?_) fun H4 g => ?_
    · obtain ⟨s4, g4⟩ := g
      rw [List.getElem?_map] at hj
      obtain ⟨c, hc, rfl⟩ := Option.map_eq_some_iff.mp hj
      obtain ⟨c0, c1⟩ := hl.2 c (List.mem_of_getElem? hc)
      have jl := (List.getElem?_eq_some_iff.mp hc).1
      refine ⟨rfl, _, rfl, c, rfl, logn (Nat.lt_of_le_of_lt (show c.natAbs ≤ 1000 by omega) (by decide)), _, g4, ?_, s4.mut hD, ?_⟩
      · rw [List.length_map, List.length_take]
        exact small1000 (by omega)
      · rw [upd_same, List.take_add_one, hc, List.map_append] <;> rfl
    · obtain ⟨s4, g4⟩ := g
      rw [List.length_map, List.take_length] at g4
      have jt : tl (Txt.join (" " : Str) (l.map fun c => Str.ofString (toString c))) = rowT l := by
        rw [join_eq, tl_join, one_sp, List.map_map]
        exact congrArg (joinL [32]) (List.map_congr_left fun c hc => tl_str (hl.2 c hc).1)
      have sb : ((l.map fun c => Str.ofString (toString c)).map (·.length)).sum ≤ (l.map fun c => Str.ofString (toString c)).length * 4 := by
        have z := natsum_le (c := 4) ((l.map fun c => Str.ofString (toString c)).map (·.length)) fun y hy => by
          obtain ⟨q, hq, rfl⟩ := List.mem_map.mp hy
          obtain ⟨c, hc, rfl⟩ := List.mem_map.mp hq
          obtain ⟨a0, a1⟩ := hl.2 c hc
          rw [len_tl, tl_str a0]
          exact numS_len a0 a1
        rw [List.length_map (as := l.map _)] at z
        exact z
      rw [List.length_map] at sb
      refine ⟨_, D, l.map fun c => Str.ofString (toString c), rfl, rfl, .inl (SqL.of (by rw [List.map_map]; exact g4)), ?_, k _ H4 s4 jt⟩
      have c_sp : (" " : Str).length = 1 := by decide +kernel
      have := hl.1
      rw [List.length_map, c_sp]
      show _ ≤ 16777216
      omega
def rowI (b : Int) (l : List Int) : Bool := l.all fun i => decide (0 ≤ i) && decide (i ≤ b - 1)
def spRowI (K : PySem.W.Frag) : Sp := fun vs H Q _ => ∃ (b : Int) (a : Addr) (l : List Int), vs = [.int b, .ref a] ∧ SqT K H a (l.map V.int) ∧ l.length ≤ 16000000 ∧ ∀ H', Same H H' → Q (.bl (rowI b l)) H'
abbrev nIsRowBelowI : List Str := ["bound", "thing", "part"]
theorem scIsRowBelowI : FnScope nIsRowBelowI ["bound", "thing"] (defScope s_is_row_below) := ⟨rfl, rfl, rfl, by decide +kernel, rfl, by decide +kernel, by decide +kernel⟩
theorem ok_rowI {f : Addr} {fd : FuncData} {fcWithin : Addr} {fdcWithin : FuncData} (F : Fun K "is_row_below" "is_row_below" s_is_row_below f fd) (T : NmA mg) (cWithin : Cl P w K mg base CX0 2 "is_within" fcWithin fdcWithin ["low", "high", "thing"] (spWithin K)) : FnOk P w K mg base CX0 3 f fd ["bound", "thing"] (spRowI K) := by
  refine F.ok scIsRowBelowI (fun vs H Q E h => ?_) (fun cdv A' outer s H vs Q E hr h => ?_)
  · obtain ⟨b, a, l, rfl, _⟩ := h
    rfl
  · obtain ⟨b, a, l, rfl, hS, ll, k⟩ := h
    refine ⟨_, pss_one (ps_ret (pe_and (pe_callB call_isi (by rfl) T.isi (by decide +kernel) (pa_cons (pv 1) (pa_cons (pe_bltn (v := .ty "tuple") (u := .type "tuple") (by rfl) T.tuple (by decide +kernel) rfl) pa_nil))) (pe_one (pe_callB (cr_all rfl) (by rfl) T.all (by decide +kernel) (pa_cons (pe_lc (own := [("part", 2)]) (g := (gName 2)) (tt := tYes) rfl scIsRowBelowI.nd  (pi_tup (pv 1)) (blkOk_by (own := [("part", 2)]) (N := nIsRowBelowI) (sc := defScope s_is_row_below) (by decide +kernel)) (fun _ _ _ _ _ => (pg_name (i := 2) scIsRowBelowI.nd rfl (Or.inl rfl))) (fun _ _ _ _ _ => pts_nil) (fun _ _ _ _ _ => (cWithin.call (hr.mono (by decide)) (pa_cons pe_int (pa_cons (pe_op op_sub (pv 0) pe_int) (pa_cons (pv 2) pa_nil)))))) pa_nil))))), ?_⟩
    refine ⟨_, rfl, _, _, _, _, _, rfl, .ty "tuple", tyx_tup hS, kit_tt, _, rfl, iteT ?_⟩
    refine ⟨_, rfl, a, rfl, ⟨_, hS⟩, fun D hD => ?_⟩
    refine lc_tup (K := K) (a := a) (xs := l.map V.int) (fun i H' => Same H H' ∧ H' D = some (.lst (((l.take i).map fun i => decide (0 ≤ i) && decide (i ≤ b - 1)).map V.bl))) ⟨Same.new hD, upd_same⟩ (fun i H' _ h => h.1.sqT hS) ?_ ?_
    · rintro i x H' hi ⟨s1, h1⟩
      rw [List.getElem?_map] at hi
      obtain ⟨z, hz, rfl⟩ := Option.map_eq_some_iff.mp hi
      have il := (List.getElem?_eq_some_iff.mp hz).1
      refine ⟨rfl, _, rfl, _, _, rfl, rfl, _, rfl, _, _, _, rfl, .inl ⟨z, rfl, _, h1, ?_, s1.mut hD, ?_⟩⟩
      · rw [List.length_map, List.length_map, List.length_take, sizeLine_eq]
        omega
      · rw [upd_same, List.take_add_one, hz, List.map_append, List.map_append] <;> rfl
    · rintro H' ⟨s1, h1⟩
      rw [List.length_map, List.take_length] at h1
      refine ⟨D, _, rfl, SqL.of h1, ?_⟩
      rw [all_take]
      exact k H' s1
theorem rowI_k {l : List Int} (h : RowOk l) : rowI 1001 l = l.all fun s => decide (s ≤ 1000) := by
  unfold rowI
  induction l with
  | nil => rfl
  | cons a l ih =>
    rw [List.all_cons, List.all_cons, ih fun i hi => h i (List.mem_cons_of_mem _ hi), decide_eq_true (h a List.mem_cons_self), Bool.true_and] <;> rfl
def spTable (K : PySem.W.Frag) : Sp := fun vs H Q _ => ∃ (rows cols : Int) (a : Addr) (t : List (List Int)), vs = [.int rows, .int cols, .ref a] ∧ RowsAt K H a t ∧ TabOk t ∧ ∀ H', Same H H' → Q (.bl (tabB rows cols t)) H'
abbrev nIsTable : List Str := ["rows", "columns", "thing", "row"]
theorem scIsTable : FnScope nIsTable ["rows", "columns", "thing"] (defScope s_is_table) := ⟨rfl, rfl, rfl, by decide +kernel, rfl, by decide +kernel, by decide +kernel⟩
theorem ok_is_table {f : Addr} {fd : FuncData} {fcRowI : Addr} {fdcRowI : FuncData} (F : Fun K "is_table" "is_table" s_is_table f fd) (T : NmA mg) (cRowI : Cl P w K mg base CX0 3 "is_row_below" fcRowI fdcRowI ["bound", "thing"] (spRowI K)) : FnOk P w K mg base CX0 4 f fd ["rows", "columns", "thing"] (spTable K) := by
  refine F.ok scIsTable (fun vs H Q E h => ?_) (fun cdv A' outer s H vs Q E hr h => ?_)
  · obtain ⟨rows, cols, a, t, rfl, _⟩ := h
    rfl
  · obtain ⟨rows, cols, a, t, rfl, hS, ht, k⟩ := h
    refine ⟨_, pss_cons (ps_if (PW.pt (pw_or (pt_not (pt_val (pe_callB call_isi (by rfl) T.isi (by decide +kernel) (pa_cons (pv 2) (pa_cons (pe_bltn (v := .ty "tuple") (u := .type "tuple") (by rfl) T.tuple (by decide +kernel) rfl) pa_nil))))) (pw_or1 (pt_cmpR op_ne (pe_callB call_len_seq (by rfl) T.len PySem.boot_len (pa_cons (pv 2) pa_nil)) (pv 0) (nomark _)))))
        (pss_one (ps_ret pe_bl)) pss_nil)
      (pss_one (ps_ret (pe_callB (cr_all rfl) (by rfl) T.all (by decide +kernel) (pa_cons (pe_lc (own := [("row", 3)]) (g := (gName 3)) (tt := tYes) rfl scIsTable.nd  (pi_tup (pv 2)) (blkOk_by (own := [("row", 3)]) (N := nIsTable) (sc := defScope s_is_table) (by decide +kernel)) (fun _ _ _ _ _ => (pg_name (i := 3) scIsTable.nd rfl (Or.inl rfl))) (fun _ _ _ _ _ => pts_nil) (fun _ _ _ _ _ => (pe_and (pe_callB (r := rIsi K) (show CallR _ (.builtin "isinstance") (rIsi K) from call_isi) (by rfl) T.isi (by decide +kernel) (pa_cons (pv 3) (pa_cons (pe_bltn (v := .ty "tuple") (u := .type "tuple") (by rfl) T.tuple (by decide +kernel) rfl) pa_nil))) (pe_and (pe_cmpR op_eq (pe_callB (r := rLenK K) (show CallR _ (.builtin "len") (rLenK K) from call_len_seq) (by rfl) T.len PySem.boot_len (pa_cons (pv 3) pa_nil)) (pv 1) (nomark _)) (pe_one (cRowI.call (hr.mono (by decide)) (pa_cons pe_int (pa_cons (pv 3) pa_nil)))))))) pa_nil)))), ?_⟩
    obtain ⟨vs, hV, hA⟩ := hS
    have vl := hA.1
    refine ⟨_, rfl, _, _, _, _, _, rfl, .ty "tuple", tyx_tup hV, kit_tt, _, rfl, ?_⟩
    refine iteF ⟨_, rfl, a, _, rfl, .inr hV, _, rfl, rfl, _, rfl, ?_⟩
    have ed : decide (V.int ((vs.length : Nat) : Int) = V.int rows) = decide ((t.length : Int) = rows) := by
      rw [vl]
      exact decide_eq_decide.mpr ⟨fun z => V.int.inj z, fun z => by rw [z]⟩
    unfold tabB at k
    rw [ed]
    cases c1 : decide ((t.length : Int) = rows) with
    | false =>
      rw [c1, Bool.false_and] at k
      exact iteT (k H (Same.refl H))
    | true =>
      rw [c1, Bool.true_and] at k
      refine iteF ⟨_, rfl, a, rfl, ⟨_, hV⟩, fun D hD => ?_⟩
      refine lc_tup (K := K) (a := a) (xs := vs) (fun i H' => Same H H' ∧ H' D = some (.lst (((t.take i).map fun l => decide ((l.length : Int) = cols) && l.all fun x => decide (x ≤ 1000)).map V.bl))) ⟨Same.new hD, upd_same⟩ (fun i H' _ h => h.1.sqT hV) ?_ ?_
      · rintro i x H' hi ⟨s1, h1⟩
        obtain ⟨l, hl, b, rfl, hb⟩ := hA.2 i x hi
        obtain ⟨ll, l0⟩ := ht.2 l (List.mem_of_getElem? hl)
        have il := (List.getElem?_eq_some_iff.mp hl).1
        have hb' := s1.sqT hb
        have put : ∀ H2, Same H' H2 → ∃ acc, H2 D = some (.lst acc) ∧ acc.length < sizeLine ∧ (Same H (upd H2 D (.lst (acc ++ [.bl (decide ((l.length : Int) = cols) && l.all fun x => decide (x ≤ 1000))]))) ∧ (upd H2 D (.lst (acc ++ [.bl (decide ((l.length : Int) = cols) && l.all fun x => decide (x ≤ 1000))]))) D = some (.lst (((t.take (i + 1)).map fun l => decide ((l.length : Int) = cols) && l.all fun x => decide (x ≤ 1000)).map V.bl))) := fun H2 s2 => by
          refine ⟨_, s2 _ _ h1, ?_, (s1.trans s2).mut hD, ?_⟩
          · have := ht.1
            rw [List.length_map, List.length_map, List.length_take, sizeLine_eq]
            omega
          · rw [upd_same, List.take_add_one, hl, List.map_append, List.map_append] <;> rfl
        refine ⟨rfl, ?_⟩
        refine ⟨_, rfl, _, _, _, _, _, rfl, .ty "tuple", tyx_tup hb', kit_tt, _, rfl, ?_⟩
        refine iteT ⟨_, rfl, b, _, rfl, .inr hb', _, rfl, rfl, _, rfl, ?_⟩
        have ed : decide (V.int (((l.map V.int).length : Nat) : Int) = V.int cols) = decide ((l.length : Int) = cols) := by
          rw [List.length_map]
          exact decide_eq_decide.mpr ⟨fun z => V.int.inj z, fun z => by rw [z]⟩
        rw [ed]
        cases c2 : decide ((l.length : Int) = cols) with
        | false =>
          rw [c2, Bool.false_and] at put
          exact iteF (put H' (Same.refl _))
        | true =>
          rw [c2, Bool.true_and, ← rowI_k l0] at put
          exact iteT ⟨_, rfl, 1001, b, l, rfl, hb', ll, fun H2 s2 => put H2 s2⟩
      · rintro H' ⟨s1, h1⟩
        rw [vl, List.take_length] at h1
        refine ⟨D, _, rfl, SqL.of h1, ?_⟩
        rw [all_take]
        exact k H' s1
abbrev TieOk (t : Tie) : Prop := 0 ≤ t.1.1 ∧ 0 ≤ t.1.2 ∧ TabOk t.2
def spTie (K : PySem.W.Frag) : Sp := fun vs H Q _ => ∃ (many levels : Int) (v : V) (t : Tie), vs = [.int many, .int levels, v] ∧ TieAt K H v t ∧ TieOk t ∧ ∀ H', Same H H' → Q (.bl (tieB many levels t)) H'
abbrev nIsTie : List Str := ["many", "levels", "thing", "one", "other", "table"]
theorem scIsTie : FnScope nIsTie ["many", "levels", "thing"] (defScope s_is_tie) := ⟨rfl, rfl, rfl, by decide +kernel, rfl, by decide +kernel, by decide +kernel⟩
theorem ok_is_tie {f : Addr} {fd : FuncData} {fcTable : Addr} {fdcTable : FuncData} {fcWithin : Addr} {fdcWithin : FuncData} (F : Fun K "is_tie" "is_tie" s_is_tie f fd) (T : NmA mg) (cTable : Cl P w K mg base CX0 4 "is_table" fcTable fdcTable ["rows", "columns", "thing"] (spTable K)) (cWithin : Cl P w K mg base CX0 2 "is_within" fcWithin fdcWithin ["low", "high", "thing"] (spWithin K)) : FnOk P w K mg base CX0 5 f fd ["many", "levels", "thing"] (spTie K) := by
  refine F.ok scIsTie (fun vs H Q E h => ?_) (fun cdv A' outer s H vs Q E hr h => ?_)
  · obtain ⟨many, levels, v, t, rfl, _⟩ := h
    rfl
  · obtain ⟨many, levels, v, t, rfl, hT, ht, k⟩ := h
    refine ⟨_, pss_cons (ps_if (PW.pt (pw_or (pt_not (pt_val (pe_callB call_isi (by rfl) T.isi (by decide +kernel) (pa_cons (pv 2) (pa_cons (pe_bltn (v := .ty "tuple") (u := .type "tuple") (by rfl) T.tuple (by decide +kernel) rfl) pa_nil))))) (pw_or1 (pt_cmpR op_ne (pe_callB call_len_seq (by rfl) T.len PySem.boot_len (pa_cons (pv 2) pa_nil)) pe_int (nomark _)))))
        (pss_one (ps_ret pe_bl)) pss_nil)
      (pss_cons (ps_asg (pv 2) (pg_tup (by rfl) (pgs_cons (pg_name (i := 3) scIsTie.nd rfl (Or.inl rfl)) (pgs_cons (pg_name (i := 4) scIsTie.nd rfl (Or.inl rfl)) (pgs_cons (pg_name (i := 5) scIsTie.nd rfl (Or.inl rfl)) pgs_nil)))))
      (pss_one (ps_ret (pe_and (cWithin.call (hr.mono (by decide)) (pa_cons pe_int (pa_cons (pe_op op_sub (pv 0) pe_int) (pa_cons (pv 4) pa_nil)))) (pe_and (cWithin.call (hr.mono (by decide)) (pa_cons pe_int (pa_cons (pe_op op_sub (pv 4) pe_int) (pa_cons (pv 3) pa_nil)))) (pe_one (cTable.call (hr.mono (by decide)) (pa_cons (pv 1) (pa_cons (pv 1) (pa_cons (pv 5) pa_nil)))))))))), ?_⟩
    obtain ⟨a, b, rfl, hA, hR⟩ := hT
    obtain ⟨t0, t1, tt⟩ := ht
    refine ⟨_, rfl, _, _, _, _, _, rfl, .ty "tuple", tyx_tup hA, kit_tt, _, rfl, ?_⟩
    refine iteF ⟨_, rfl, a, _, rfl, .inr hA, rfl, _, rfl, iteF ?_⟩
    refine ⟨_, rfl, a, _, rfl, hA, rfl, _, _, rfl, _, _, rfl, _, _, rfl, rfl, ?_⟩
    unfold tieB at k
    refine ⟨_, rfl, _, _, rfl, rfl, _, rfl, _, _, _, rfl, .inl ⟨t.1.2, rfl, _, rfl, ?_⟩⟩
    rw [decide_eq_true t1, Bool.true_and, show decide (t.1.2 ≤ many - 1) = decide (t.1.2 < many) from decide_eq_decide.mpr (by omega)]
    cases c1 : decide (t.1.2 < many) with
    | false =>
      rw [c1, Bool.false_and] at k
      exact iteF (k H (Same.refl H))
    | true =>
      rw [c1, Bool.true_and] at k
      refine iteT ⟨_, rfl, _, _, rfl, rfl, _, rfl, _, _, _, rfl, .inl ⟨t.1.1, rfl, _, rfl, ?_⟩⟩
      rw [decide_eq_true t0, Bool.true_and, show decide (t.1.1 ≤ t.1.2 - 1) = decide (t.1.1 < t.1.2) from decide_eq_decide.mpr (by omega)]
      cases c2 : decide (t.1.1 < t.1.2) with
      | false =>
        rw [c2, Bool.false_and] at k
        exact iteF (k H (Same.refl H))
      | true =>
        rw [c2, Bool.true_and] at k
        exact iteT ⟨_, rfl, _, rfl, _, rfl, _, _, b, t.2, rfl, hR, tt, fun H' s => k H' s⟩
def spTiesAt (K : PySem.W.Frag) : Sp := fun vs H Q _ => ∃ (a : Addr) (ts : List Tie) (p : Int), vs = [.ref a, .int p] ∧ TiesAt K H a ts ∧ ts.length ≤ 16000000 ∧ ∀ H', Same H H' → Q (.int (cntT ts p : Nat)) H'
abbrev nTiesAt : List Str := ["ties", "place", "one", "other", "_"]
theorem scTiesAt : FnScope nTiesAt ["ties", "place"] (defScope s_ties_at) := ⟨rfl, rfl, rfl, by decide +kernel, rfl, by decide +kernel, by decide +kernel⟩
theorem ok_ties_at {f : Addr} {fd : FuncData} (F : Fun K "ties_at" "ties_at" s_ties_at f fd) (T : NmA mg) : FnOk P w K mg base CX0 1 f fd ["ties", "place"] (spTiesAt K) := by
  refine F.ok scTiesAt (fun vs H Q E h => ?_) (fun cdv A' outer s H vs Q E hr h => ?_)
  · obtain ⟨a, ts, p, rfl, _⟩ := h
    rfl
  · obtain ⟨a, ts, p, rfl, hT, tl0, k⟩ := h
    have hu := hu_of hr
    refine ⟨_, pss_one (ps_ret (pe_callB call_len_seq (by rfl) T.len PySem.boot_len (pa_cons (pe_lc (own := [("one", 2), ("other", 3), ("_", 4)]) (g := (gTup K 3 (gCons (gName 2) (gCons (gName 3) (gCons (gName 4) gNil))))) (tt := _) rfl scTiesAt.nd  (pi_tup (pv 0)) (blkOk_by (own := [("one", 2), ("other", 3), ("_", 4)]) (N := nTiesAt) (sc := defScope s_ties_at) (by decide +kernel)) (fun _ _ _ _ _ => (pg_tup (by rfl) (pgs_cons (pg_name (i := 2) scTiesAt.nd rfl (Or.inl rfl)) (pgs_cons (pg_name (i := 3) scTiesAt.nd rfl (Or.inl rfl)) (pgs_cons (pg_name (i := 4) scTiesAt.nd rfl (Or.inl rfl)) pgs_nil))))) (fun _ _ _ _ _ => (pts_one (pt_cmpR (r := rIn K false) (show OpR _ (compareOp .In) (rIn K false) from op_in_seq) (pv 1) (pe_tup (pa_cons (pv 2) (pa_cons (pv 3) pa_nil))) (by rfl)))) (fun _ _ _ _ _ => (pv 2))) pa_nil))), ?_⟩
    obtain ⟨vs, hV, hA⟩ := hT
    have vl := hA.1
    refine ⟨_, rfl, a, rfl, ⟨_, hV⟩, fun D hD => ?_⟩
    refine lc_tup (K := K) (a := a) (xs := vs) (fun i H' => Same H H' ∧ H' D = some (.lst (((ts.take i).filter fun t => decide (p = t.1.1) || decide (p = t.1.2)).map fun t => V.int t.1.1))) ⟨Same.new hD, upd_same⟩ (fun i H' _ h => h.1.sqT hV) ?_ ?_
    · rintro i x H' hi ⟨s1, h1⟩
      obtain ⟨t, ht, b, c, rfl, hb, hc⟩ := hA.2 i x hi
      have il := (List.getElem?_eq_some_iff.mp ht).1
      refine ⟨b, _, rfl, s1.sqT hb, rfl, _, _, rfl, _, _, rfl, _, _, rfl, rfl, ?_⟩
      refine ⟨rfl, _, rfl, _, rfl, _, rfl, by show 2 ≤ sizeLine; decide, fun q hq => ?_⟩
      refine new_step hq fun H2 s2 e2 => ?_
      refine ⟨q, _, rfl, .inr (SqT.of e2), rfl, rfl, _, rfl, ?_⟩
      rw [in_two, if_neg Bool.false_ne_true]
      have h2 := s2 _ _ h1
      have fs := filter_snoc (f := fun t : Tie => decide (p = t.1.1) || decide (p = t.1.2)) ht
      refine ite2 (fun c => ?_) (fun c => ?_)
      · rw [if_pos c] at fs
        refine ⟨_, rfl, _, h2, ?_, (s1.trans s2).mut hD, ?_⟩
        · have := List.length_filter_le (fun t : Tie => decide (p = t.1.1) || decide (p = t.1.2)) (ts.take i)
          rw [List.length_take] at this
          rw [List.length_map, sizeLine_eq]
          omega
        · rw [upd_same, fs, List.map_append] <;> rfl
      · rw [if_neg c, List.append_nil] at fs
        exact ⟨s1.trans s2, by rw [fs]; exact h2⟩
    · rintro H' ⟨s1, h1⟩
      rw [vl, List.take_length] at h1
      refine ⟨D, _, rfl, .inl (SqL.of h1), ?_⟩
      rw [List.length_map]
      exact k H' s1
end
end Law

namespace Law
open PySem L2 TL
section
variable {P : Program} {w : World} {K : PySem.W.Frag} {mg : Str → Option Value} {base : Heap}
theorem joinL_nil : ∀ ps : List (List Nat), joinL [] ps = ps.flatten
  | [] => rfl
  | [p] => by show p = p ++ []; rw [List.append_nil]
  | p :: q :: r => by
    show p ++ ([] ++ joinL [] (q :: r)) = p ++ (q :: r).flatten
    rw [List.nil_append, joinL_nil (q :: r)]
theorem line_len {m : Mdl} (sm : MdlSm m) {l : List Nat} (h : l ∈ linesT m) : l.length ≤ 103 := by
  unfold linesT at h
  have hp : (tl ("places" : Str)).length = 6 := by rw [t_places] <;> rfl
  have hl : (tl ("levels" : Str)).length = 6 := by rw [t_levels] <;> rfl
  have hw : (tl ("weights" : Str)).length = 7 := by rw [t_weights] <;> rfl
  rcases List.mem_cons.mp h with rfl | h
  · have := numP_len sm.m0 (by have := sm.m1; omega)
    rw [List.length_append, hp, List.length_cons]
    omega
  rcases List.mem_cons.mp h with rfl | h
  · have := numP_len sm.l0 (by have := sm.l1; omega)
    rw [List.length_append, hl, List.length_cons]
    omega
  rcases List.mem_append.mp h with h | h
  · obtain ⟨r, hr, rfl⟩ := List.mem_map.mp h
    obtain ⟨a, _, b⟩ := sm.wr r hr
    have := rowT_len (l := r) ⟨a, b⟩
    rw [List.length_append, hw, List.length_cons]
    omega
  · obtain ⟨t, ht, rfl⟩ := List.mem_map.mp h
    obtain ⟨a, b, c, _, d⟩ := sm.tr t ht
    exact tieT_len a b ⟨c, fun l hl => ⟨(d l hl).1, (d l hl).2.2⟩⟩
def spModT (K : PySem.W.Frag) (C : Addr) : Sp := fun vs H Q _ => ∃ (q : Addr) (m : Mdl), vs = [.ref q] ∧ ModAt K C H q m ∧ MdlSm m ∧ ∀ t H', Same H H' → tl t = modT m → Q (.str t) H'
abbrev nModelText : List Str := ["model", "lines", "row", "one", "other", "table", "line"]
theorem scModelText : FnScope nModelText ["model"] (defScope s_model_text) := ⟨rfl, rfl, rfl, by decide +kernel, rfl, by decide +kernel, by decide +kernel⟩
theorem ok_model_text {f : Addr} {fd : FuncData} {fcRowT : Addr} {fdcRowT : FuncData} {C : Addr} (F : Fun K "model_text" "model_text" s_model_text f fd) (T : NmA mg) (cRowT : Cl P w K mg base CX0 1 "row_text" fcRowT fdcRowT ["row"] (spRowT K)) (S : ModT K mg C) : FnOk P w K mg base CX0 2 f fd ["model"] (spModT K C) := by
  refine F.ok scModelText (fun vs H Q E h => ?_) (fun cdv A' outer s H vs Q E hr h => ?_)
  · obtain ⟨q, m, rfl, _⟩ := h
    rfl
  · obtain ⟨q, m, rfl, hS, sm, k⟩ := h
    have hu := hu_of hr
    refine ⟨_, pss_cons (ps_set (i := 1) scModelText.nd rfl (Or.inl rfl) (pe_lst (pa_cons (pe_op op_add_str pe_str (pe_callTy call_str_int (by rfl) T.str (by decide +kernel) (pa_cons (pe_fld (pv 0) rfl) pa_nil))) (pa_cons (pe_op op_add_str pe_str (pe_callTy call_str_int (by rfl) T.str (by decide +kernel) (pa_cons (pe_fld (pv 0) rfl) pa_nil))) pa_nil))))
      (pss_cons (ps_for PassesOwn.never rfl (pi_tup (pe_fld (pv 0) rfl)) (pg_name (i := 2) scModelText.nd rfl (Or.inl rfl))
        (pss_one (ps_expr (pe_bm PySem.F.plainAttrs_list PySem.F.slot_list_append PySem.F.type_list_append mt_append (pv 1) (pa_cons (pe_op op_add_str pe_str (cRowT.call (hr.mono (by decide)) (pa_cons (pv 2) pa_nil))) pa_nil)))))
      (pss_cons (ps_for PassesOwn.never rfl (pi_tup (pe_fld (pv 0) rfl)) (pg_tup (by rfl) (pgs_cons (pg_name (i := 3) scModelText.nd rfl (Or.inl rfl)) (pgs_cons (pg_name (i := 4) scModelText.nd rfl (Or.inl rfl)) (pgs_cons (pg_name (i := 5) scModelText.nd rfl (Or.inl rfl)) pgs_nil))))
        (pss_one (ps_expr (pe_bm PySem.F.plainAttrs_list PySem.F.slot_list_append PySem.F.type_list_append mt_append (pv 1) (pa_cons (pe_op op_add_str (pe_joined (.cons pe_str (.cons (pe_fmt (pv 3)) (.cons pe_str (.cons (pe_fmt (pv 4)) (.cons pe_str .nil)))))) (pe_m1 PySem.F.slot_str_join PySem.F.type_str_join mt_join pe_str (pe_lc (own := [("row", 2)]) (g := (gName 2)) (tt := tYes) rfl scModelText.nd  (pi_tup (pv 5)) (blkOk_by (own := [("row", 2)]) (N := nModelText) (sc := defScope s_model_text) (by decide +kernel)) (fun _ _ _ _ _ => (pg_name (i := 2) scModelText.nd rfl (Or.inl rfl))) (fun _ _ _ _ _ => pts_nil) (fun _ _ _ _ _ => (cRowT.call (hr.mono (by decide)) (pa_cons (pv 2) pa_nil)))))) pa_nil)))))
      (pss_one (ps_ret (pe_m1 PySem.F.slot_str_join PySem.F.type_str_join mt_join pe_str (pe_lc (own := [("line", 6)]) (g := (gName 6)) (tt := tYes) rfl scModelText.nd  (pi_list (pv 1)) (blkOk_by (own := [("line", 6)]) (N := nModelText) (sc := defScope s_model_text) (by decide +kernel)) (fun _ _ _ _ _ => (pg_name (i := 6) scModelText.nd rfl (Or.inl rfl))) (fun _ _ _ _ _ => pts_nil) (fun _ _ _ _ _ => (pe_op op_add_str (pv 6) pe_str)))))))), ?_⟩
    obtain ⟨dx, wa, ta, hq, ⟨ws, hW, hWA⟩, ts, hT, hTA⟩ := id hS
    have wl := hWA.1
    have tl0 := hTA.1
    have c_pl : ("places " : Str).length = 7 := by decide +kernel
    have c_lv : ("levels " : Str).length = 7 := by decide +kernel
    have c_we : ("weights " : Str).length = 8 := by decide +kernel
    have c_nl : ("\n" : Str).length = 1 := by decide +kernel
    have t_pl : tl ("places " : Str) = tl ("places" : Str) ++ [32] := by decide +kernel
    have t_lv : tl ("levels " : Str) = tl ("levels" : Str) ++ [32] := by decide +kernel
    have t_we : tl ("weights " : Str) = tl ("weights" : Str) ++ [32] := by decide +kernel
    have n1 : (Str.ofString (toString m.many)).length ≤ 2 := by
      rw [len_tl, tl_str sm.m0]
      exact numP_len sm.m0 (by have := sm.m1; omega)
    have n2 : (Str.ofString (toString m.levels)).length ≤ 2 := by
      rw [len_tl, tl_str sm.l0]
      exact numP_len sm.l0 (by have := sm.l1; omega)
    have m1 := sm.m1
    have l1 := sm.l1
    have m0 := sm.m0
    have l0 := sm.l0
    refine ⟨_, rfl, q, C, dx, _, _, rfl, hq, S.cl, S.nK, modF_many _ _ _ _, m.many, rfl, logn (Nat.lt_of_le_of_lt (show m.many.natAbs ≤ 12 by omega) (by decide)), _, _, rfl, rfl, by rw [sizeLine_eq, c_pl]; omega, ?_⟩
    refine ⟨_, rfl, q, C, dx, _, _, rfl, hq, S.cl, S.nL, modF_levels _ _ _ _, m.levels, rfl, logn (Nat.lt_of_le_of_lt (show m.levels.natAbs ≤ 12 by omega) (by decide)), _, _, rfl, rfl, by rw [sizeLine_eq, c_lv]; omega, by show 2 ≤ sizeLine; decide, fun L hL => ?_⟩
    refine new_step hL fun H1 s1 e1 => ?_
    generalize hA0 : ([("places " : Str) ++ Str.ofString (toString m.many), ("levels " : Str) ++ Str.ofString (toString m.levels)] : List Str) = A0
    have e1 : H1 L = some (.lst (A0.map V.str)) := by rw [← hA0]; exact e1
    have a0 : A0.map tl = [tl ("places" : Str) ++ 32 :: numL m.many.toNat, tl ("levels" : Str) ++ 32 :: numL m.levels.toNat] := by
      rw [← hA0, List.map_cons, List.map_cons, List.map_nil, tl_append, tl_append, t_pl, t_lv, tl_str m0, tl_str l0, List.append_assoc, List.append_assoc] <;> rfl
    refine ⟨_, rfl, q, C, dx, _, _, rfl, s1 _ _ hq, S.cl, S.nW, modF_weights _ _ _ _, wa, rfl, ⟨_, s1.sqT hW⟩, for_tup (K := K) (a := wa) (xs := ws) (fun i σ H' => (Same H H' ∧ ∃ ss : List Str, H' L = some (.lst (ss.map V.str)) ∧ ss.map tl = A0.map tl ++ (m.ws.take i).map (fun l => tl ("weights" : Str) ++ 32 :: rowT l)) ∧ ∃ u : Option V, σ = [some (.ref q), some (.ref L), u, none, none, none, none]) ⟨⟨s1, A0, e1, by rw [List.take_zero, List.map_nil, List.append_nil]⟩, none, rfl⟩ (fun i σ H' _ h => h.1.1.sqT hW) ?_ ?_⟩
    · rintro i x σ H2 hi ⟨⟨s2, ss, g1, g2⟩, u, rfl⟩
      obtain ⟨l, hl, a, rfl, ha⟩ := hWA.2 i x hi
      obtain ⟨r1, _, r2⟩ := sm.wr l (List.mem_of_getElem? hl)
      have il := (List.getElem?_eq_some_iff.mp hl).1
      have swl := sm.wl
      have sl : ss.length = i + 2 := by
        have z := congrArg List.length g2
        rw [a0, List.length_map, List.length_append, List.length_map, List.length_take] at z
        show ss.length = i + 2
        have : ([tl ("places" : Str) ++ 32 :: numL m.many.toNat, tl ("levels" : Str) ++ 32 :: numL m.levels.toNat] : List (List Nat)).length = 2 := rfl
        omega
      refine ⟨_, rfl, .inl ⟨rfl, _, SqL.of g1⟩, _, rfl, a, l, rfl, s2.sqT ha, ⟨r1, r2⟩, fun t H3 s3 ht => ?_⟩
      have tlen : t.length ≤ 20 := by rw [len_tl, ht]; exact rowT_len ⟨r1, r2⟩
      refine ⟨_, _, rfl, rfl, by rw [sizeLine_eq, c_we]; omega, L, _, _, rfl, rfl, s3 _ _ g1, by rw [List.length_map, sl]; exact small1000 (by omega), ⟨(s2.trans s3).mut hL, ss ++ [("weights " : Str) ++ t], ?_, ?_⟩, _, rfl⟩
      · rw [upd_same, List.map_append] <;> rfl
      · rw [List.map_append, g2, List.take_add_one, hl]
        simp only [Option.toList, List.map_append, List.map_cons, List.map_nil, List.append_assoc]
        rw [tl_append, t_we, ht, List.append_assoc] <;> rfl
    · rintro σ H2 ⟨⟨s2, ss, g1, g2⟩, u, rfl⟩
      rw [wl, List.take_length] at g2
      have swl := sm.wl
      have sl : ss.length = m.ws.length + 2 := by
        have z := congrArg List.length g2
        rw [a0, List.length_map, List.length_append, List.length_map] at z
        have : ([tl ("places" : Str) ++ 32 :: numL m.many.toNat, tl ("levels" : Str) ++ 32 :: numL m.levels.toNat] : List (List Nat)).length = 2 := rfl
        omega
      refine ⟨_, rfl, q, C, dx, _, _, rfl, s2 _ _ hq, S.cl, S.nT, modF_ties _ _ _ _, ta, rfl, ⟨_, s2.sqT hT⟩, for_tup (K := K) (a := ta) (xs := ts) (fun i σ H' => (Same H H' ∧ ∃ s3 : List Str, H' L = some (.lst (s3.map V.str)) ∧ s3.map tl = ss.map tl ++ (m.ts.take i).map tieT) ∧ ∃ u1 u2 u3 u4 : Option V, σ = [some (.ref q), some (.ref L), u1, u2, u3, u4, none]) ⟨⟨s2, ss, g1, by rw [List.take_zero, List.map_nil, List.append_nil]⟩, _, _, _, _, rfl⟩ (fun i σ H' _ h => h.1.1.sqT hT) ?_ ?_⟩
      · rintro i x σ H3 hi ⟨⟨s3, s3l, g3, g4⟩, u1, u2, u3, u4, rfl⟩
        obtain ⟨t, ht, a, b, rfl, ha, vs, hV, hVA⟩ := hTA.2 i x hi
        obtain ⟨p0, p1, r1, _, r2⟩ := sm.tr t (List.mem_of_getElem? ht)
        have il := (List.getElem?_eq_some_iff.mp ht).1
        have stl := sm.tl
        have sl3 : s3l.length = m.ws.length + 2 + i := by
          have z := congrArg List.length g4
          rw [List.length_map, List.length_append, List.length_map, List.length_map, List.length_take] at z
          omega
        refine ⟨a, _, rfl, s3.sqT ha, rfl, _, _, rfl, _, _, rfl, _, _, rfl, rfl, ?_⟩
        have k1 : (Str.ofString (toString t.1.1)).length ≤ 2 := by
          rw [len_tl, tl_str p0.1]
          exact numP_len p0.1 (by omega)
        have k2 : (Str.ofString (toString t.1.2)).length ≤ 2 := by
          rw [len_tl, tl_str p1.1]
          exact numP_len p1.1 (by omega)
        have c_ti : ("tie " : Str).length = 4 := by decide +kernel
        have c_sp : (" " : Str).length = 1 := by decide +kernel
        have c_cs : (": " : Str).length = 2 := by decide +kernel
        have c_ba : (" | " : Str).length = 3 := by decide +kernel
        have c_em : Str.empty.length = 0 := rfl
        have t_ti : tl ("tie " : Str) = tl ("tie" : Str) ++ [32] := by decide +kernel
        have t_ba : tl (" | " : Str) = [32, 124, 32] := by decide +kernel
        have lg : ∀ n : Int, 0 ≤ n → n < 12 → n.natAbs.log2 < 1920 := fun n h0 h1 => logn (Nat.lt_of_lt_of_le (show n.natAbs < 12 by omega) (by decide))
        refine ⟨_, rfl, .inl ⟨rfl, _, SqL.of g3⟩, _, rfl, by rw [Str.length_append, c_em, c_ti, sizeLine_eq]; omega, _, rfl, .inr ⟨t.1.1, rfl, lg _ p0.1 p0.2, _, rfl, ?_, _, rfl, ?_, _, rfl, .inr ⟨t.1.2, rfl, lg _ p1.1 p1.2, _, rfl, ?_, _, rfl, ?_, ⟨_, rfl⟩, _, rfl, b, rfl, ⟨_, s3.sqT hV⟩, fun D hD => ?_⟩⟩⟩
        · show (Str.empty ++ ("tie " : Str) ++ Str.ofString (toString t.1.1)).length ≤ sizeLine
          rw [Str.length_append, Str.length_append, c_em, c_ti, sizeLine_eq]
          omega
        · show (Str.empty ++ ("tie " : Str) ++ Str.ofString (toString t.1.1) ++ (" " : Str)).length ≤ sizeLine
          rw [Str.length_append, Str.length_append, Str.length_append, c_em, c_ti, c_sp, sizeLine_eq]
          omega
        · show (Str.empty ++ ("tie " : Str) ++ Str.ofString (toString t.1.1) ++ (" " : Str) ++ Str.ofString (toString t.1.2)).length ≤ sizeLine
          rw [Str.length_append, Str.length_append, Str.length_append, Str.length_append, c_em, c_ti, c_sp, sizeLine_eq]
          omega
        · show (Str.empty ++ ("tie " : Str) ++ Str.ofString (toString t.1.1) ++ (" " : Str) ++ Str.ofString (toString t.1.2) ++ (": " : Str)).length ≤ sizeLine
          rw [Str.length_append, Str.length_append, Str.length_append, Str.length_append, Str.length_append, c_em, c_ti, c_sp, c_cs, sizeLine_eq]
          omega
        have hvl := hVA.1
        refine lc_tup (K := K) (a := b) (xs := vs) (fun j H' => Same H3 H' ∧ ∃ rs : List Str, H' D = some (.lst (rs.map V.str)) ∧ rs.map tl = (t.2.take j).map rowT) ⟨Same.new hD, [], upd_same, rfl⟩ (fun j H' _ g => (s3.trans g.1).sqT hV) (fun j y H4 hj g => ?_) fun H4 g => ?_
        · obtain ⟨s4, rs, g5, g6⟩ := g
          obtain ⟨l, hl, c, rfl, hc⟩ := hVA.2 j y hj
          obtain ⟨q1, _, q2⟩ := r2 l (List.mem_of_getElem? hl)
          have jl := (List.getElem?_eq_some_iff.mp hl).1
          have rsl : rs.length = j := by
            have z := congrArg List.length g6
            rw [List.length_map, List.length_map, List.length_take] at z
            omega
          refine ⟨rfl, _, rfl, c, l, rfl, (s3.trans s4).sqT hc, ⟨q1, q2⟩, fun u H5 s5 hu5 => ⟨_, s5 _ _ g5, by rw [List.length_map, rsl]; exact small1000 (by omega), (s4.trans s5).mut hD, rs ++ [u], by rw [upd_same, List.map_append] <;> rfl, ?_⟩⟩
          rw [List.map_append, g6, List.take_add_one, hl, List.map_append]
          show _ ++ [tl u] = _ ++ [rowT l]
          rw [hu5]
        · obtain ⟨s4, rs, g5, g6⟩ := g
          rw [hvl, List.take_length] at g6
          have rsl : rs.length = t.2.length := by
            have z := congrArg List.length g6
            rw [List.length_map, List.length_map] at z
            exact z
          have jt : tl (Txt.join (" | " : Str) rs) = joinL [32, 124, 32] (t.2.map rowT) := by
            rw [join_eq, tl_join, t_ba, g6]
          have jl := rowsT_len (t := t.2) ⟨r1, fun l hl => ⟨(r2 l hl).1, (r2 l hl).2.2⟩⟩
          have sb : (rs.map (·.length)).sum ≤ rs.length * 20 := by
            have z := natsum_le (c := 20) (rs.map (·.length)) fun y hy => by
              obtain ⟨u, hu6, rfl⟩ := List.mem_map.mp hy
              have : tl u ∈ t.2.map rowT := by rw [← g6]; exact List.mem_map.mpr ⟨u, hu6, rfl⟩
              obtain ⟨l, hl, e⟩ := List.mem_map.mp this
              rw [len_tl, ← e]
              exact rowT_len ⟨(r2 l hl).1, (r2 l hl).2.2⟩
            rw [List.length_map] at z
            exact z
          have LD : L ≠ D := ne_of_none g3 hD
          refine ⟨_, D, rs, rfl, rfl, .inl (SqL.of g5), by rw [c_ba]; show _ ≤ 16777216; omega, _, _, rfl, rfl, ?_, L, _, _, rfl, rfl, s4 _ _ g3, by rw [List.length_map, sl3]; exact small1000 (by omega), ⟨(s3.trans s4).mut hL, s3l ++ [Str.empty ++ ("tie " : Str) ++ Str.ofString (toString t.1.1) ++ (" " : Str) ++ Str.ofString (toString t.1.2) ++ (": " : Str) ++ Txt.join (" | " : Str) rs], ?_, ?_⟩, _, _, _, _, rfl⟩
          · show (Str.empty ++ ("tie " : Str) ++ Str.ofString (toString t.1.1) ++ (" " : Str) ++ Str.ofString (toString t.1.2) ++ (": " : Str)).length + (Txt.join (" | " : Str) rs).length ≤ sizeLine
            rw [Str.length_append, Str.length_append, Str.length_append, Str.length_append, Str.length_append, c_em, c_ti, c_sp, c_cs, len_tl (Txt.join _ _), jt, sizeLine_eq]
            omega
          · rw [upd_same, List.map_append] <;> rfl
          · rw [List.map_append, g4, List.take_add_one, ht]
            simp only [Option.toList, List.map_append, List.map_cons, List.map_nil, List.append_assoc]
            congr 3
            rw [tl_append, tl_append, tl_append, tl_append, tl_append, tl_append, jt, t_ti, tl_str p0.1, tl_str p1.1, one_sp, cs_is]
            unfold tieT
            simp only [e_empS, List.nil_append, List.append_assoc, List.cons_append]
            rfl
      · rintro σ H3 ⟨⟨s3, s3l, g3, g4⟩, u1, u2, u3, u4, rfl⟩
        rw [tl0, List.take_length, g2, a0] at g4
        have g4 : s3l.map tl = linesT m := by
          rw [g4]
          unfold linesT
          simp only [List.cons_append, List.nil_append, List.append_assoc]
        have sb : ∀ s ∈ s3l, s.length ≤ 103 := fun s hs => by
          have : tl s ∈ linesT m := by rw [← g4]; exact List.mem_map.mpr ⟨s, hs, rfl⟩
          rw [len_tl]
          exact line_len sm this
        have sl3 : s3l.length = 2 + (m.ws.length + m.ts.length) := by
          have z := congrArg List.length g4
          unfold linesT at z
          rw [List.length_map, List.length_cons, List.length_cons, List.length_append, List.length_map, List.length_map] at z
          omega
        have stl := sm.tl
        refine ⟨⟨_, rfl⟩, _, rfl, L, rfl, ⟨_, SqL.of g3⟩, fun D hD => ?_⟩
        refine lc_list (K := K) (a := L) (xs := s3l.map V.str) (fun j H' => Same H3 H' ∧ H' D = some (.lst ((s3l.take j).map fun s => V.str (s ++ ("\n" : Str))))) ⟨Same.new hD, upd_same⟩ (fun j H' _ g => SqL.of (g.1 _ _ g3)) (fun j y H4 hj g => ?_) fun H4 g => ?_
        · obtain ⟨s4, g5⟩ := g
          rw [List.getElem?_map] at hj
          obtain ⟨c, hc, rfl⟩ := Option.map_eq_some_iff.mp hj
          have cl := sb c (List.mem_of_getElem? hc)
          have jl := (List.getElem?_eq_some_iff.mp hc).1
          refine ⟨rfl, _, rfl, _, _, rfl, rfl, by rw [sizeLine_eq, c_nl]; omega, _, g5, ?_, s4.mut hD, ?_⟩
          · rw [List.length_map, List.length_take]
            exact small1000 (by omega)
          · rw [upd_same, List.take_add_one, hc, List.map_append] <;> rfl
        · obtain ⟨s4, g5⟩ := g
          rw [List.length_map, List.take_length] at g5
          have sz : ((s3l.map fun s => s ++ ("\n" : Str)).map (·.length)).sum ≤ (s3l.map fun s => s ++ ("\n" : Str)).length * 104 := by
            have z := natsum_le (c := 104) ((s3l.map fun s => s ++ ("\n" : Str)).map (·.length)) fun y hy => by
              obtain ⟨q, hq, rfl⟩ := List.mem_map.mp hy
              obtain ⟨c, hc, rfl⟩ := List.mem_map.mp hq
              have := sb c hc
              rw [Str.length_append, c_nl]
              omega
            rw [List.length_map (as := s3l.map _)] at z
            exact z
          rw [List.length_map] at sz
          refine ⟨_, D, s3l.map fun s => s ++ ("\n" : Str), rfl, rfl, .inl (SqL.of (by rw [List.map_map]; exact g5)), ?_, k _ H4 (s3.trans s4) ?_⟩
          · have c0 : ("" : Str).length = 0 := by decide +kernel
            rw [c0]
            show _ ≤ 16777216
            omega
          · have t0 : tl ("" : Str) = [] := by decide +kernel
            rw [join_eq, tl_join, t0, joinL_nil, List.map_map]
            have : (tl ∘ fun s : Str => s ++ ("\n" : Str)) = (fun l => l ++ [10]) ∘ tl := by
              funext s
              show tl (s ++ ("\n" : Str)) = tl s ++ [10]
              rw [tl_append, one_nl]
            rw [this, ← List.map_map, g4]
            unfold modT
            rw [List.flatMap_def]
end
end Law

namespace PySem
namespace LawEnum
open AutoSeq1 (wpAny_loadPart')
theorem meets_enumerate_newT (l : Addr) (items : Array Value) (n : Nat) (dct : Option Addr) (sl : Array (Option Value)) :
    Meets (Builtin.«enumerate.__new__» ⟨[.type "enumerate", .ref l], []⟩) (fun _ R s => s.heap.get? l = some { cls := .type "tuple", dict := dct, data := .seq items n, slots := sl } ∧
      R (.ok (.ret (.ref (s.heap.push { cls := .type "tuple_iterator", data := .fields #[.ref l, .int 0 0] }).objs.size)))
        { s with heap := (s.heap.push { cls := .type "tuple_iterator", data := .fields #[.ref l, .int 0 0] }).push { cls := .type "enumerate", data := .fields #[.none, .bool false, .ref s.heap.objs.size, rawInt 0, .none, .none] } }) :=
  .of_wp fun prog w A R s h => by
    obtain ⟨hp, g, d, tk, os⟩ := s; obtain ⟨hl, h⟩ := h
    have hsub := sub_enumerate
    have hL : Heap.IsTuple (Shared.heap ⟨hp, g, d, tk, os⟩) l items := ⟨_, hl, rfl, n, rfl⟩
    wp_walk using wpAny_loadPart' hl
    refine wpAny_stack_any fun st => wpAny_pure ?_
    split
    · rename_i c _ _ _ _ _
      cases (c == Value.type "enumerate")
      · wp_walk using wpAny_loadPart' hl, wpAny_pyIter_tuple hL
        exact ⟨_, rfl, h⟩
      · wp_walk using wpAny_loadPart' hl, wpAny_pyIter_tuple hL
        exact ⟨_, rfl, h⟩
    · wp_walk using wpAny_loadPart' hl, wpAny_pyIter_tuple hL
      exact ⟨_, rfl, h⟩
section
variable {prog : Program} {w : World} {A : Around} {E : Value → Shared → Prop} {s : Shared}
theorem call_enumerate_tuple {l : Addr} {items : Array Value} {Q : Value → Shared → Prop} (hL : s.heap.IsTuple l items)
    (h : ∀ h', IsEnum h' (s.heap.objs.size + 1) s.heap.objs.size 0 .none → h'.IsTupleIter s.heap.objs.size l 0 → h'.objs.size = s.heap.objs.size + 2 →
      (∀ b o, s.heap.get? b = some o → h'.get? b = some o) → Q (.ref (s.heap.objs.size + 1)) { s with heap := h' }) :
    wpAny (model prog w) A (call (.type "enumerate") [.ref l]) Q E s := by
  obtain ⟨⟨c, dct, dt, sl⟩, hl, hc, n, hd⟩ := hL
  replace hc : c = .type "tuple" := hc
  replace hd : dt = .seq items n := hd
  subst hc hd
  refine callType_new F.called_enumerate (by decide) (F.typeCall_enumerate_1 _) (F.newCall_enumerate_1 _) (fun obj => F.args_object_init_2 obj _) F.entry_enumerate_new
    (meets_enumerate_newT l items n dct sl) ⟨hl, ?_⟩
  have hz : (s.heap.push { cls := .type "tuple_iterator", data := .fields #[.ref l, .int 0 0] }).objs.size = s.heap.objs.size + 1 := Heap.size_push ..
  show _ ∧ _
  rw [hz]
  have he : IsEnum ((s.heap.push { cls := .type "tuple_iterator", data := .fields #[.ref l, .int 0 0] }).push
      { cls := .type "enumerate", data := .fields #[.none, .bool false, .ref s.heap.objs.size, rawInt 0, .none, .none] }) (s.heap.objs.size + 1) s.heap.objs.size 0 .none := by
    have := Heap.get?_push_size (s.heap.push { cls := .type "tuple_iterator", data := .fields #[.ref l, .int 0 0] })
      (o := { cls := .type "enumerate", data := .fields #[.none, .bool false, .ref s.heap.objs.size, rawInt 0, .none, .none] }) rfl
    rw [hz] at this; exact this
  refine ⟨⟨_, he, rfl⟩, h _ he ⟨_, Heap.get?_push_of_some _ (Heap.get?_push_size _ rfl), rfl, rfl⟩ (by rw [Heap.size_push, hz]) fun b o x => Heap.get?_push_of_some _ (Heap.get?_push_of_some _ x)⟩
end
theorem draws_end {prog : Program} {w : World} {A : Around} (hh : A.handled = none) (it t : Addr) (items : Array Value) (i : Nat) (hx : items[i]? = none) :
    Draws prog w A it [it, t] 0 (fun _ _ => True) (fun _ h => h.IsTupleIter it t i ∧ h.IsTuple t items) where
  live := fun _ _ st => let ⟨o, ho, _⟩ := st.1; ⟨o, ho⟩
  frame := fun _ _ _ st hk => ⟨st.1.at fun o e => hk it (by simp) o e, st.2.at fun o e => hk t (by simp) o e⟩
  item := fun i s Q E hi st hQ => absurd hi (Nat.not_lt_zero i)
  done := fun s Q E st hE => wpAny_nextOf_tuple_end hh st.1 st.2 hx hE
end LawEnum
end PySem
namespace L2
open PySem PySem.Spec PyProof.Rows
/-- the tuple at a, item by item, each in a new pair with its number -/
def IteT (K : PySem.W.Frag) (a : Addr) : It :=
  ⟨fun i H => ∃ (xs : List V) (x : V), SqT K H a xs ∧ xs[i]? = some x, fun i H v H' => ∃ T x, v = .ref T ∧ H T = none ∧ H' = upd H T (.tup [.int (i : Nat), x]) ∧ ∀ xs, SqT K H a xs → xs[i]? = some x, fun i H => ∃ xs : List V, SqT K H a xs ∧ xs.length ≤ i⟩
theorem turn_enumT {P : Program} {w : World} {K : PySem.W.Frag} {elts : List Expr} {kk : Nat} {tpos : Pos} (a e it : Addr) :
    Turn P w K (.Tuple elts kk tpos) (IteT K a) [e, it] e (fun i h => (∃ old, IsEnum h e it ((i : Nat) : Int) old) ∧ h.IsTupleIter it a i ∧ e ≠ it ∧ a ≠ it ∧ e ≠ a) where
  mem := by simp
  obj := fun i h st b hb => by
    obtain ⟨⟨old, he⟩, ⟨o, ho, hc, hd⟩, _⟩ := st
    have e' : b = e ∨ b = it := by simpa using hb
    rcases e' with z | z
    · rw [z]; exact ⟨_, he, fun v q => nomatch q⟩
    · rw [z]; exact ⟨o, ho, fun v q => by rw [hd] at q; cases q⟩
  keep := fun i h h' st k => let ⟨⟨old, he⟩, hi, hne, h1, h2⟩ := st; ⟨⟨old, k e (by simp) _ he⟩, hi.at fun o q => k it (by simp) o q, hne, h1, h2⟩
  item := by
    intro X hP hw hK hc i pins s σ H E I hf st hg
    subst hP hw hK
    obtain ⟨⟨old, he⟩, hit, hne, hai, hea⟩ := st
    obtain ⟨xs, x, hq, hx⟩ := hg
    obtain ⟨its, rv, p, hz⟩ := I.tuple hq
    obtain ⟨u, hu, ru⟩ := rv.get hx
    have hel : e < s.heap.objs.size := Heap.lt_size he
    have hil : it < s.heap.objs.size := by obtain ⟨_, q, _⟩ := hit; exact Heap.lt_size q
    have hlt : i < its.toArray.size := by
      have z := (List.getElem?_eq_some_iff.mp hu).1
      simpa using z
    have D := Draws.tuple (prog := X.prog) (w := X.w) (A := X.A.in1) (I.ok.hd hc) it a hai its.toArray
    refine wpAny_pyNext_enum_itemD D he ⟨hit, p⟩ hlt hne (by simp [hne, hea]) fun x' h' tk hPx ho hit' hT hsz hk => ?_
    have ex : x' = u := by
      have z : its.toArray[i]? = some x' := hPx
      have z2 : its.toArray[i]? = some u := by simpa using hu
      rw [z2] at z
      exact (Option.some.inj z).symm
    subst ex
    refine ⟨_, rfl, wpAny_letOwnedTupleGo_enum (s := { s with heap := h', toks := tk + 1 }) ho fun h'' he' sb => ?_⟩
    have hT2 : h''.get? s.heap.objs.size = some { cls := .type "tuple", data := .seq #[.int i tk, x'] } := (sb.2 _ (Nat.ne_of_gt hel)).trans hT
    have new : ObjOk X.prog X.w (upd H s.heap.objs.size (.tup [.int (i : Nat), x])) h'' s.heap.objs.size (.tup [.int (i : Nat), x]) :=
      ⟨by show 2 ≤ sizeLine; decide, [.int i tk, x'], .cons ⟨_, rfl⟩ (.cons ru .nil), ⟨_, hT2, rfl, _, rfl⟩⟩
    have I1 : Inv X pins σ (upd H s.heap.objs.size (.tup [.int (i : Nat), x])) { s with heap := h'', toks := tk + 1 } :=
      I.turnedNew (ch := [e, it]) (fun b ob hb q => (sb.2 b (fun z => hb (by simp [z]))).trans (hk b ob (fun z => hb (by simp [z])) (fun z => hb (by simp [z])) q)) hf (Nat.le_refl _) new
    refine ⟨.ref s.heap.objs.size, _, I1, rfl, ⟨_, x, rfl, I.hok.fresh (Nat.le_refl _), rfl, fun ys hy => by rw [I.tuple_inj hy hq]; exact hx⟩, ⟨⟨x', ?_⟩, hit'.1.at fun o q => (sb.2 it (Ne.symm hne)).trans q, hne, hai, hea⟩, fun b hb => ?_⟩
    · have e1 : ((i + 1 : Nat) : Int) = (i : Int) + 1 := by omega
      rw [e1]; exact he'
    · have hb' : b < s.heap.objs.size := by
        have e' : b = e ∨ b = it := by simpa using hb
        rcases e' with z | z
        · rw [z]; exact hel
        · rw [z]; exact hil
      rw [upd_ne (Nat.ne_of_lt hb')]
      exact (hf b hb).1
  done := by
    intro X hP hw hK hc i pins s σ H E I hf st hg
    subst hP hw hK
    obtain ⟨⟨old, he⟩, hit, hne, hai, hea⟩ := st
    obtain ⟨xs, hq, hx⟩ := hg
    obtain ⟨its, rv, p, hz⟩ := I.tuple hq
    obtain ⟨f0, f1, f2, f3, f4, f5⟩ := hf it (by simp)
    have hl := rv.length
    have D := LawEnum.draws_end (prog := X.prog) (w := X.w) (A := X.A.in1) (I.ok.hd hc) it a its.toArray i (by simp; omega)
    exact wpAny_pyNext_enum_endD D he ⟨hit, p⟩ fun h' eb => ⟨rfl, I.turned (t' := s.toks) (fun b o hb q => eb b o hb q) f0 f1 f3 f4 f5⟩
  self := fun A i s Q E st h => let ⟨⟨_, he⟩, _⟩ := st; wpAny_pyIter_enum he h
def iEnumT (K : PySem.W.Frag) (ta : TA) : TI := fun σ H R => ta σ H fun vs H1 => ∃ a xs, vs = [.ref a] ∧ SqT K H1 a xs ∧ R (IteT K a) H1
theorem pi_enumT {X : Cx} {e : Expr} {ta : TA} {p pos tpos : Pos} {elts : List Expr} {kk : Nat} (hg : Gl X "enumerate") (hm : X.mg "enumerate" = none) (ha : PA X [e] ta) (hs : starEach [e] X.env = [(false, eval e X.env)] := by rfl) :
    PI X (.Tuple elts kk tpos) (.Call (.Name "enumerate" p) [e] [] pos) (iEnumT X.K ta) := by
  refine ⟨fun pins s σ H R I h => ?_⟩
  refine Call_ (ld_blt I hg hm boot_enumerate (PyProof.Rows.callWith_type1 (thn (ha.run pos pins s σ H _ I h) fun us s1 ⟨vs, H1, I1, r1, q1⟩ => ?_) hs rfl))
  obtain ⟨a, xs, ex, hq, q⟩ := q1
  subst ex
  cases r1 with
  | cons r rr =>
    cases rr
    cases r
    obtain ⟨its, rv, p', hz⟩ := I1.tuple hq
    have hal : a < s1.heap.objs.size := by obtain ⟨o, ho, _⟩ := p'; exact Heap.lt_size ho
    refine LawEnum.call_enumerate_tuple p' fun h' he hit hsz hk => wpAny_pyIter_enum he ?_
    have I2 : Inv X pins σ H1 { s1 with heap := h' } := I1.kept (t' := s1.toks) hk
    refine ⟨s1.heap.objs.size + 1, [s1.heap.objs.size + 1, s1.heap.objs.size], _, _, H1, rfl, I2, turn_enumT a (s1.heap.objs.size + 1) s1.heap.objs.size, ⟨⟨.none, he⟩, hit, Nat.succ_ne_self _, Nat.ne_of_lt hal, Nat.ne_of_gt (Nat.lt_succ_of_lt hal)⟩, fun b hb => ?_, q⟩
    have e' : b = s1.heap.objs.size + 1 ∨ b = s1.heap.objs.size := by simpa using hb
    have hle : s1.heap.objs.size ≤ b := by
      rcases e' with z | z
      · rw [z]; exact Nat.le_add_right _ _
      · rw [z]; exact Nat.le_refl _
    exact I1.fpOk hle (I1.hok.fresh hle)
theorem walk_enumT {K : PySem.W.Frag} {a : Addr} {xs : List V} : Walk (IteT K a) xs.length (fun H => SqT K H a xs) (fun i H v H' => ∃ T x, v = .ref T ∧ H T = none ∧ H' = upd H T (.tup [.int (i : Nat), x]) ∧ xs[i]? = some x) where
  goes := fun i H hi h => ⟨xs, xs[i], h, List.getElem?_eq_getElem hi⟩
  stops := fun H h => ⟨xs, h, Nat.le_refl _⟩
  yields := fun i H x H' hi h ⟨T, y, h1, h2, h3, h4⟩ => ⟨T, y, h1, h2, h3, h4 xs h⟩
end L2


namespace Law
open PySem L2
def tupD (l : List Int) : PyData := .tuple (l.map .int)
theorem eqvAll_map {α : Type} [DecidableEq α] (g : α → PyData) (hg : ∀ a b, PyData.eqv (g a) (g b) = decide (a = b)) : ∀ xs ys : List α, PyData.eqvAll (xs.map g) (ys.map g) = decide (xs = ys)
  | [], [] => by simp [PyData.eqvAll]
  | [], _ :: _ => by simp [PyData.eqvAll]
  | _ :: _, [] => by simp [PyData.eqvAll]
  | x :: xs, y :: ys => by
    rw [List.map_cons, List.map_cons, PyData.eqvAll, hg, eqvAll_map g hg xs ys]
    by_cases h1 : x = y <;> by_cases h2 : xs = ys <;> simp [h1, h2]
theorem eqv_int (a b : Int) : PyData.eqv (.int a) (.int b) = decide (a = b) := by
  rw [PyData.eqv]
  rfl
theorem eqv_tupD (a b : List Int) : PyData.eqv (tupD a) (tupD b) = decide (a = b) := by
  unfold tupD
  rw [PyData.eqv]
  exact eqvAll_map PyData.int eqv_int a b
theorem lay_all {α : Type} (g : α → PyData) (n : Nat) (hg : ∀ a, (g a).canLay0 = true ∧ (g a).depth ≤ n) : ∀ xs : List α, PyData.canLayAll0 (xs.map g) = true ∧ PyData.depthAll (xs.map g) ≤ n
  | [] => by simp [PyData.canLayAll0, PyData.depthAll]
  | x :: xs => by
    obtain ⟨h1, h2⟩ := hg x
    obtain ⟨h3, h4⟩ := lay_all g n hg xs
    rw [List.map_cons, PyData.canLayAll0, PyData.depthAll, h1, h3]
    exact ⟨rfl, Nat.max_le.mpr ⟨h2, h4⟩⟩
theorem lay_int (a : Int) : (PyData.int a).canLay0 = true ∧ (PyData.int a).depth ≤ 0 := by simp [PyData.canLay0, PyData.depth]
theorem lay_tupD (a : List Int) : (tupD a).canLay0 = true ∧ (tupD a).depth ≤ 1 := by
  have h := lay_all PyData.int 0 lay_int a
  unfold tupD
  rw [PyData.canLay0, PyData.depth]
  exact ⟨h.1, by omega⟩
theorem shaped_of {d : PyData} {n : Nat} (h : d.canLay0 = true ∧ d.depth ≤ n) (hn : n ≤ 64) : SeqAt.shaped d = true := by
  unfold SeqAt.shaped
  rw [h.1, Bool.true_and, decide_eq_true (Nat.le_trans h.2 hn)]
theorem dp_ints {K : PySem.W.Frag} {H : Hp} : ∀ l : List Int, DpAll K H (l.map V.int) (l.map PyData.int)
  | [] => .nil
  | x :: l => .cons (.int x) (dp_ints l)
theorem any_take {α : Type} (f : α → Bool) : ∀ xs : List α, (xs.map f).any id = xs.any f
  | [] => rfl
  | x :: xs => by rw [List.map_cons, List.any_cons, List.any_cons, any_take f xs] <;> rfl
abbrev tabD (t : List (List Int)) : PyData := .tuple (t.map tupD)
def tieD (t : Tie) : PyData := .tuple [.int t.1.1, .int t.1.2, tabD t.2]
abbrev tiesD (ts : List Tie) : PyData := .tuple (ts.map tieD)
theorem eqv_tabD (a b : List (List Int)) : PyData.eqv (tabD a) (tabD b) = decide (a = b) := by
  rw [PyData.eqv]
  exact eqvAll_map tupD eqv_tupD a b
theorem eqv_tieD (a b : Tie) : PyData.eqv (tieD a) (tieD b) = decide (a = b) := by
  obtain ⟨⟨a1, a2⟩, a3⟩ := a
  obtain ⟨⟨b1, b2⟩, b3⟩ := b
  unfold tieD
  rw [PyData.eqv, PyData.eqvAll, PyData.eqvAll, PyData.eqvAll, PyData.eqvAll, eqv_int, eqv_int, eqv_tabD]
  by_cases h1 : a1 = b1 <;> by_cases h2 : a2 = b2 <;> by_cases h3 : a3 = b3 <;> simp [h1, h2, h3]
theorem eqv_tiesD (a b : List Tie) : PyData.eqv (tiesD a) (tiesD b) = decide (a = b) := by
  rw [PyData.eqv]
  exact eqvAll_map tieD eqv_tieD a b
theorem lay_tabD (t : List (List Int)) : (tabD t).canLay0 = true ∧ (tabD t).depth ≤ 2 := by
  have h := lay_all tupD 1 lay_tupD t
  rw [PyData.canLay0, PyData.depth]
  exact ⟨h.1, by omega⟩
theorem lay_tieD (t : Tie) : (tieD t).canLay0 = true ∧ (tieD t).depth ≤ 3 := by
  have h := lay_tabD t.2
  unfold tieD
  rw [PyData.canLay0, PyData.canLayAll0, PyData.canLayAll0, PyData.canLayAll0, PyData.canLayAll0, PyData.depth, PyData.depthAll, PyData.depthAll, PyData.depthAll, PyData.depthAll, h.1, (lay_int t.1.1).1, (lay_int t.1.2).1]
  have h1 := (lay_int t.1.1).2
  have h2 := (lay_int t.1.2).2
  exact ⟨rfl, by omega⟩
theorem lay_tiesD (ts : List Tie) : (tiesD ts).canLay0 = true ∧ (tiesD ts).depth ≤ 4 := by
  have h := lay_all tieD 3 lay_tieD ts
  rw [PyData.canLay0, PyData.depth]
  exact ⟨h.1, by omega⟩
theorem dp_all {α : Type} {K : PySem.W.Frag} {H : Hp} {R : V → α → Prop} {g : α → PyData} (hg : ∀ v x, R v x → Dp K H v (g x)) : ∀ {vs : List V} {l : List α}, AllIn R vs l → DpAll K H vs (l.map g)
  | [], [], _ => .nil
  | [], _ :: _, h => absurd h.1 (by simp)
  | _ :: _, [], h => absurd h.1 (by simp)
  | v :: vs, m :: ms, h => by
    obtain ⟨m', e, hm⟩ := h.2 0 v rfl
    cases e
    exact .cons (hg _ _ hm) (dp_all hg ⟨by simpa using h.1, fun i x hx => h.2 (i + 1) x (by simpa using hx)⟩)
theorem dp_row {K : PySem.W.Frag} {H : Hp} {v : V} {l : List Int} (h : RowAt K H v l) : Dp K H v (tupD l) := by
  obtain ⟨a, rfl, h2⟩ := h
  exact .tup h2 (dp_ints l)
theorem dp_rows {K : PySem.W.Frag} {H : Hp} {a : Addr} {t : List (List Int)} (h : RowsAt K H a t) : Dp K H (.ref a) (tabD t) := by
  obtain ⟨vs, h1, h2⟩ := h
  exact .tup h1 (dp_all (g := tupD) (fun _ _ => dp_row) h2)
theorem dp_tie {K : PySem.W.Frag} {H : Hp} {v : V} {t : Tie} (h : TieAt K H v t) : Dp K H v (tieD t) := by
  obtain ⟨a, b, rfl, h2, h3⟩ := h
  exact .tup h2 (.cons (.int _) (.cons (.int _) (.cons (dp_rows h3) .nil)))
theorem dp_ties {K : PySem.W.Frag} {H : Hp} {a : Addr} {ts : List Tie} (h : TiesAt K H a ts) : Dp K H (.ref a) (tiesD ts) := by
  obtain ⟨vs, h1, h2⟩ := h
  exact .tup h1 (dp_all (g := tieD) (fun _ _ => dp_tie) h2)
def partV : Part → V
  | .inl s => .str s
  | .inr n => .int (n : Int)
theorem mk_same {C : Addr} {H H' : Hp} {y dy : Addr} (hy : H y = none) (hdy : H dy = none) (kC : ∀ b o, b ≠ y → (upd (upd H dy (.own y)) y (.ins C dy [])) b = some o → H' b = some o) : Same H H' := fun b o e =>
  kC b o (ne_of_none e hy) (by rw [upd_ne (ne_of_none e hy), upd_ne (ne_of_none e hdy)]; exact e)
theorem mk_same0 {C : Addr} {H : Hp} {y dy : Addr} (hy : H y = none) (hdy : H dy = none) : Same H (upd (upd H dy (.own y)) y (.ins C dy [])) := fun b o e => by
  rw [upd_ne (ne_of_none e hy), upd_ne (ne_of_none e hdy)]
  exact e
end Law
namespace L2
open PySem PySem.Spec PyProof.Rows TL
/-! ### what is wrong with a model -/
def lastP (ts : List Tie) (i : Nat) : Int × Int := if i = 0 then (0, 0) else match ts[i - 1]? with
  | some t => t.1
  | none => (0, 0)
def gT (many levels : Int) (ts : List Tie) (i : Nat) : Bool := match ts[i]? with
  | some t => tieB many levels t && !leP t.1 (lastP ts i)
  | none => true
def badT (many levels : Int) (ts : List Tie) : Option Nat := firstNo ((List.range ts.length).map fun i => if gT many levels ts i = true then some () else none)
def crowdB (many : Int) (ts : List Tie) : Bool := (List.range many.toNat).any fun p => decide (4 < cntT ts (p : Nat))
def wrongM (m : Mdl) : Option Part := if ¬ (1 ≤ m.many ∧ m.many ≤ 12) then some (.inl "many") else if ¬ (1 ≤ m.levels ∧ m.levels ≤ 4) then some (.inl "levels") else if tabB m.many m.levels m.ws = false then some (.inl "weights") else
  match badT m.many m.levels m.ts with
  | some i => some (.inr i)
  | none => if crowdB m.many m.ts = true then some (.inl "crowded") else none
theorem rng_some {g : Nat → Bool} {n i : Nat} (hi : i < n) (h : g i = false) (hj : ∀ j, j < i → g j = true) : firstNo ((List.range n).map fun i => if g i = true then some () else none) = some i := by
  refine firstNo_of (by rw [List.getElem?_map, List.getElem?_range hi]; show some (if g i = true then some () else none) = _; rw [h] <;> rfl) fun j jl => ⟨(), ?_⟩
  rw [List.getElem?_map, List.getElem?_range (by omega)]
  show some (if g j = true then some () else none) = _
  rw [hj j jl] <;> rfl
theorem rng_none {g : Nat → Bool} {n : Nat} (h : ∀ j, j < n → g j = true) : firstNo ((List.range n).map fun i => if g i = true then some () else none) = none := by
  refine firstNo_all fun j o hj => ⟨(), ?_⟩
  rw [List.getElem?_map] at hj
  obtain ⟨k, h1, h2⟩ := Option.map_eq_some_iff.mp hj
  have jl := (List.getElem?_eq_some_iff.mp h1).1
  rw [List.length_range] at jl
  rw [List.getElem?_range jl] at h1
  cases h1
  rw [← h2, h _ jl] <;> rfl
theorem rng_all {g : Nat → Bool} {n : Nat} (h : firstNo ((List.range n).map fun i => if g i = true then some () else none) = none) : ∀ j, j < n → g j = true := fun j jl => by
  have z := firstNo_none h
  have e : ((List.range n).map fun i => if g i = true then some () else none)[j]? = some (if g j = true then some () else none) := by rw [List.getElem?_map, List.getElem?_range jl] <;> rfl
  rw [z, List.getElem?_map] at e
  obtain ⟨u, _, h2⟩ := Option.map_eq_some_iff.mp e
  cases hg : g j with
  | true => rfl
  | false => rw [hg] at h2; cases h2
theorem lex2 (a b c d : Int) : Ob.lexAt (fun j => decide (([a, b] : List Int).getD j 0 = ([c, d] : List Int).getD j 0)) (fun j => decide (([a, b] : List Int).getD j 0 ≤ ([c, d] : List Int).getD j 0)) (decide (([a, b] : List Int).length ≤ ([c, d] : List Int).length)) 0 (min ([a, b] : List Int).length ([c, d] : List Int).length) = leP (a, b) (c, d) := by
  show Ob.lexAt _ _ _ 0 2 = _
  rw [Ob.lexAt_succ, Ob.lexAt_succ, Ob.lexAt_zero]
  show (if decide (a = c) = true then (if decide (b = d) = true then decide (2 ≤ 2) else decide (b ≤ d)) else decide (a ≤ c)) = _
  unfold leP
  by_cases h1 : a = c
  · rw [if_pos (decide_eq_true h1), if_pos h1]
    by_cases h2 : b = d
    · rw [if_pos (decide_eq_true h2), decide_eq_true (show b ≤ d by omega)] <;> rfl
    · rw [if_neg (by simpa using h2)]
  · rw [if_neg (by simpa using h1), if_neg h1]
theorem cut2 (a b c : V) : cutV [a, b, c] none (some 2) = [a, b] := rfl
end L2
namespace L2
open PySem PySem.Spec PyProof.Rows
/-! ### several clauses 'except x as n', one name -/
def wManyAs (K : PySem.W.Frag) (i : Nat) (Wout : WX) (D : Ends) : List (Value × (Addr → Value → Option Addr → TS)) → WX
  | [] => Wout
  | (c, ts) :: r => fun cls d σ H => ∃ b, PySem.W.exmOne K cls c = some b ∧ (b = true → ∀ a, H a = none → ts a cls d { nx := fun σ' H' => D.nx (σ'.set i none) H', rt := D.rt, bk := fun σ' H' => D.bk (σ'.set i none) H', ct := fun σ' H' => D.ct (σ'.set i none) H' } (σ.set i (some (.ref a))) H) ∧ (b = false → wManyAs K i Wout D r cls d σ H)
inductive HdsAs (X : Cx) (n : Str) : List ExceptHandler → List (Value × (Addr → Value → Option Addr → TS)) → Prop
  | nil : HdsAs X n [] []
  | cons {x : Str} {c : Value} {ts : Addr → Value → Option Addr → TS} {b₀ : Stmt} {suite : List Stmt} {np pos' : Pos} {hds : List ExceptHandler} {l : List (Value × (Addr → Value → Option Addr → TS))} (hc : Names X x c)
      (hsu : ∀ (a : Addr) (oe : Obj) (cls : Value) (d : Option Addr) (pn : List (Addr × Obj)), Zc cls d oe → (∃ vs, oe.data = .fields vs) → PSs (X.suite a ((a, oe) :: pn)) (b₀ :: suite) (ts a cls d)) (r : HdsAs X n hds l) :
      HdsAs X n (.ExceptHandler (some (.Name x np)) (some n) (b₀ :: suite) pos' :: hds) ((c, ts) :: l)
section
variable {X : Cx} {n : Str} {i : Nat} {body : List Stmt} {h₀ : ExceptHandler} {hds : List ExceptHandler} {l : List (Value × (Addr → Value → Option Addr → TS))} {pos : Pos} {tb : WX → TS} {Wout : WX}
theorem ps_try_manyAs (hs : X.stack = X.env :: X.outer) (hf : X.env.frame = some X.env.locals) (hN : X.N.Nodup) (hi : X.N[i]? = some n) (hln : X.env.kindOf n = some .local) (tk : Takes X Wout)
    (hb : ∀ (W : WX) (pn : List (Addr × Obj)) (xe : Value → Shared → Prop), Takes (X.tr pn xe) W → PassesOwn (model X.prog X.w) X.A X.env xe → PSs (X.tr pn xe) body (tb W))
    (hh : HdsAs X n (h₀ :: hds) l) : PS X (.Try body (h₀ :: hds) [] [] pos) (fun D σ H => tb (wManyAs X.K i Wout D l) D σ H) := by
  refine ⟨fun pins s σ H D I h => ?_⟩
  have ok := I.ok
  have hfr : X.A.frames = some (X.env :: X.outer) := by rw [ok.frames, hs]
  have hloc : Loc X.env.scope n := .inl hln
  refine wpAny_Try_except ?_
  refine wpAny_mono ((hb (wManyAs X.K i Wout D l) (X.pn ++ pins) (fun e s₁ => wpAny (model X.prog X.w) X.A (noteFrame e X.env) (fun _ s₂ => wpAny (model X.prog X.w) X.A (setFlight e none) (fun _ s₃ =>
    wpAny (model X.prog X.w) X.A (handleBy e X.env (h₀ :: hds)) (SP X pins D) X.xe s₃) X.xe s₂) X.xe s₁) (fun u s' xx => ?_) PassesOwn.looking).run [] s σ H D (I.toTry _) h) (fun f s1 hsp => ?_) (fun e s1 he => he)
  · -- the catch
    obtain ⟨a, B, sI, pins', σ', H', cls, d, rfl, J', nb, up, sky, na, os, ag, w⟩ := xx
    have J : Inv X pins σ' H' sI := J'.ofTry ok
    have sky' : Sky B (X.env :: X.outer) a (Zc cls d) X.env.locals s'.heap := by rw [← hs]; exact sky
    show wpAny (model X.prog X.w) X.A (noteFrame (.ref a) X.env) _ _ _
    refine Sky.land Zc.steady hfr hf sky' fun h3 fl3 up3 => ?_
    have J3 : Inv X pins σ' H' { s' with heap := h3 } := J.landed nb fl3.1 (up.trans up3) os ag
    obtain ⟨oe3, vs3, he3, hz3, hd3⟩ := fl3.there
    have notFr : ∀ {h : Heap} {o : Obj} {vs : Array Value}, h.FunFrames B (X.env :: X.outer) → h.get? a = some o → o.data = .fields vs → a ∉ frs (X.env :: X.outer) := fun {h o vs} ff e dd hm => by
      obtain ⟨_, o', e', hnf⟩ := ff.mem hm
      rw [e] at e'; cases e'
      exact hnf _ dd
    have nfr := notFr fl3.2.2.1 he3 hd3
    have nL : a ≠ X.env.locals := fun z => nfr (List.mem_filterMap.mpr ⟨X.env, List.mem_cons_self, by rw [hf, z]⟩)
    have nF : a ∉ X.fs := fun hm => by
      obtain ⟨e, he, q⟩ := List.mem_filterMap.mp hm
      exact nfr (List.mem_filterMap.mpr ⟨e, List.mem_cons_of_mem _ he, q⟩)
    have S3 := J3.suite he3 hd3 na nL nF
    have go : ∀ {hds' : List ExceptHandler} {l' : List (Value × (Addr → Value → Option Addr → TS))}, HdsAs X n hds' l' → wManyAs X.K i Wout D l' cls d σ' H' →
        wpAny (model X.prog X.w) X.A (handleBy (.ref a) X.env hds') (SP X pins D) X.xe { s' with heap := h3 } := by
      intro hds' l' hk
      induction hk with
      | nil =>
        intro w
        refine wpAny_handleBy_nil ?_
        obtain ⟨k1, k2, k3, oe, vs, T, oT, ts', he, hz, hd, h1, hr⟩ := id fl3
        unfold PySem.passOn
        refine wpAny_bind (wpAny_field he hd h1 ?_)
        rw [if_neg (show ¬ ((Value.ref T == Value.none) = true) from by simp)]
        have fin : wpAny (model X.prog X.w) X.A (setFlight (.ref a) X.env.frame) (fun _ s4 => wpAny (model X.prog X.w) X.A (throw (.ref a) : Sem Flow) (SP X pins D) X.xe s4) X.xe { s' with heap := h3 } := by
          rw [hf]
          refine HandSPX.setFlight_upZ fl3 fun h4 hh4 up4 => wpAny_throw (tk _ _ ?_)
          exact ⟨a, B, sI, pins, σ', H', cls, d, rfl, J, nb, (up.trans up3).trans up4, .inr (.inr (by rw [hs]; exact hh4)), na, os, ag, w⟩
        first
          | exact wpAny_bind (wpAny_pure (wpAny_bind fin))
          | exact wpAny_bind fin
      | @cons x c ts b₀ suite np pos' hds2 l2 hc hsu r ih =>
        intro w
        obtain ⟨b, hb1, hyes, hno⟩ := w
        refine wpAny_handleBy_cons (codeAny_handlers_test ?_) (by intro q; cases q)
        have LT : PySem.W.Looks (model X.prog X.w) h3 (typeOf (.ref a)) cls := fun A Q E s k q => wpAny_typeOf_ref (k _ _ he3) (by rw [hz3.1]; exact q)
        have LM := PySem.W.exm_one (M := model X.prog X.w) (J3.kIn) LT hb1
        have test : ∀ {Q : Value → Shared → Prop} {E : Value → Shared → Prop}, Q c { s' with heap := h3 } → wpAny (model X.prog X.w) (X.A.mark (some (.ref a))) (eval (.Name x np) X.env) Q E { s' with heap := h3 } := fun {Q E} q => by
          obtain ⟨hg, hdbg, hm | ⟨hm, hv, hnn⟩⟩ := hc
          · exact ld_glob (X := X.suite a ((a, oe3) :: (X.pn ++ pins))) S3 hg hm q hdbg
          · exact ld_blt (X := X.suite a ((a, oe3) :: (X.pn ++ pins))) S3 hg hm hv q hnn hdbg
        refine test (LM.here ?_)
        cases b with
        | true =>
          refine codeAny_handlers_suite_as ?_
          refine HandSPX.lands_againZ fl3 fun h4 fl4 up4 => ?_
          have J4 : Inv X pins σ' H' { s' with heap := h4 } := J.landed nb fl4.1 ((up.trans up3).trans up4) os ag
          obtain ⟨oe4, vs4, he4, hz4, hd4⟩ := fl4.there
          have S4 := J4.suite he4 hd4 na nL nF
          refine store_ok (X := X.suite a ((a, oe4) :: (X.pn ++ pins))) (v := .ref a) S4 hN hi hloc rfl (fun s5 S5 => ?_) (.inr hln)
          refine wpAny_mono ((hsu a oe4 cls d (X.pn ++ pins) hz4 ⟨_, hd4⟩).run [] s5 _ H' _ S5 (hyes rfl a na)) (fun f s6 hsp => ?_) (fun _ _ z => False.elim z)
          have end_ : ∀ {σ6 : St} {H6 : Hp} {Q : Shared → Prop}, Inv (X.suite a ((a, oe4) :: (X.pn ++ pins))) [] σ6 H6 s6 → (∀ s7, Inv X pins (σ6.set i none) H6 s7 → Q s7) →
              wpAny (model X.prog X.w) X.A (do bindName X.env n .none; unbindBehindTheSuite X.env n pos') (fun _ s7 => Q s7) X.xe s6 := fun {σ6 H6 Q} S6 hq => gone_ok (S6.unsuite ok) hN hi hln hq
          cases f with
          | next =>
            obtain ⟨σ6, H6, S6, q6⟩ := hsp
            exact end_ S6 fun s7 J7 => ⟨_, _, J7, q6⟩
          | brk =>
            obtain ⟨σ6, H6, S6, q6⟩ := hsp
            exact end_ S6 fun s7 J7 => ⟨_, _, J7, q6⟩
          | cont =>
            obtain ⟨σ6, H6, S6, q6⟩ := hsp
            exact end_ S6 fun s7 J7 => ⟨_, _, J7, q6⟩
          | ret u =>
            obtain ⟨v6, σ6, H6, S6, r6, q6⟩ := hsp
            exact end_ S6 fun s7 J7 => ⟨_, _, _, J7, r6, q6⟩
        | false =>
          show wpAny _ X.A (handleBy (.ref a) X.env hds2) _ _ _
          exact ih (hno rfl)
    exact go hh w
  · cases f with
    | next =>
      obtain ⟨σ', H', J', q⟩ := hsp
      exact wpAny_execs_nil ⟨σ', H', J'.ofTry ok, q⟩
    | brk =>
      obtain ⟨σ', H', J', q⟩ := hsp
      exact ⟨σ', H', J'.ofTry ok, q⟩
    | cont =>
      obtain ⟨σ', H', J', q⟩ := hsp
      exact ⟨σ', H', J'.ofTry ok, q⟩
    | ret u =>
      obtain ⟨v, σ', H', J', r, q⟩ := hsp
      exact ⟨v, σ', H', J'.ofTry ok, r, q⟩
end
end L2
namespace Law
open PySem PySem.Spec PyProof.Rows L2
/-! ### list.count of truth values -/
def eqt (b : Bool) (v : Value) : Bool := match v with
  | .bool c => c == b
  | _ => false
theorem bools_of : ∀ {bs : List Bool} {its : List Value}, Vals (bs.map V.bl) its → its = bs.map Value.bool
  | [], _, .nil => rfl
  | b :: bs, _, .cons r rr => by
    cases r
    rw [bools_of rr] <;> rfl
theorem eqt_count (b : Bool) : ∀ bs : List Bool, (bs.map Value.bool).countP (eqt b) = bs.count b
  | [] => rfl
  | c :: bs => by
    rw [List.map_cons, List.countP_cons, List.count_cons, eqt_count b bs] <;> rfl
section
variable {X : Cx}
def rCntB (K : PySem.W.Frag) : V → List V → Hp → VK → Prop := fun x xs H Q => ∃ (p : Addr) (bs : List Bool) (b : Bool), x = .ref p ∧ xs = [.bl b] ∧ SqL K H p (bs.map V.bl) ∧ Q (.int (bs.count b : Nat)) H
theorem mt_bcount : MtR X "list.count" (rCntB X.K) := by
  intro pins s σ H x xs v us Q I rx rxs h
  obtain ⟨p, bs, b, rfl, rfl, hs, q⟩ := h
  cases rx
  obtain ⟨u, rfl, ru⟩ := rxs.one
  cases ru
  obtain ⟨its, rv, ⟨⟨cls, dd, data, sl⟩, n, ho, hc, hdn, hd⟩, hlen⟩ := I.list hs
  simp only at hc hd
  subst hc hd
  have hi := bools_of rv
  subst hi
  refine call_meets PySem.F.slot_list_count ⟨_, ho, rfl⟩ PySem.F.entry_list_count (PySem.F.args_list_count_2 _ _)
    (SeqAt.list_countAt p (bs.map Value.bool).toArray n dd sl (.bool b) (eqt b)) ⟨ho, fun y hy => ?_, ?_⟩
  · have hy' : y ∈ bs.map Value.bool := by simpa using hy
    obtain ⟨c, _, rfl⟩ := List.mem_map.mp hy'
    exact eqAt_V (y := .bl c) (x := .bl b) rfl rfl rfl rfl
  · refine ⟨.int (bs.count b : Nat), H, I.tok _, ⟨s.toks, ?_⟩, q⟩
    show Value.int (((bs.map Value.bool).toArray.toList.countP (eqt b) : Nat) : Int) s.toks = Value.int ((bs.count b : Nat) : Int) s.toks
    rw [show (bs.map Value.bool).toArray.toList = bs.map Value.bool by simp, eqt_count]
end
/-! ### own exceptions as values -/
structure ExV (K : PySem.W.Frag) (C : Addr) : Prop where
  ox : OexC K C
  cl : (PySem.W.clsIn K C).isSome = true
  ga : PySem.W.findIn K (.ref C) "__getattribute__" = some (some (.builtin "BaseException.__getattribute__"))
  gg : PySem.W.findIn K (.ref C) "__getattr__" = some none
  ha : PySem.W.findIn K (.ref C) "__class__" = some (some (.builtin "object.__class__"))
  hn : PySem.W.specialIn K (.builtin "object.__class__") "__get__" = some (some (.builtin "getset_descriptor.__get__"))
  ht : PySem.W.takesIn K (.builtin "object.__class__") = some true
  hm : PySem.W.mroIn K C (.type "object") = some true
  hd : PySem.W.hasDictIn K C = true
def ExAt (H : Hp) (a C : Addr) (d : Option Addr) : Prop := H a = some (exo a C d) ∧ (d = none ∨ ∃ dd fs, d = some dd ∧ H dd = some (exd dd fs))
theorem ExAt.same {H H' : Hp} {a C : Addr} {d : Option Addr} (s : Same H H') (x : ExAt H a C d) : ExAt H' a C d := ⟨s _ _ x.1, by
  rcases x.2 with h | ⟨dd, fs, h1, h2⟩
  · exact .inl h
  · exact .inr ⟨dd, fs, h1, s _ _ h2⟩⟩
theorem exInst {P : Program} {w : World} {H : Hp} {h : Heap} {a C : Addr} {d : Option Addr} (hok : HOk P w H h) (x : ExAt H a C d) : ∃ ox od, PySem.W.InstAt h a ox C od := by
  obtain ⟨t1, e⟩ := exo_at hok x.1
  rcases x.2 with rfl | ⟨dd, fs, rfl, h2⟩
  · exact ⟨_, none, e, rfl, rfl, trivial⟩
  · obtain ⟨mA, hn, _⟩ := exd_at hok h2
    obtain ⟨od, ho, _⟩ := lookIn_ns hn
    exact ⟨_, some od, e, rfl, rfl, ho⟩
section
variable {X : Cx}
def rIsV (K : PySem.W.Frag) : List V → Hp → VK → Prop := fun xs H Q => ∃ (a C : Addr) (d : Option Addr) (c : V) (cv : Value) (b : Bool), xs = [.ref a, c] ∧ ExAt H a C d ∧ ExV K C ∧ ClsV c cv ∧ PySem.W.kitOne K (.ref C) cv = some b ∧ Q (.bl b) H
theorem call_isV : CallR X (.builtin "isinstance") (rIsV X.K) := by
  intro pins s σ H xs us Q I r h
  obtain ⟨a, C, d, c, cv, b, rfl, x, T, k, e, q⟩ := h
  obtain ⟨u1, u2, rfl, r1, r2⟩ := vals2 r
  cases (show u1 = Value.ref a from r1)
  have e2 := k.eq r2
  subst e2
  obtain ⟨ox, od, J⟩ := exInst I.hok x
  exact PySem.W.kia_one (PySem.W.kitx_exc T.cl T.ga T.gg T.ox.exC T.ha T.hn T.ht T.hm) I.kIn J e (fun z => nomatch z) fun tk => ⟨.bl b, H, I.tok tk, rfl, q⟩
variable {C fI : Addr} {k : Nat} {fd : FuncData} {ps : List Str} {sp : Sp}
/-- an own exception made, and held as a value -/
theorem run_exv' {ds : List Value} {dvs : List V} (hd : Vals dvs ds) {pins : List (Addr × Obj)} {σ : L2.St} {H1 : Hp} {s1 : Shared} {Q : VK} {vs : List V} {us : List Value} (T : ExV X.K C) (iC : PySem.W.findIn X.K (.ref C) "__init__" = some (some (.ref fI))) (tI : PySem.W.typeIn X.K (.ref fI) = some (.type "function"))
    (F1 : FnOk X.prog X.w X.K X.mg X.base CX0 k fI fd ps sp) (hr : Room (k + 1) X.A) (hb : Binds X.K fd ps ds) (I1 : Inv X pins σ H1 s1) (r1 : Vals vs us) (hz : vs.length ≤ 1000)
    (hq1 : ∀ a, H1 a = none → sp (.ref a :: (vs ++ dvs)) (upd H1 a (exo a C none)) (fun v H2 => v = .non ∧ Q (.ref a) H2) E0) : wpAny (model X.prog X.w) X.A (call (.ref C) us) (EP X pins σ Q) X.xe s1 := by
  obtain ⟨nm, q, N, bs, bm, sn, sub, ab, col, dd, k0, k1, k2, k3, k5, hC, hbm⟩ := T.ox.cls
  obtain ⟨hp, g, dr, tk, os⟩ := s1
  have hsz : hp.objs.size ≤ hp.objs.size + 1 := Nat.le_succ _
  have hn : H1 (hp.objs.size + 1) = none := I1.hok.fresh hsz
  have hq : sp (.ref (hp.objs.size + 1) :: (vs ++ dvs)) (upd H1 (hp.objs.size + 1) (exo (hp.objs.size + 1) C none)) (fun v H2 => v = .non ∧ Q (.ref (hp.objs.size + 1)) H2) E0 := hq1 (hp.objs.size + 1) hn
  have kk : ∀ b o, hp.get? b = some o → ((hp.push (PySem.W.kdv_tup us)).push (PySem.HandSPX.excO C hp.objs.size)).get? b = some o := fun b o e => Heap.get?_push_of_some _ (Heap.get?_push_of_some _ e)
  have hget : ((hp.push (PySem.W.kdv_tup us)).push (PySem.HandSPX.excO C hp.objs.size)).get? (hp.objs.size + 1) = some (PySem.HandSPX.excO C hp.objs.size) := by heap_get
  have I2 : Inv X pins σ (upd H1 (hp.objs.size + 1) (exo (hp.objs.size + 1) C none)) ⟨(hp.push (PySem.W.kdv_tup us)).push (PySem.HandSPX.excO C hp.objs.size), g, dr, tk, os⟩ :=
    I1.laid (t' := tk) (a := hp.objs.size + 1) (o := exo (hp.objs.size + 1) C none) (h' := (hp.push (PySem.W.kdv_tup us)).push (PySem.HandSPX.excO C hp.objs.size)) kk hsz (exo_ok hget)
  have r2 : Vals (V.ref (hp.objs.size + 1) :: (vs ++ dvs)) (Value.ref (hp.objs.size + 1) :: (us ++ ds)) := .cons rfl (r1.append hd)
  have hl : (Value.ref (hp.objs.size + 1) :: us ++ ds).length = ps.length := by
    have e := r2.length
    rw [F1.len _ _ _ _ hq] at e
    exact e.symm
  have hus : us.length ≤ sizeLine := by
    rw [← Paired.length r1, sizeLine_eq]
    omega
  refine wpAny_call (PySem.HandSPX.call_own F.excBase_ValueError (fun Y => PySem.HandSPX.refsVE_contains Y bm hbm) (I1.kIn _ _ hC) (PySem.W.looks_findIn I1.kIn iC) (fun self => PySem.W.bind_fn I1.kIn self tI) hus
    (codeAny_mono (F1.run _ X.stack _ _ ⟨Value.ref (hp.objs.size + 1) :: us, []⟩ (Value.ref (hp.objs.size + 1) :: (us ++ ds)) _ _ E0 (hr.make C us []) (I2.env0.make C us []) (hb _ (Value.ref (hp.objs.size + 1) :: us) I2.kIn hl) r2 hq) fun r s' hq' => ?_))
  cases r with
  | error er => exact False.elim hq'
  | ok fl =>
    cases fl with
    | ret u =>
      obtain ⟨v, H', I3, rv, ev, q3⟩ := I2.after hq'
      subst ev
      exact ⟨rv, ⟨V.ref (hp.objs.size + 1), H', I3, rfl, q3⟩⟩
    | next => exact False.elim hq'
    | brk => exact False.elim hq'
    | cont => exact False.elim hq'
theorem run_exv {pins : List (Addr × Obj)} {σ : L2.St} {H1 : Hp} {s1 : Shared} {Q : VK} {vs : List V} {us : List Value} (T : ExV X.K C) (iC : PySem.W.findIn X.K (.ref C) "__init__" = some (some (.ref fI))) (tI : PySem.W.typeIn X.K (.ref fI) = some (.type "function"))
    (F1 : FnOk X.prog X.w X.K X.mg X.base CX0 k fI fd ps sp) (hr : Room (k + 1) X.A) (hb : Binds X.K fd ps []) (I1 : Inv X pins σ H1 s1) (r1 : Vals vs us) (hz : vs.length ≤ 1000)
    (hq1 : ∀ a, H1 a = none → sp (.ref a :: vs) (upd H1 a (exo a C none)) (fun v H2 => v = .non ∧ Q (.ref a) H2) E0) : wpAny (model X.prog X.w) X.A (call (.ref C) us) (EP X pins σ Q) X.xe s1 :=
  run_exv' (ds := []) (dvs := []) .nil T iC tI F1 hr hb I1 r1 hz fun a ha => by
    rw [List.append_nil]
    exact hq1 a ha
def tExV (C : Addr) (sp : Sp) (ta : TA) : TE := fun σ H Q => ta σ H fun vs H1 => vs.length ≤ 1000 ∧ ∀ a, H1 a = none → sp (.ref a :: vs) (upd H1 a (exo a C none)) (fun v H2 => v = .non ∧ Q (.ref a) H2) E0
theorem pe_exv {x : Str} {p pos : Pos} {e : Expr} {es : List Expr} {ta : TA} (T : ExV X.K C) (iC : PySem.W.findIn X.K (.ref C) "__init__" = some (some (.ref fI))) (tI : PySem.W.typeIn X.K (.ref fI) = some (.type "function"))
    (F1 : FnOk X.prog X.w X.K X.mg X.base CX0 k fI fd ps sp) (hr : Room (k + 1) X.A) (hb : Binds X.K fd ps []) (hg : Gl X x) (hm : X.mg x = some (.ref C)) (ha : PA X (e :: es) ta) (hdb : (x == ("__debug__" : Str)) = false := by decide)
    (he : starEach (e :: es) X.env = (false, eval e X.env) :: starEach es X.env := by rfl) (hpl : (backTo pos (starEach es X.env)).any (·.1) = false := by rfl) : PE X (.Call (.Name x p) (e :: es) [] pos) (tExV C sp ta) := by
  refine ⟨fun pins s σ H Q I h => ?_⟩
  refine wpAny_Call_Name_kw (ld_glob I hg hm ?_ hdb)
  refine PySem.W.callWith_K (h₀ := X.base) I.ok.mod.kin T.ox.kC (thn (ha.run pos pins s σ H _ I h) fun us s1 ⟨vs, H1, I1, r1, hz, q1⟩ => ⟨I1.kIn, ?_⟩) he hpl
  exact run_exv T iC tI F1 hr hb I1 r1 hz q1
theorem pe_exv0 {x : Str} {p pos : Pos} (T : ExV X.K C) (iC : PySem.W.findIn X.K (.ref C) "__init__" = some (some (.ref fI))) (tI : PySem.W.typeIn X.K (.ref fI) = some (.type "function"))
    (F1 : FnOk X.prog X.w X.K X.mg X.base CX0 k fI fd ps sp) (hr : Room (k + 1) X.A) (hb : Binds X.K fd ps []) (hg : Gl X x) (hm : X.mg x = some (.ref C)) (hdb : (x == ("__debug__" : Str)) = false := by decide) : PE X (.Call (.Name x p) [] [] pos) (tExV C sp tNil) := by
  refine ⟨fun pins s σ H Q I h => ?_⟩
  refine wpAny_Call_Name_kw (ld_glob I hg hm ?_ hdb)
  exact PySem.W.callWith_K0 I.kIn T.ox.kC (run_exv (us := []) T iC tI F1 hr hb I .nil h.1 h.2)
/-- e.f of such an exception -/
def tExF (K : PySem.W.Frag) (n : Str) (te : TE) : TE := fun σ H Q => te σ H fun x H1 => ∃ (a C dd : Addr) (fs : List (Str × V)) (v : V), x = .ref a ∧ ExV K C ∧ PySem.W.findIn K (.ref C) n = some none ∧ H1 a = some (exo a C (some dd)) ∧ H1 dd = some (exd dd fs) ∧ fs.lookup n = some v ∧ Q v H1
theorem pe_exf {e : Expr} {te : TE} {pos : Pos} {n : Str} (he : PE X e te) (hb : attributeBase e n X.env (eval e X.env) = eval e X.env := by rfl) : PE X (.Attribute e n pos) (tExF X.K n te) := by
  refine ⟨fun pins s σ H Q I h => ?_⟩
  refine attr_of hb (thn (he.run pins s σ H _ I h) fun u s1 hh => ?_)
  obtain ⟨x, H1, I1, rx, a, C, dd, fs, v, ex, T, hno, ha, hd, l, q⟩ := hh
  subst ex
  obtain rfl : u = Value.ref a := rx
  obtain ⟨t1, ea⟩ := exo_at I1.hok ha
  obtain ⟨mA, hns, hr⟩ := exd_at I1.hok hd
  obtain ⟨od, ho, hl⟩ := lookIn_ns hns
  obtain ⟨u, hu, ru⟩ := RelO.some_of (v := v) (o := mA n) (by rw [← l]; exact hr n)
  have J : PySem.W.InstAt s1.heap a _ C (some od) := ⟨ea, rfl, rfl, ho⟩
  exact HandSPX.exc_get I1.kIn J T.ga T.gg T.ox.exC (PySem.W.findObj_own T.hd hno rfl (by rw [hl, hu])) (handed_of ru) ⟨v, H1, I1.tok _, ru, q⟩
end
end Law
namespace Law
open PySem PySem.Spec PyProof.Rows L2
def spIni (C : Addr) (f : Str) : Sp := fun vs H Q _ => ∃ (a : Addr) (v : V), vs = [.ref a, v] ∧ H a = some (exo a C none) ∧ ∀ dx, H dx = none → dx ≠ a → Q .non (upd (upd H dx (exd dx [(f, v)])) a (exo a C (some dx)))
def spPas : Sp := fun vs H Q _ => ∃ a : Addr, vs = [.ref a] ∧ Q .non H
structure Er1 (P : Program) (w : World) (K : PySem.W.Frag) (mg : Str → Option Value) (base : Heap) (x : Str) (C : Addr) (f : Str) : Prop where
  T : ExV K C
  m : mg x = some (.ref C)
  no : PySem.W.findIn K (.ref C) f = some none
  fn : ∃ fI fd ps, PySem.W.findIn K (.ref C) "__init__" = some (some (.ref fI)) ∧ PySem.W.typeIn K (.ref fI) = some (.type "function") ∧ FnOk P w K mg base CX0 1 fI fd ps (spIni C f) ∧ Binds K fd ps []
structure Er0 (P : Program) (w : World) (K : PySem.W.Frag) (mg : Str → Option Value) (base : Heap) (x : Str) (C : Addr) : Prop where
  T : ExV K C
  m : mg x = some (.ref C)
  fn : ∃ fI fd ps, PySem.W.findIn K (.ref C) "__init__" = some (some (.ref fI)) ∧ PySem.W.typeIn K (.ref fI) = some (.type "function") ∧ FnOk P w K mg base CX0 1 fI fd ps spPas ∧ Binds K fd ps []
end Law
namespace Law
open PySem PySem.Spec PyProof.Rows L2
section
variable {X : Cx} {a : Addr} {oe : Obj} {cls : Value} {d : Option Addr} {pn : List (Addr × Obj)}
/-- isinstance of the error that a suite holds, its dict there -/
def rIsS (K : PySem.W.Frag) (a : Addr) (cls : Value) (d : Option Addr) : List V → Hp → VK → Prop := fun xs H Q => ∃ (C dd : Addr) (fs : List (Str × V)) (c : V) (cv : Value) (b : Bool), xs = [.ref a, c] ∧ cls = .ref C ∧ ExV K C ∧ d = some dd ∧ H dd = some (.xd fs) ∧ ClsV c cv ∧ PySem.W.kitOne K (.ref C) cv = some b ∧ Q (.bl b) H
theorem call_isS (hz : Zc cls d oe) (hf : ∃ vs, oe.data = .fields vs) : CallR (X.suite a ((a, oe) :: pn)) (.builtin "isinstance") (rIsS X.K a cls d) := by
  intro pins s σ H xs us Q I r h
  obtain ⟨C, dd, fs, c, cv, b, rfl, rfl, T, rfl, hd, k, e, q⟩ := h
  obtain ⟨u1, u2, rfl, r1, r2⟩ := vals2 r
  cases (show u1 = Value.ref a from r1)
  have e2 := k.eq r2
  subst e2
  obtain ⟨hget, _⟩ := I.pin (a, oe) (List.mem_append.mpr (.inl List.mem_cons_self))
  obtain ⟨vs, hv⟩ := hf
  have hx : ObjOk X.prog X.w H s.heap dd (.xd fs) := I.hok dd _ hd
  obtain ⟨mA, hns, hr⟩ := hx
  obtain ⟨od, ho, hl⟩ := lookIn_ns hns
  have J : PySem.W.InstAt s.heap a oe C (some od) := ⟨hget, hz.1, by unfold PySem.W.notCls; rw [hv] <;> rfl, by rw [hz.2]; exact ho⟩
  exact PySem.W.kia_one (PySem.W.kitx_exc T.cl T.ga T.gg T.ox.exC T.ha T.hn T.ht T.hm) I.kIn J e (fun z => nomatch z) fun tk => ⟨.bl b, H, I.kept (t' := tk) fun _ _ z => z, rfl, q⟩
def tXs (K : PySem.W.Frag) (a : Addr) (cls : Value) (d : Option Addr) (n : Str) (te : TE) : TE := fun σ H Q => te σ H fun x H1 => x = .ref a ∧ ∃ (C dd : Addr) (fs : List (Str × V)) (v : V), cls = .ref C ∧ ExV K C ∧ PySem.W.findIn K (.ref C) n = some none ∧ d = some dd ∧ H1 dd = some (.xd fs) ∧ fs.lookup n = some v ∧ Q v H1
theorem pe_xs {e : Expr} {te : TE} {pos : Pos} {n : Str} (hz : Zc cls d oe) (hf : ∃ vs, oe.data = .fields vs) (he : PE (X.suite a ((a, oe) :: pn)) e te) (hb : attributeBase e n X.env (eval e X.env) = eval e X.env := by rfl) :
    PE (X.suite a ((a, oe) :: pn)) (.Attribute e n pos) (tXs X.K a cls d n te) := by
  refine ⟨fun pins s σ H Q I h => ?_⟩
  refine attr_of hb (thn (he.run pins s σ H _ I h) fun u s1 hh => ?_)
  obtain ⟨x, H1, I1, rx, ex, C, dd, fs, v, ec, T, hno, ed, ea, l, q⟩ := hh
  subst ex
  obtain rfl : u = Value.ref a := rx
  subst ec
  subst ed
  obtain ⟨ha, _⟩ := I1.pin (a, oe) (List.mem_append_left _ List.mem_cons_self)
  obtain ⟨vs, hd⟩ := hf
  have hx : ObjOk X.prog X.w H1 s1.heap dd (.xd fs) := I1.hok dd _ ea
  obtain ⟨mA, hns, hr⟩ := hx
  obtain ⟨od, ho, hl⟩ := lookIn_ns hns
  obtain ⟨u, hu, ru⟩ := RelO.some_of (v := v) (o := mA n) (by rw [← l]; exact hr n)
  have J : PySem.W.InstAt s1.heap a oe C (some od) := ⟨ha, hz.1, by unfold PySem.W.notCls; rw [hd] <;> rfl, by rw [hz.2]; exact ho⟩
  exact HandSPX.exc_get I1.kIn J T.ga T.gg T.ox.exC (PySem.W.findObj_own T.hd hno rfl (by rw [hl, hu])) (handed_of ru) ⟨v, H1, I1.tok _, ru, q⟩
end
theorem Er1.pmk {X : Cx} {x f : Str} {C : Addr} {p pos : Pos} {e : Expr} {es : List Expr} {ta : TA} (r : Er1 X.prog X.w X.K X.mg X.base x C f) (hr : Room 2 X.A) (ha : PA X (e :: es) ta) (hg : Gl X x := by rfl) (hdb : (x == ("__debug__" : Str)) = false := by decide)
    (he : starEach (e :: es) X.env = (false, eval e X.env) :: starEach es X.env := by rfl) (hpl : (backTo pos (starEach es X.env)).any (·.1) = false := by rfl) : PMk X (.Call (.Name x p) (e :: es) [] pos) (tMkO C (spIni C f) [] ta) := by
  obtain ⟨fI, fd, ps, h1, h2, h3, h4⟩ := r.fn
  exact pmk_oex r.T.ox h1 h2 h3 hr h4 .nil pass0 hg r.m ha hdb he hpl
end Law
namespace Law
open PySem PySem.Spec PyProof.Rows L2
theorem ba4 {a b : Bool} (h : (a && b) = true) : a = true ∧ b = true := Bool.and_eq_true_iff.mp h
theorem optT_ok2 {o : Option Bool} (h : optT o = true) : o = some true := by
  cases o with
  | none => cases h
  | some b =>
    cases b with
    | true => rfl
    | false => cases h
theorem clsB_ok {K : PySem.W.Frag} {C : Addr} (h : clsB K C = true) : ∃ nm q N bs bm sn sub ab col dd k0 k1 k2 k3 k5, K.lookup C = some (excClassObj nm q C N bs bm true sn sub ab col dd k0 k1 k2 k3 k5 "ValueError.__new__") ∧ PySem.HandSPX.refsVE bm = true := by
  unfold clsB at h
  split at h
  · rename_i dd cd sl ho
    split at h
    · rename_i C' bm k0 k1 k2 k3 n k5 hm hs
      obtain ⟨h1, h⟩ := ba4 h
      obtain ⟨h2, h⟩ := ba4 h
      obtain ⟨h3, h⟩ := ba4 h
      obtain ⟨h4, h5⟩ := ba4 h
      obtain ⟨nm, bs, mro, ns, qn, hd, sn, sb, ab, col, del⟩ := cd
      have e1 := of_decide_eq_true h1
      have e2 := of_decide_eq_true h2
      dsimp only at hm h3 h4
      have e3 : del = false := by simpa using h3
      have es : sl = #[k0, k1, k2, k3, some (.builtin n), k5] := by
        have z := congrArg List.toArray hs
        simpa using z
      subst e1 e2 e3 es hm h4
      exact ⟨nm, qn, ns, bs, bm, sn, sb, ab, col, dd, k0, k1, k2, k3, k5, ho, h5⟩
    · cases h
  · cases h
theorem exvB_ok {K : PySem.W.Frag} {C : Addr} (h : exvB K C = true) : ExV K C := by
  obtain ⟨h1, h⟩ := ba4 h
  obtain ⟨h2, h⟩ := ba4 h
  obtain ⟨h3, h⟩ := ba4 h
  obtain ⟨h4, h⟩ := ba4 h
  obtain ⟨h5, h⟩ := ba4 h
  obtain ⟨h6, h⟩ := ba4 h
  obtain ⟨h7, h⟩ := ba4 h
  obtain ⟨h8, h⟩ := ba4 h
  obtain ⟨h9, h⟩ := ba4 h
  obtain ⟨h10, h⟩ := ba4 h
  obtain ⟨h11, h⟩ := ba4 h
  obtain ⟨h12, h13⟩ := ba4 h
  exact ⟨⟨clsB_ok h1, He.eqO_ok h2, optT_ok2 h3, of_decide_eq_true h4, h5⟩, h6, He.eqO_ok h7, He.eqO_ok h8, He.eqO_ok h9, He.eqO_ok h10, optT_ok2 h11, optT_ok2 h12, h13⟩
section
variable {P : Program} {w : World} {K : PySem.W.Frag} {mg : Str → Option Value} {base : Heap}
theorem scE2 : FnScope ["self", "number"] ["self", "number"] (defScope s_BadLine_init) := ⟨rfl, rfl, rfl, by decide +kernel, rfl, by decide +kernel, by decide +kernel⟩
theorem ok_E2 {f C : Addr} {fd : FuncData} (F : Fun K "__init__" "BadLine.__init__" s_BadLine_init f fd) (O : OexC K C) (no : PySem.W.findIn K (.ref C) "number" = some none) : FnOk P w K mg base CX0 1 f fd ["self", "number"] (spIni C "number") := by
  refine F.ok scE2 (fun vs H Q E h => ?_) (fun cdv A outer s H vs Q E hr h => ?_)
  · obtain ⟨a, v, rfl, _⟩ := h
    rfl
  · obtain ⟨a, v, rfl, ha, k⟩ := h
    refine ⟨_, pss_one (ps_ost (pv 0) (pv 1)), ?_⟩
    exact ⟨_, rfl, _, rfl, a, C, rfl, O, no, .inl ⟨ha, fun dx hd ne => k dx hd ne⟩⟩
theorem scE1 : FnScope ["self", "part"] ["self", "part"] (defScope s_BadModel_init) := ⟨rfl, rfl, rfl, by decide +kernel, rfl, by decide +kernel, by decide +kernel⟩
theorem ok_E1 {f C : Addr} {fd : FuncData} (F : Fun K "__init__" "BadModel.__init__" s_BadModel_init f fd) (O : OexC K C) (no : PySem.W.findIn K (.ref C) "part" = some none) : FnOk P w K mg base CX0 1 f fd ["self", "part"] (spIni C "part") := by
  refine F.ok scE1 (fun vs H Q E h => ?_) (fun cdv A outer s H vs Q E hr h => ?_)
  · obtain ⟨a, v, rfl, _⟩ := h
    rfl
  · obtain ⟨a, v, rfl, ha, k⟩ := h
    refine ⟨_, pss_one (ps_ost (pv 0) (pv 1)), ?_⟩
    exact ⟨_, rfl, _, rfl, a, C, rfl, O, no, .inl ⟨ha, fun dx hd ne => k dx hd ne⟩⟩
end
end Law
namespace L2
open PySem PySem.Spec PyProof.Rows
/-- a def that may raise, called by its name -/
structure ClX (P : Program) (w : World) (K : PySem.W.Frag) (mg : Str → Option Value) (base : Heap) (k : Nat) (x : Str) (f : Addr) (fd : FuncData) (ps : List Str) (sp : Sp) : Prop where
  ok : FnOk P w K mg base (L2.CX P w) k f fd ps sp
  b : Binds K fd ps []
  m : mg x = some (.ref f)
  kp : PySem.W.keepIn K (.ref f) = true
theorem ClX.callS {X : Cx} {W : WX} {k : Nat} {x : Str} {f : Addr} {fd : FuncData} {ps : List Str} {sp : Sp} {p pos : Pos} {e : Expr} {es : List Expr} {t : TA} (c : ClX X.prog X.w X.K X.mg X.base k x f fd ps sp) (hr : Room k X.A) (tk : Takes X W) (ha : PA X (e :: es) t) (hg : Gl X x := by rfl) (hdb : (x == ("__debug__" : Str)) = false := by decide)
    (he : starEach (e :: es) X.env = (false, eval e X.env) :: starEach es X.env := by rfl) (hpl : (backTo pos (starEach es X.env)).any (·.1) = false := by rfl) :
    PE X (.Call (.Name x p) (e :: es) [] pos) (tCallS sp (WE W) t) := pe_callS c.ok hr hg c.m c.kp c.b (fun σ => passAt tk σ) ha hdb he hpl
end L2
namespace L2
open PySem PySem.Spec PyProof.Rows
/-- a list == [] -/
def rEqL0 (K : PySem.W.Frag) : R2 := fun x y H Q => ∃ p q xs, x = .ref p ∧ y = .ref q ∧ SqL K H p xs ∧ SqL K H q [] ∧ Q (.bl xs.isEmpty) H
theorem op_eqL0 {X : Cx} (hu : X.A.units + 64 < cLine) : OpR X (compareOp .Eq) (rEqL0 X.K) := by
  intro pins s σ H x y v u Q I rx ry h
  obtain ⟨p, q, xs, rfl, rfl, hp, hq, k⟩ := h
  cases (show v = Value.ref p from rx)
  cases (show u = Value.ref q from ry)
  obtain ⟨us, r1, p1, _⟩ := I.list hp
  obtain ⟨ws, r2, p2, _⟩ := I.list hq
  cases r2
  cases xs with
  | nil =>
    cases r1
    exact SeqAt.eq_listAt (e := fun _ => true) p1.isList p2.isList rfl (by omega) (fun j h1 h2 => absurd h1 (Nat.not_lt_zero j)) ⟨.bl true, H, I, rfl, k⟩
  | cons x xs =>
    cases r1
    exact SeqAt.eq_list_lengthsAt p1.isList p2.isList rfl (by omega) ⟨.bl false, H, I, rfl, k⟩
end L2
namespace Law
open PySem PySem.Spec PyProof.Rows L2
theorem del_new {H : Hp} {a : Addr} {o : HO} (h : H a = none) : del (upd H a o) a = H := by
  funext b
  unfold del
  by_cases e : b = a
  · rw [if_pos e, e, h]
  · rw [if_neg e, upd_ne e]
theorem rz_same {H : Hp} {a dx : Addr} {o1 o2 o3 o4 : HO} (ha : H a = none) (hd : (upd H a o1) dx = none) : Same H (upd (del (upd (upd (upd H a o1) dx o2) a o3) a) dx o4) := fun b o e => by
  have nb : b ≠ a := ne_of_none e ha
  have z : upd H a o1 b = some o := by
    rw [upd_ne nb]
    exact e
  have nd : b ≠ dx := ne_of_none z hd
  rw [upd_ne nd, del_ne nb, upd_ne nb, upd_ne nd, upd_ne nb]
  exact e
theorem rz_free {H : Hp} {a dx : Addr} {o1 : HO} (hd : (upd H a o1) dx = none) (ne : dx ≠ a) : H dx = none := by
  rw [upd_ne ne] at hd
  exact hd
/-- an own error with one field, raised -/
theorem rz {H H0 : Hp} {B : Addr} {f : Str} {v : V} {E : Value → Option Addr → Hp → Prop} (s : Same H0 H) (k : ∀ d H', Same H0 H' → H0 d = none → H' d = some (.xd [(f, v)]) → E (.ref B) (some d) H') : tMkO B (spIni B f) [] (fun σ H Q => Q [v] H) [] H fun cls d H' => E cls d H' := by
  refine ⟨by simp, fun ax hax => ⟨ax, _, rfl, upd_same, fun dd hd ne => ⟨rfl, dd, [(_, _)], upd_same, by rw [upd_ne ne, upd_same], rz_free hd ne, ?_⟩⟩⟩
  exact k dd _ (s.trans (rz_same hax hd)) (s.free (rz_free hd ne)) upd_same
end Law
namespace Law
open PySem L2 TL
section
variable {P : Program} {w : World} {K : PySem.W.Frag} {mg : Str → Option Value} {base : Heap}
def spMInit (K : PySem.W.Frag) (C B : Addr) : Sp := fun vs H Q E => ∃ (p dx w t : Addr) (m : Mdl), vs = [.ref p, .int m.many, .int m.levels, .ref w, .ref t] ∧ H p = some (.ins C dx []) ∧ RowsAt K H w m.ws ∧ TiesAt K H t m.ts ∧ TabOk m.ws ∧ (∀ t ∈ m.ts, TieOk t) ∧ m.ts.length ≤ 16000000 ∧
  (∀ pt d H', wrongM m = some pt → Same H H' → H d = none → H' d = some (.xd [("part", partV pt)]) → E (.ref B) (some d) H') ∧
  (∀ H', wrongM m = none → (∀ b o, b ≠ p → H b = some o → H' b = some o) → H' p = some (.ins C dx (modF m.many m.levels w t)) → Q .non H')
abbrev nModelInit : List Str := ["self", "many", "levels", "weights", "ties", "last", "number", "tie", "place"]
theorem scModelInit : FnScope nModelInit ["self", "many", "levels", "weights", "ties"] (defScope s_Model_init) := ⟨rfl, rfl, rfl, by decide +kernel, rfl, by decide +kernel, by decide +kernel⟩
theorem ok_minit {f : Addr} {fd : FuncData} {fcWithin : Addr} {fdcWithin : FuncData} {fcTable : Addr} {fdcTable : FuncData} {fcTie : Addr} {fdcTie : FuncData} {fcTiesAt : Addr} {fdcTiesAt : FuncData} {C B : Addr} (F : Fun K "__init__" "Model.__init__" s_Model_init f fd) (T : NmA mg) (cWithin : Cl P w K mg base CX0 2 "is_within" fcWithin fdcWithin ["low", "high", "thing"] (spWithin K)) (cTable : Cl P w K mg base CX0 4 "is_table" fcTable fdcTable ["rows", "columns", "thing"] (spTable K)) (cTie : Cl P w K mg base CX0 5 "is_tie" fcTie fdcTie ["many", "levels", "thing"] (spTie K)) (cTiesAt : Cl P w K mg base CX0 1 "ties_at" fcTiesAt fdcTiesAt ["ties", "place"] (spTiesAt K)) (S : ModT K mg C) (eBM : Er1 P w K mg base "BadModel" B "part") : FnOk P w K mg base (L2.CX P w) 6 f fd ["self", "many", "levels", "weights", "ties"] (spMInit K C B) := by
  refine F.okX scModelInit (fun vs H Q E h => ?_) (fun cdv A' outer s H vs Q E hr h => ?_)
  · obtain ⟨p, dx, wa, ta, m, rfl, _⟩ := h
    rfl
  · obtain ⟨p, dx, wa, ta, m, rfl, hp, hW, hT, tw, tt, tlen, kE, kQ⟩ := h
    have hu := hu_of hr
    refine ⟨_, pss_cons (ps_if (pt_not (pt_val (cWithin.call (hr.mono (by decide)) (pa_cons pe_int (pa_cons pe_int (pa_cons (pv 1) pa_nil))))))
        (pss_one (ps_raise rfl (takes_of rfl rfl rfl rfl) (eBM.pmk (hr.mono (by decide)) (pa_cons pe_str pa_nil)))) pss_nil)
      (pss_cons (ps_if (pt_not (pt_val (cWithin.call (hr.mono (by decide)) (pa_cons pe_int (pa_cons pe_int (pa_cons (pv 2) pa_nil))))))
        (pss_one (ps_raise rfl (takes_of rfl rfl rfl rfl) (eBM.pmk (hr.mono (by decide)) (pa_cons pe_str pa_nil)))) pss_nil)
      (pss_cons (ps_if (pt_not (pt_val (cTable.call (hr.mono (by decide)) (pa_cons (pv 1) (pa_cons (pv 2) (pa_cons (pv 3) pa_nil))))))
        (pss_one (ps_raise rfl (takes_of rfl rfl rfl rfl) (eBM.pmk (hr.mono (by decide)) (pa_cons pe_str pa_nil)))) pss_nil)
      (pss_cons (ps_if (pt_not (pt_val (pe_callB call_isi (by rfl) T.isi (by decide +kernel) (pa_cons (pv 4) (pa_cons (pe_bltn (v := .ty "tuple") (u := .type "tuple") (by rfl) T.tuple (by decide +kernel) rfl) pa_nil)))))
        (pss_one (ps_raise rfl (takes_of rfl rfl rfl rfl) (eBM.pmk (hr.mono (by decide)) (pa_cons pe_str pa_nil)))) pss_nil)
      (pss_cons (ps_set (i := 5) scModelInit.nd rfl (Or.inl rfl) (pe_tup (pa_cons pe_int (pa_cons pe_int pa_nil))))
      (pss_cons (ps_for (passes_of rfl) rfl (pi_enumT (by rfl) T.enum (pa_cons (pv 4) pa_nil)) (pg_tup (by rfl) (pgs_cons (pg_name (i := 6) scModelInit.nd rfl (Or.inl rfl)) (pgs_cons (pg_name (i := 7) scModelInit.nd rfl (Or.inl rfl)) pgs_nil)))
        (pss_cons (ps_if (PW.pt (pw_or (pt_not (pt_val (cTie.call (hr.mono (by decide)) (pa_cons (pv 1) (pa_cons (pv 2) (pa_cons (pv 7) pa_nil)))))) (pw_or1 (pt_cmpR (op_leT (Nat.lt_of_le_of_lt (Nat.le_add_right _ 64) hr.units)) (pe_slice sl_tupA (pv 7) po_none (po_some pe_int)) (pv 5) (nomark _)))))
          (pss_one (ps_raise rfl (takes_of rfl rfl rfl rfl) (eBM.pmk (hr.mono (by decide)) (pa_cons (pv 6) pa_nil)))) pss_nil)
        (pss_one (ps_set (i := 5) scModelInit.nd rfl (Or.inl rfl) (pe_slice sl_tupA (pv 7) po_none (po_some pe_int))))))
      (pss_cons (ps_if (pt_val (pe_callB (cr_any rfl) (by rfl) T.any (by decide +kernel) (pa_cons (pe_lc (own := [("place", 8)]) (g := (gName 8)) (tt := tYes) rfl scModelInit.nd  (pi_range1 (by rfl) T.range (pa_cons (pv 1) pa_nil)) (blkOk_by (own := [("place", 8)]) (N := nModelInit) (sc := defScope s_Model_init) (by decide +kernel)) (fun _ _ _ _ _ => (pg_name (i := 8) scModelInit.nd rfl (Or.inl rfl))) (fun _ _ _ _ _ => pts_nil) (fun _ _ _ _ _ => (pe_cmpR op_gt (cTiesAt.call (hr.mono (by decide)) (pa_cons (pv 4) (pa_cons (pv 8) pa_nil))) pe_int (nomark _)))) pa_nil)))
        (pss_one (ps_raise rfl (takes_of rfl rfl rfl rfl) (eBM.pmk (hr.mono (by decide)) (pa_cons pe_str pa_nil)))) pss_nil)
      (pss_cons (ps_fld (pv 0) (pv 1) rfl)
      (pss_cons (ps_fld (pv 0) (pv 2) rfl)
      (pss_cons (ps_fld (pv 0) (pv 3) rfl)
      (pss_one (ps_fld (pv 0) (pv 4) rfl))))))))))), ?_⟩
    obtain ⟨ts, hTS, hTA⟩ := id hT
    have tl0 : ts.length = m.ts.length := hTA.1
    have wr : wrongM m = if ¬ (1 ≤ m.many ∧ m.many ≤ 12) then some (.inl "many") else if ¬ (1 ≤ m.levels ∧ m.levels ≤ 4) then some (.inl "levels") else if tabB m.many m.levels m.ws = false then some (.inl "weights") else
      match badT m.many m.levels m.ts with
      | some i => some (.inr i)
      | none => if crowdB m.many m.ts = true then some (.inl "crowded") else none := rfl
    have bad : ∀ (lo hi x : Int), ¬ (lo ≤ x ∧ x ≤ hi) → (decide (lo ≤ x) && decide (x ≤ hi)) = false := fun lo hi x c => by
      cases h1 : decide (lo ≤ x) with
      | false => rfl
      | true =>
        cases h2 : decide (x ≤ hi) with
        | false => rfl
        | true => exact absurd ⟨of_decide_eq_true h1, of_decide_eq_true h2⟩ c
    refine ⟨_, rfl, 1, 12, _, rfl, .inl ⟨m.many, rfl, _, rfl, ?_⟩⟩
    by_cases c1 : 1 ≤ m.many ∧ m.many ≤ 12
    · rw [decide_eq_true c1.1, decide_eq_true c1.2]
      rw [if_neg (fun z => z c1)] at wr
      refine iteF ⟨_, rfl, 1, 4, _, rfl, .inl ⟨m.levels, rfl, _, rfl, ?_⟩⟩
      by_cases c2 : 1 ≤ m.levels ∧ m.levels ≤ 4
      · rw [decide_eq_true c2.1, decide_eq_true c2.2]
        rw [if_neg (fun z => z c2)] at wr
        refine iteF ⟨_, rfl, _, rfl, _, rfl, m.many, m.levels, wa, m.ws, rfl, hW, tw, fun H1 s1 => ⟨_, rfl, ?_⟩⟩
        cases c3 : tabB m.many m.levels m.ws with
        | false =>
          rw [if_pos c3] at wr
          exact iteT (rz s1 fun d H' s hd hx => kE (.inl "weights") d H' wr s hd hx)
        | true =>
          rw [if_neg (by rw [c3]; exact Bool.noConfusion)] at wr
          have hTS1 := s1.sqT hTS
          refine iteF ⟨_, rfl, _, _, _, _, _, rfl, .ty "tuple", tyx_tup hTS1, kit_tt, _, rfl, iteF ?_⟩
          refine ⟨by show 2 ≤ sizeLine; decide, fun la hla => ?_⟩
          refine new_step hla fun H2 s2 e2 => ?_
          have s12 := s1.trans s2
          refine ⟨_, rfl, ta, ts, rfl, s12.sqT hTS, for_it walk_enumT (fun i σ H' => Same H H' ∧ (∀ j, j < i → gT m.many m.levels m.ts j = true) ∧ ∃ (la : Addr) (u v : Option V), SqT K H' la [.int (lastP m.ts i).1, .int (lastP m.ts i).2] ∧ σ = [some (.ref p), some (.int m.many), some (.int m.levels), some (.ref wa), some (.ref ta), some (.ref la), u, v, none]) ⟨s12, fun j hj => absurd hj (Nat.not_lt_zero _), la, none, none, SqT.of e2, rfl⟩ (fun i σ H' _ h => h.1.sqT hTS) ?_ ?_⟩
          · rintro i x σ H3 H4 hi ⟨s3, gd, la, u, v, hla, rfl⟩ ⟨t, y, rfl, ht, rfl, hy⟩
            obtain ⟨tie, hti, hA⟩ := hTA.2 i y hy
            have s4 : Same H3 (upd H3 t (.tup [.int (i : Nat), y])) := Same.new ht
            have il := (List.getElem?_eq_some_iff.mp hti).1
            have tok := tt tie (List.mem_of_getElem? hti)
            have gi : gT m.many m.levels m.ts i = (tieB m.many m.levels tie && !leP tie.1 (lastP m.ts i)) := by
              unfold gT
              rw [hti]
            have badi : ∀ {H' : Hp}, Same H H' → gT m.many m.levels m.ts i = false → ∃ v, some (some (V.int (i : Nat))) = some (some v) ∧ tMkO B (spIni B "part") [] (fun σ H Q => Q [v] H) [] H' fun cls d H' => E cls d H' := fun {H'} s g => by
              have bm : badT m.many m.levels m.ts = some i := rng_some il g gd
              rw [bm] at wr
              exact ⟨_, rfl, rz s fun d H' s hd hx => kE (.inr i) d H' wr s hd hx⟩
            refine ⟨t, _, rfl, SqT.of upd_same, rfl, _, _, rfl, _, _, rfl, rfl, ?_⟩
            refine ⟨_, rfl, _, rfl, _, rfl, m.many, m.levels, y, tie, rfl, (hA.same s3).same s4, tok, fun H5 s5 => ⟨_, rfl, ?_⟩⟩
            have s35 := s4.trans s5
            cases g : tieB m.many m.levels tie with
            | false =>
              rw [g, Bool.false_and] at gi
              exact iteT (badi (s3.trans s35) gi)
            | true =>
              rw [g, Bool.true_and] at gi
              obtain ⟨a, b, rfl, ha, hb⟩ := hA
              have ha5 := (s3.trans s35).sqT ha
              refine iteF ?_
              unfold tNoPart
              refine ⟨_, rfl, 2, rfl, a, _, rfl, ha5, fun z => absurd z.2 (by show ¬ HT.sIx 3 3 (some 2) = 3; decide), fun _ q hq => ?_⟩
              rw [cut2]
              refine new_step hq fun H6 s6 e6 => ?_
              refine ⟨_, rfl, q, la, [tie.1.1, tie.1.2], [(lastP m.ts i).1, (lastP m.ts i).2], rfl, rfl, SqT.of e6, (s35.trans s6).sqT hla, _, rfl, ?_⟩
              rw [lex2]
              have s36 := s35.trans s6
              cases g2 : leP tie.1 (lastP m.ts i) with
              | true =>
                rw [g2] at gi
                exact iteT (badi (s3.trans s36) gi)
              | false =>
                rw [g2] at gi
                have ha6 := s6.sqT ha5
                refine iteF ⟨_, rfl, 2, rfl, a, _, rfl, ha6, fun z => absurd z.2 (by show ¬ HT.sIx 3 3 (some 2) = 3; decide), fun _ q2 hq2 => ?_⟩
                rw [cut2]
                refine ⟨(s3.trans s36).trans (Same.new hq2), fun j hj => ?_, q2, _, _, ?_, rfl⟩
                · by_cases z : j < i
                  · exact gd j z
                  · rw [show j = i by omega]
                    exact gi
                · have el : lastP m.ts (i + 1) = tie.1 := by
                    unfold lastP
                    rw [if_neg (Nat.succ_ne_zero i), Nat.add_sub_cancel, hti]
                  rw [el]
                  exact SqT.of upd_same
          · rintro σ H3 ⟨s3, gd, la, u, v, hla, rfl⟩
            have bm : badT m.many m.levels m.ts = none := rng_none fun j hj => gd j (by rw [tl0]; exact hj)
            rw [bm] at wr
            change wrongM m = (if crowdB m.many m.ts = true then some (.inl "crowded") else none) at wr
            have m0 : 0 ≤ m.many := by omega
            refine ⟨_, rfl, _, rfl, by omega, by omega, fun D hD => ?_⟩
            refine lc_range (lo := 0) (n := m.many.toNat) (fun i H' => Same H3 H' ∧ H' D = some (.lst (((List.range i).map fun p => decide (4 < cntT m.ts (p : Nat))).map V.bl))) ⟨Same.new hD, upd_same⟩ (fun i H4 hi g => ?_) fun H4 g => ?_
            · obtain ⟨s4, h4⟩ := g
              refine ⟨rfl, _, rfl, _, rfl, ta, m.ts, _, rfl, hT.same (s3.trans s4), tlen, fun H5 s5 => ⟨_, _, rfl, rfl, _, s5 _ _ h4, ?_, (s4.trans s5).mut hD, ?_⟩⟩
              · rw [List.length_map, List.length_map, List.length_range]
                exact small1000 (by omega)
              · rw [upd_same, List.range_succ, List.map_append, List.map_append, Int.zero_add]
                have : decide ((4 : Int) < ((cntT m.ts ((i : Nat) : Int) : Nat) : Int)) = decide (4 < cntT m.ts ((i : Nat) : Int)) := decide_eq_decide.mpr (by omega)
                show some (HO.lst (_ ++ [V.bl (decide ((4 : Int) < _))])) = some (HO.lst (_ ++ [V.bl (decide (4 < _))]))
                rw [this]
            · obtain ⟨s4, h4⟩ := g
              refine ⟨D, _, rfl, SqL.of h4, _, rfl, ?_⟩
              rw [any_take]
              change (if crowdB m.many m.ts = true then _ else _)
              have s34 := s3.trans s4
              cases hc : crowdB m.many m.ts with
              | true =>
                rw [if_pos hc] at wr
                exact iteT (rz s34 fun d H' s hd hx => kE (.inl "crowded") d H' wr s hd hx)
              | false =>
                rw [if_neg (by rw [hc]; exact Bool.noConfusion)] at wr
                refine iteF ⟨_, rfl, _, rfl, p, C, dx, [], rfl, s34 _ _ hp, S.cl, S.nK, (by show 0 < 1000; decide), _, rfl, _, rfl, p, C, dx, _, rfl, upd_same, S.cl, S.nL, (by show 1 < 1000; decide), _, rfl, _, rfl, p, C, dx, _, rfl, upd_same, S.cl, S.nW, (by show 2 < 1000; decide), _, rfl, _, rfl, p, C, dx, _, rfl, upd_same, S.cl, S.nT, (by show 3 < 1000; decide), ?_⟩
                rw [upd_upd, upd_upd, upd_upd]
                exact kQ _ wr (fun b o n e => by rw [upd_ne n]; exact s34 b o e) upd_same
      · rw [if_pos c2] at wr
        rw [bad 1 4 _ c2]
        exact iteT (rz (Same.refl H) fun d H' s hd hx => kE (.inl "levels") d H' wr s hd hx)
    · rw [if_pos c1] at wr
      rw [bad 1 12 _ c1]
      exact iteT (rz (Same.refl H) fun d H' s hd hx => kE (.inl "many") d H' wr s hd hx)
def eqM (a b : Mdl) : Bool := decide (a.many = b.many) && (decide (a.levels = b.levels) && (decide (a.ws = b.ws) && decide (a.ts = b.ts)))
def spMEq (K : PySem.W.Frag) (C : Addr) : Sp := fun vs H Q _ => ∃ (p q : Addr) (a b : Mdl), vs = [.ref p, .ref q] ∧ ModAt K C H p a ∧ ModAt K C H q b ∧ Q (.bl (eqM a b)) H
abbrev nModelEq : List Str := ["self", "other"]
theorem scModelEq : FnScope nModelEq ["self", "other"] (defScope s_Model_eq) := ⟨rfl, rfl, rfl, by decide +kernel, rfl, by decide +kernel, by decide +kernel⟩
theorem ok_meq {f : Addr} {fd : FuncData} {C : Addr} (F : Fun K "__eq__" "Model.__eq__" s_Model_eq f fd) (T : NmA mg) (S : ModT K mg C) : FnOk P w K mg base CX0 1 f fd ["self", "other"] (spMEq K C) := by
  refine F.ok scModelEq (fun vs H Q E h => ?_) (fun cdv A' outer s H vs Q E hr h => ?_)
  · obtain ⟨p, q, a, b, rfl, _⟩ := h
    rfl
  · obtain ⟨p, q, a, b, rfl, h1, h2, k⟩ := h
    have hu := hu_of hr
    refine ⟨_, pss_one (ps_ret (pe_and (pe_callB call_isi (by rfl) T.isi (by decide +kernel) (pa_cons (pv 1) (pa_cons (pe_glob (v := .ref C) (u := .ref C) rfl S.mgC rfl) pa_nil))) (pe_and (pe_cmpR op_eq (pe_fld (pv 0) rfl) (pe_fld (pv 1) rfl) (nomark _)) (pe_and (pe_cmpR op_eq (pe_fld (pv 0) rfl) (pe_fld (pv 1) rfl) (nomark _)) (pe_and (pe_cmpR (op_eqD hr.units) (pe_fld (pv 0) rfl) (pe_fld (pv 1) rfl) (nomark _)) (pe_one (pe_cmpR (op_eqD hr.units) (pe_fld (pv 0) rfl) (pe_fld (pv 1) rfl) (nomark _)))))))), ?_⟩
    obtain ⟨d1, w1, t1, a1, b1, c1⟩ := id h1
    obtain ⟨d2, w2, t2, a2, b2, c2⟩ := id h2
    have ei : ∀ x y : Int, decide (V.int x = V.int y) = decide (x = y) := fun x y => decide_eq_decide.mpr ⟨fun z => V.int.inj z, fun z => by rw [z]⟩
    unfold eqM at k
    refine ⟨_, rfl, _, _, _, _, _, rfl, .own C, h2.ty S, kit_selfM (by simp), _, rfl, iteT ?_⟩
    refine ⟨_, rfl, p, C, d1, _, _, rfl, a1, S.cl, S.nK, modF_many _ _ _ _, _, rfl, q, C, d2, _, _, rfl, a2, S.cl, S.nK, modF_many _ _ _ _, rfl, _, rfl, ?_⟩
    rw [ei]
    cases e1 : decide (a.many = b.many) with
    | false =>
      rw [e1, Bool.false_and] at k
      exact iteF k
    | true =>
    rw [e1, Bool.true_and] at k
    refine iteT ⟨_, rfl, p, C, d1, _, _, rfl, a1, S.cl, S.nL, modF_levels _ _ _ _, _, rfl, q, C, d2, _, _, rfl, a2, S.cl, S.nL, modF_levels _ _ _ _, rfl, _, rfl, ?_⟩
    rw [ei]
    cases e2 : decide (a.levels = b.levels) with
    | false =>
      rw [e2, Bool.false_and] at k
      exact iteF k
    | true =>
    rw [e2, Bool.true_and] at k
    refine iteT ⟨_, rfl, p, C, d1, _, _, rfl, a1, S.cl, S.nW, modF_weights _ _ _ _, _, rfl, q, C, d2, _, _, rfl, a2, S.cl, S.nW, modF_weights _ _ _ _, tabD a.ws, tabD b.ws, dp_rows b1, dp_rows b2, shaped_of (lay_tabD _) (by decide), shaped_of (lay_tabD _) (by decide), _, rfl, ?_⟩
    rw [eqv_tabD]
    cases e3 : decide (a.ws = b.ws) with
    | false =>
      rw [e3, Bool.false_and] at k
      exact iteF k
    | true =>
    rw [e3, Bool.true_and] at k
    refine iteT ⟨_, rfl, p, C, d1, _, _, rfl, a1, S.cl, S.nT, modF_ties _ _ _ _, _, rfl, q, C, d2, _, _, rfl, a2, S.cl, S.nT, modF_ties _ _ _ _, tiesD a.ts, tiesD b.ts, dp_ties c1, dp_ties c2, shaped_of (lay_tiesD _) (by decide), shaped_of (lay_tiesD _) (by decide), ?_⟩
    rw [eqv_tiesD]
    exact k
end
end Law

namespace L2
open PySem PySem.Spec PyProof.Rows TL
theorem mem_joinS {S : List Nat} : ∀ {ps : List (List Nat)} {p : List Nat}, p ∈ ps → p.length ≤ (joinL S ps).length
  | [q], p, h => by rw [List.mem_singleton.mp h]; exact Nat.le_refl _
  | q :: r :: t, p, h => by
    show p.length ≤ (q ++ (S ++ joinL S (r :: t))).length
    rw [List.length_append, List.length_append]
    rcases List.mem_cons.mp h with rfl | h
    · omega
    · have := mem_joinS (S := S) h
      omega
theorem cnt_joinS {S : List Nat} (hS : 1 ≤ S.length) : ∀ (ps : List (List Nat)), ps.length ≤ (joinL S ps).length + 1
  | [] => Nat.zero_le _
  | [q] => by show 1 ≤ _; omega
  | q :: r :: t => by
    have := cnt_joinS hS (r :: t)
    show (r :: t).length + 1 ≤ (q ++ (S ++ joinL S (r :: t))).length + 1
    rw [List.length_append, List.length_append]
    omega
theorem splB_bound (x : Str) : (∀ u ∈ Txt.split x bar, u.length ≤ x.length) ∧ (Txt.split x bar).length ≤ x.length + 1 := by
  have e := split_spl x bar (by rw [t_bar]; simp) (kind_ok (by decide +kernel))
  rw [t_bar] at e
  have j : joinL [32, 124, 32] (spl [32, 124, 32] 0 [] (tl x)) = tl x := by rw [join_splS (by simp) _ _ _ (Nat.le_refl _), List.nil_append]
  refine ⟨fun u hu => ?_, ?_⟩
  · have m : tl u ∈ spl [32, 124, 32] 0 [] (tl x) := by rw [← e]; exact List.mem_map.mpr ⟨u, hu, rfl⟩
    have := mem_joinS (S := [32, 124, 32]) m
    rw [j, ← len_tl, ← len_tl] at this
    exact this
  · have z := cnt_joinS (S := [32, 124, 32]) (by decide) (spl [32, 124, 32] 0 [] (tl x))
    rw [j, ← len_tl, ← e, List.length_map] at z
    exact z
/-! ### what is read of a line, of all lines -/
inductive Prt
  | num (i : Int)
  | row (l : List Int)
  | tie (t : Tie)
def prtO (j : Nat) (m : Int) (x : Str) : Option Prt := if j = 0 then (headW "places" x).map .num else if j = 1 then (headW "levels" x).map .num else if (j : Int) < m + 2 then (rowW x).map .row else (tieO x).map .tie
theorem prtO_0 (m : Int) (x : Str) : prtO 0 m x = (headW "places" x).map .num := if_pos rfl
theorem prtO_1 (m : Int) (x : Str) : prtO 1 m x = (headW "levels" x).map .num := (if_neg (by decide)).trans (if_pos rfl)
def many0 : List Str → Int
  | [] => 0
  | x :: _ => (headW "places" x).getD 0
def prts (body : List Str) : List (Option Prt) := body.mapIdx fun j x => prtO j (many0 body) x
def numP : Prt → Int
  | .num i => i
  | _ => 0
def rowP : Prt → List Int
  | .row l => l
  | _ => []
def tieP : Prt → Tie
  | .tie t => t
  | _ => ((0, 0), [])
def mdlOf (ps : List Prt) : Mdl := { many := numP (ps.getD 0 (.num 0)), levels := numP (ps.getD 1 (.num 0)), ws := ((ps.drop 2).take (numP (ps.getD 0 (.num 0))).toNat).map rowP, ts := ((ps.drop 2).drop (numP (ps.getD 0 (.num 0))).toNat).map tieP }
inductive OutM
  | line (n : Nat)
  | part (p : Part)
  | told (m : Mdl)
def madeM (m : Mdl) : OutM := match wrongM m with
  | some p => .part p
  | none => .told m
def endM (body : List Str) (rest : Str) : OutM := match firstNo (prts body) with
  | some i => .line (i + 1)
  | none => if rest = Str.empty ∧ body ≠ [] ∧ ¬ ((body.length : Int) < many0 body + 2) then madeM (mdlOf ((prts body).filterMap id)) else .line (body.length + 1)
def readM (ls : List Str) : OutM := endM ls.dropLast (ls.getLast?.getD Str.empty)
theorem readM_by (body : List Str) (rest : Str) : readM (body ++ [rest]) = endM body rest := by
  unfold readM
  rw [List.dropLast_concat, List.getLast?_concat] <;> rfl
def PrtAt (K : PySem.W.Frag) (H : Hp) (v : V) : Prt → Prop
  | .num i => v = .int i
  | .row l => RowAt K H v l
  | .tie t => TieAt K H v t
theorem PrtAt.same {K : PySem.W.Frag} {H H' : Hp} {v : V} {q : Prt} (s : Same H H') (h : PrtAt K H v q) : PrtAt K H' v q := by
  cases q with
  | num i => exact h
  | row l => exact RowAt.same s h
  | tie t => exact TieAt.same s h
theorem PrtAt.upd {K : PySem.W.Frag} {H : Hp} {D : Addr} {acc : List V} {o : HO} {v : V} {q : Prt} (hD : H D = some (.lst acc)) (h : PrtAt K H v q) : PrtAt K (upd H D o) v q := by
  cases q with
  | num i => exact h
  | row l => exact RowAt.upd hD h
  | tie t => exact TieAt.upd hD h
def OptAt (K : PySem.W.Frag) (H : Hp) (v : V) (o : Option (List Int)) : Prop := (o = none ∧ v = .non) ∨ ∃ l, o = some l ∧ RowAt K H v l
theorem OptAt.same {K : PySem.W.Frag} {H H' : Hp} {v : V} {o : Option (List Int)} (s : Same H H') (h : OptAt K H v o) : OptAt K H' v o := by
  rcases h with h | ⟨l, h1, h2⟩
  · exact .inl h
  · exact .inr ⟨l, h1, h2.same s⟩
theorem OptAt.upd {K : PySem.W.Frag} {H : Hp} {D : Addr} {acc : List V} {o : HO} {v : V} {x : Option (List Int)} (hD : H D = some (.lst acc)) (h : OptAt K H v x) : OptAt K (upd H D o) v x := by
  rcases h with h | ⟨l, h1, h2⟩
  · exact .inl h
  · exact .inr ⟨l, h1, h2.upd hD⟩
theorem units65 {k : Nat} {A : Around} (r : Room k A) : A.units + 65 < cLine := by have := r.un; omega
def rInDT (K : PySem.W.Frag) : R2 := fun x y H Q => ∃ d ds, Dp K H x d ∧ Dp K H y (.tuple ds) ∧ SeqAt.shaped d = true ∧ SeqAt.shaped (.tuple ds) = true ∧ Q (.bl (ds.any fun z => PyData.eqv z d)) H
theorem lay_tup {ds : List PyData} (h : PyData.canLayAll0 ds = true ∧ PyData.depthAll ds ≤ 10) : (PyData.tuple ds).canLay0 = true ∧ (PyData.tuple ds).depth ≤ 11 := by
  rw [PyData.canLay0, PyData.depth]
  exact ⟨h.1, by omega⟩
theorem op_inDT {X : Cx} (hu : X.A.units + 65 < cLine) : OpR X (compareOp .In) (rInDT X.K) := by
  intro pins s σ H x y v u Q I rx ry h
  obtain ⟨d, ds, hd, he, sd, se, q⟩ := h
  obtain ⟨as, r1⟩ := Dp.reads I d x v hd rx
  obtain ⟨bs, r2⟩ := Dp.reads I (.tuple ds) y u he ry
  exact SeqAt.in_tuple_reads r2 r1 (SeqAt.canLay_of_shaped se) (SeqAt.canLay_of_shaped sd) (room_in_shaped sd hu) ⟨.bl _, H, I, rfl, q⟩
theorem lay_of (n : Nat) : ∀ ds : List PyData, (∀ d ∈ ds, d.canLay0 = true ∧ d.depth ≤ n) → PyData.canLayAll0 ds = true ∧ PyData.depthAll ds ≤ n
  | [], _ => by simp [PyData.canLayAll0, PyData.depthAll]
  | d :: ds, h => by
    obtain ⟨h1, h2⟩ := h d List.mem_cons_self
    obtain ⟨h3, h4⟩ := lay_of n ds fun e he => h e (List.mem_cons_of_mem _ he)
    rw [PyData.canLayAll0, PyData.depthAll, h1, h3]
    exact ⟨rfl, Nat.max_le.mpr ⟨h2, h4⟩⟩
end L2
namespace Law
open PySem L2 TL
def optR : Option (List Int) → PyData
  | some l => tupD l
  | none => .none
theorem dp_optR {K : PySem.W.Frag} {H : Hp} {v : V} {o : Option (List Int)} (h : OptAt K H v o) : Dp K H v (optR o) := by
  rcases h with ⟨rfl, rfl⟩ | ⟨l, rfl, h⟩
  · exact .non
  · exact dp_row h
theorem lay_optR (o : Option (List Int)) : (optR o).canLay0 = true ∧ (optR o).depth ≤ 1 := by
  cases o with
  | none => exact ⟨by simp only [optR, PyData.canLay0], by simp only [optR, PyData.depth]; omega⟩
  | some l => exact lay_tupD l
theorem lay_optRs (os : List (Option (List Int))) : PyData.canLayAll0 (os.map optR) = true ∧ PyData.depthAll (os.map optR) ≤ 1 := lay_all optR 1 lay_optR os
theorem shaped_optT (os : List (Option (List Int))) : SeqAt.shaped (.tuple (os.map optR)) = true := by
  have h := lay_optRs os
  exact shaped_of (n := 2) (by rw [PyData.canLay0, PyData.depth]; exact ⟨h.1, by omega⟩) (by decide)
theorem shaped_optL (os : List (Option (List Int))) : SeqAt.shaped (.list (os.map optR)) = true := by
  have h := lay_optRs os
  exact shaped_of (n := 2) (by rw [PyData.canLay0, PyData.depth]; exact ⟨h.1, by omega⟩) (by decide)
theorem any_optR : ∀ os : List (Option (List Int)), ((os.map optR).any fun z => PyData.eqv z .none) = decide (none ∈ os)
  | [] => rfl
  | o :: os => by
    rw [List.map_cons, List.any_cons, any_optR os]
    cases o with
    | none =>
      have : PyData.eqv (optR none) .none = true := by simp [optR, PyData.eqv]
      rw [this, Bool.true_or, decide_eq_true List.mem_cons_self]
    | some l =>
      have : PyData.eqv (optR (some l)) .none = false := by simp [optR, tupD, PyData.eqv]
      rw [this, Bool.false_or]
      refine decide_eq_decide.mpr ⟨fun h => List.mem_cons_of_mem _ h, fun h => ?_⟩
      rcases List.mem_cons.mp h with h | h
      · cases h
      · exact h
theorem optAt_rows {K : PySem.W.Frag} {H : Hp} {acc : List V} {t : List (List Int)} (h : AllIn (OptAt K H) acc (t.map some)) : AllIn (RowAt K H) acc t := ⟨by rw [h.1, List.length_map], fun i v hv => by
  obtain ⟨x, h1, h2⟩ := h.2 i v hv
  rw [List.getElem?_map] at h1
  obtain ⟨l, h3, rfl⟩ := Option.map_eq_some_iff.mp h1
  rcases h2 with ⟨z, _⟩ | ⟨l', z, h4⟩
  · cases z
  · cases z
    exact ⟨l, h3, h4⟩⟩
theorem cut_from1 {acc : List V} (la : 1 ≤ acc.length) : cutV acc (some 1) none = acc.drop 1 := by
  unfold cutV
  show (acc.drop (HT.sIx acc.length 0 (some ((1 : Nat) : Int)))).take (acc.length - HT.sIx acc.length 0 (some ((1 : Nat) : Int))) = _
  rw [HT.sIx_nat, Nat.min_eq_left la, List.take_of_length_le (by rw [List.length_drop]; omega)]
theorem mrg {te : TE} {σ : L2.St} {H : Hp} {Q : VK} (R : V → Hp → Prop) (h : ∀ Q' : VK, (∀ x H1, R x H1 → Q' x H1) → te σ H Q') (key : ∀ x H1, R x H1 → Q x H1) : te σ H Q := h Q key
theorem par_mrg {i j : Nat} {t1 : TE} {t2 : TA} {B : TS} {E : Ends} {σ : L2.St} {H : Hp} (R : V → Hp → Prop) (h : ∀ Q' : VK, (∀ x H1, R x H1 → Q' x H1) → t1 σ H Q') (key : ∀ x H1, R x H1 → t2 σ H1 fun vs H2 => ∃ v w, x :: vs = [v, w] ∧ B E ((σ.set i (some v)).set j (some w)) H2) {r : VK} {b c : L2.St → Hp → Prop} : tNext { nx := tSeq (tPar i j (tCons t1 t2)) B E, rt := r, bk := b, ct := c } σ H := h _ key
theorem asg_mrg {te : TE} {g : TG} {B : TS} {E : Ends} {σ : L2.St} {H : Hp} (R : V → Hp → Prop) (h : ∀ Q' : VK, (∀ x H1, R x H1 → Q' x H1) → te σ H Q') (key : ∀ x H1, R x H1 → g x σ H1 (B E)) {r : VK} {b c : L2.St → Hp → Prop} : tNext { nx := tSeq (tAsg te g) B E, rt := r, bk := b, ct := c } σ H := h _ key
theorem asg_mrg2 {te : TE} {g : TG} {B : TS} {E : Ends} {σ : L2.St} {H : Hp} (R : V → Hp → Prop) (h : ∀ Q' : VK, (∀ x H1, R x H1 → Q' x H1) → te σ H Q') (key : ∀ x H1, R x H1 → g x σ H1 (B E)) : tSeq (tAsg te g) B E σ H := h _ key
end Law
namespace Law
open PySem L2 TL
section
variable {P : Program} {w : World} {K : PySem.W.Frag} {mg : Str → Option Value} {base : Heap}
def spRowL (K : PySem.W.Frag) : Sp := fun vs H Q _ => ∃ (x : Str), vs = [.str x] ∧ x.length ≤ 16000000 ∧ (∀ H', rowW x = none → Same H H' → Q .non H') ∧ (∀ l p H', rowW x = some l → Same H H' → SqT K H' p (l.map V.int) → Q (.ref p) H')
abbrev nWeightsOfLine : List Str := ["line", "word", "_", "rest"]
theorem scWeightsOfLine : FnScope nWeightsOfLine ["line"] (defScope s_weights_of_line) := ⟨rfl, rfl, rfl, by decide +kernel, rfl, by decide +kernel, by decide +kernel⟩
theorem ok_weights_of_line {f : Addr} {fd : FuncData} {fcNums : Addr} {fdcNums : FuncData} (F : Fun K "weights_of_line" "weights_of_line" s_weights_of_line f fd) (T : NmA mg) (cNums : Cl P w K mg base CX0 2 "numbers_of_text" fcNums fdcNums ["text"] (spNums K)) : FnOk P w K mg base CX0 3 f fd ["line"] (spRowL K) := by
  refine F.ok scWeightsOfLine (fun vs H Q E h => ?_) (fun cdv A' outer s H vs Q E hr h => ?_)
  · obtain ⟨x, rfl, _⟩ := h
    rfl
  · obtain ⟨x, rfl, xl, k1, k2⟩ := h
    have hu := hu_of hr
    refine ⟨_, pss_cons (ps_asg (pe_m1 PySem.F.slot_str_partition PySem.F.type_str_partition mt_partition (pv 0) pe_str) (pg_tup (by rfl) (pgs_cons (pg_name (i := 1) scWeightsOfLine.nd rfl (Or.inl rfl)) (pgs_cons (pg_name (i := 2) scWeightsOfLine.nd rfl (Or.inl rfl)) (pgs_cons (pg_name (i := 3) scWeightsOfLine.nd rfl (Or.inl rfl)) pgs_nil)))))
      (pss_one (ps_ret (pe_ifExp (pt_cmpR op_eq (pv 1) pe_str (nomark _)) (cNums.call (hr.mono (by decide)) (pa_cons (pv 3) pa_nil)) pe_non))), ?_⟩
    have z : x.length ≤ sizeLine := by rw [sizeLine_eq]; omega
    obtain ⟨l1, l2⟩ := part_len x (" " : Str) (by rw [one_sp]; simp)
    refine ⟨_, rfl, ⟨_, rfl⟩, x, _, rfl, rfl, by decide +kernel, z, fun p hp => ?_⟩
    refine new_step hp fun H1 s1 e1 => ?_
    refine ⟨p, _, rfl, SqT.of e1, rfl, _, _, rfl, _, _, rfl, _, _, rfl, rfl, ?_⟩
    unfold rowW at k1 k2
    rw [← sp_is] at k1 k2
    refine ⟨_, rfl, rfl, _, rfl, ?_⟩
    rw [dec_str]
    by_cases e : (Txt.partition x (" " : Str)).1 = ("weights" : Str)
    · rw [decide_eq_true e]
      rw [if_pos e] at k1 k2
      exact iteT ⟨_, rfl, _, rfl, by omega, fun H' h s => k1 H' h (s1.trans s), fun l p H' h s hp => k2 l p H' h (s1.trans s) hp⟩
    · rw [decide_eq_false e]
      rw [if_neg e] at k1
      exact iteF (k1 H1 rfl s1)
def spTieL (K : PySem.W.Frag) : Sp := fun vs H Q _ => ∃ (x : Str), vs = [.str x] ∧ x.length ≤ 16000000 ∧ (∀ H', tieO x = none → Same H H' → Q .non H') ∧ (∀ t v H', tieO x = some t → Same H H' → TieAt K H' v t → Q v H')
abbrev nTieOfLine : List Str := ["line", "before", "_", "behind", "word", "rest", "places", "table", "row"]
theorem scTieOfLine : FnScope nTieOfLine ["line"] (defScope s_tie_of_line) := ⟨rfl, rfl, rfl, by decide +kernel, rfl, by decide +kernel, by decide +kernel⟩
theorem ok_tie_of_line {f : Addr} {fd : FuncData} {fcNums : Addr} {fdcNums : FuncData} (F : Fun K "tie_of_line" "tie_of_line" s_tie_of_line f fd) (T : NmA mg) (cNums : Cl P w K mg base CX0 2 "numbers_of_text" fcNums fdcNums ["text"] (spNums K)) : FnOk P w K mg base CX0 3 f fd ["line"] (spTieL K) := by
  refine F.ok scTieOfLine (fun vs H Q E h => ?_) (fun cdv A' outer s H vs Q E hr h => ?_)
  · obtain ⟨x, rfl, _⟩ := h
    rfl
  · obtain ⟨x, rfl, xl, k1, k2⟩ := h
    have hu := hu_of hr
    refine ⟨_, pss_cons (ps_asg (pe_m1 PySem.F.slot_str_partition PySem.F.type_str_partition mt_partition (pv 0) pe_str) (pg_tup (by rfl) (pgs_cons (pg_name (i := 1) scTieOfLine.nd rfl (Or.inl rfl)) (pgs_cons (pg_name (i := 2) scTieOfLine.nd rfl (Or.inl rfl)) (pgs_cons (pg_name (i := 3) scTieOfLine.nd rfl (Or.inl rfl)) pgs_nil)))))
      (pss_cons (ps_asg (pe_m1 PySem.F.slot_str_partition PySem.F.type_str_partition mt_partition (pv 1) pe_str) (pg_tup (by rfl) (pgs_cons (pg_name (i := 4) scTieOfLine.nd rfl (Or.inl rfl)) (pgs_cons (pg_name (i := 2) scTieOfLine.nd rfl (Or.inl rfl)) (pgs_cons (pg_name (i := 5) scTieOfLine.nd rfl (Or.inl rfl)) pgs_nil)))))
      (pss_cons (ps_set (i := 6) scTieOfLine.nd rfl (Or.inl rfl) (cNums.call (hr.mono (by decide)) (pa_cons (pv 5) pa_nil)))
      (pss_cons (ps_set (i := 7) scTieOfLine.nd rfl (Or.inl rfl) (pe_callTy call_tuple_of (by rfl) T.tuple (by decide +kernel) (pa_cons (pe_lc (own := [("row", 8)]) (g := (gName 8)) (tt := tYes) rfl scTieOfLine.nd  (pi_list (pe_m1 PySem.F.slot_str_split PySem.F.type_str_split mt_split (pv 3) pe_str)) (blkOk_by (own := [("row", 8)]) (N := nTieOfLine) (sc := defScope s_tie_of_line) (by decide +kernel)) (fun _ _ _ _ _ => (pg_name (i := 8) scTieOfLine.nd rfl (Or.inl rfl))) (fun _ _ _ _ _ => pts_nil) (fun _ _ _ _ _ => (cNums.call (hr.mono (by decide)) (pa_cons (pv 8) pa_nil)))) pa_nil)))
      (pss_cons (ps_if (PW.pt (pw_or (pt_cmpR op_ne (pv 4) pe_str (nomark _)) (pw_or (pt_cmpR op_isN (pv 6) pe_non (nomark _)) (pw_or (pt_cmpR op_ne (pe_callB call_len_seq (by rfl) T.len PySem.boot_len (pa_cons (pv 6) pa_nil)) pe_int (nomark _)) (pw_or1 (pt_cmpR (op_inDT (units65 hr)) pe_non (pv 7) (by rfl)))))))
        (pss_one (ps_ret pe_non)) pss_nil)
      (pss_one (ps_ret (pe_op op_catA (pv 6) (pe_tup (pa_cons (pv 7) pa_nil))))))))), ?_⟩
    have z : x.length ≤ sizeLine := by rw [sizeLine_eq]; omega
    have hs : tl (": " : Str) = [58, 32] := by rw [cs_is] <;> rfl
    have ba_is : (" | " : Str) = bar := ext_tl (by decide +kernel)
    obtain ⟨l1, l2⟩ := part_len x (": " : Str) (by rw [hs]; simp)
    refine ⟨_, rfl, ⟨_, rfl⟩, x, _, rfl, rfl, by decide +kernel, z, fun p hp => ?_⟩
    refine new_step hp fun H1 s1 e1 => ?_
    refine ⟨p, _, rfl, SqT.of e1, rfl, _, _, rfl, _, _, rfl, _, _, rfl, rfl, ?_⟩
    unfold tieO at k1 k2
    rw [← cs_is] at k1 k2
    generalize Txt.partition x (": " : Str) = pt at l1 l2 e1 k1 k2 ⊢
    obtain ⟨m1, m2⟩ := part_len pt.1 (" " : Str) (by rw [one_sp]; simp)
    refine ⟨_, rfl, ⟨_, rfl⟩, pt.1, _, rfl, rfl, by decide +kernel, by omega, fun p2 hp2 => ?_⟩
    refine new_step hp2 fun H2 s2 e2 => ?_
    refine ⟨p2, _, rfl, SqT.of e2, rfl, _, _, rfl, _, _, rfl, _, _, rfl, rfl, ?_⟩
    rw [← sp_is] at k1 k2
    generalize Txt.partition pt.1 (" " : Str) = qt at m1 m2 e2 k1 k2 ⊢
    obtain ⟨wl, cl⟩ := splB_bound pt.2.2
    rw [← ba_is] at wl cl k1 k2
    have s12 := s1.trans s2
    refine asg_mrg (fun v H3 => Same H2 H3 ∧ OptAt K H3 v (numsO qt.2.2)) (fun Q' key => ?_) ?_
    · refine ⟨_, rfl, _, rfl, by omega, fun H3 h s => key _ _ ⟨s, .inl ⟨h, rfl⟩⟩, fun l p3 H3 h s hp3 => key _ _ ⟨s, .inr ⟨l, h, p3, rfl, hp3⟩⟩⟩
    rintro pl H3 ⟨s3, hpl⟩
    have s13 := s12.trans s3
    refine ⟨_, rfl, ⟨_, rfl⟩, pt.2.2, _, rfl, rfl, by decide +kernel, by rw [sizeLine_eq]; omega, fun q hq => ?_⟩
    refine new_step hq fun H4 s4 e4 => ?_
    generalize Txt.split pt.2.2 (" | " : Str) = ws at wl cl e4 k1 k2
    refine ⟨q, rfl, ⟨_, SqL.of e4⟩, fun D hD => ?_⟩
    refine lc_list (K := K) (a := q) (xs := ws.map V.str) (fun i H' => Same H4 H' ∧ ∃ acc, H' D = some (.lst acc) ∧ AllIn (OptAt K H') acc ((ws.take i).map numsO)) ⟨Same.new hD, [], upd_same, AllIn.nil⟩ (fun i H' _ g => SqL.of (g.1 _ _ e4)) (fun i y H5 hi g => ?_) fun H5 g => ?_
    · obtain ⟨s5, acc, g1, g2⟩ := g
      rw [List.getElem?_map] at hi
      obtain ⟨u, hu, rfl⟩ := Option.map_eq_some_iff.mp hi
      have il := (List.getElem?_eq_some_iff.mp hu).1
      have al : acc.length = i := by
        have z := g2.1
        rw [List.length_map, List.length_take] at z
        omega
      have put : ∀ (H6 : Hp) (v : V), Same H5 H6 → OptAt K H6 v (numsO u) → ∃ acc, H6 D = some (.lst acc) ∧ acc.length < sizeLine ∧ (Same H4 (upd H6 D (.lst (acc ++ [v]))) ∧ ∃ acc', (upd H6 D (.lst (acc ++ [v]))) D = some (.lst acc') ∧ AllIn (OptAt K (upd H6 D (.lst (acc ++ [v])))) acc' ((ws.take (i + 1)).map numsO)) := fun H6 v s6 hv => by
        have g6 := s6 _ _ g1
        refine ⟨acc, g6, by rw [al, sizeLine_eq]; omega, (s5.trans s6).mut hD, _, upd_same, ?_⟩
        rw [List.take_add_one, hu, List.map_append]
        exact AllIn.snoc (g2.mono fun _ _ h => (h.same s6).upd g6) (hv.upd g6)
      refine ⟨rfl, _, rfl, u, rfl, by have := wl u (List.mem_of_getElem? hu); omega, fun H6 h s => put H6 _ s (.inl ⟨h, rfl⟩), fun l p6 H6 h s hp6 => put H6 _ s (.inr ⟨l, h, p6, rfl, hp6⟩)⟩
    · obtain ⟨s5, acc, g1, g2⟩ := g
      rw [List.length_map, List.take_length] at g2
      have alen := g2.1
      rw [List.length_map] at alen
      refine ⟨D, _, rfl, .inl ⟨SqL.of g1, fun T hT => ?_⟩⟩
      refine new_step hT fun H6 s6 e6 => ?_
      have s36 := (s4.trans s5).trans s6
      have sA := s13.trans s36
      have g6 := g2.mono fun _ _ h => h.same s6
      generalize hos : ws.map numsO = os at g6 k1 k2
      refine ⟨_, rfl, rfl, _, rfl, ?_⟩
      rw [dec_str]
      by_cases c1 : qt.1 = ("tie" : Str)
      · rw [if_pos c1] at k1 k2
        rw [decide_eq_true c1]
        refine iteF ?_
        rcases hpl with ⟨h0, rfl⟩ | ⟨l, h0, p3, rfl, hp3⟩
        · refine ⟨_, rfl, rfl, _, rfl, iteT ?_⟩
          rw [h0] at k1
          exact k1 _ rfl sA
        · refine ⟨_, rfl, rfl, _, rfl, iteF ?_⟩
          rw [h0] at k1 k2
          have hp6 := s36.sqT hp3
          refine ⟨_, rfl, p3, _, rfl, .inr hp6, rfl, _, rfl, ?_⟩
          rw [List.length_map]
          by_cases c2 : l.length = 2
          · obtain ⟨i, j, rfl⟩ : ∃ i j, l = [i, j] := by
              match l, c2 with
              | [i, j], _ => exact ⟨i, j, rfl⟩
            rw [decide_eq_true (show V.int (([i, j].length : Nat) : Int) = V.int 2 from rfl)]
            refine iteF ⟨_, rfl, .none, os.map optR, .non, .tup (SqT.of e6) (dp_all (g := optR) (fun _ _ => dp_optR) g6), by decide +kernel, shaped_optT os, _, rfl, ?_⟩
            rw [any_optR]
            cases h : allO os with
            | none =>
              rw [decide_eq_true (allO_none.mp h)]
              rw [h] at k1
              exact iteT (k1 _ rfl sA)
            | some t =>
              rw [decide_eq_false fun m => by rw [allO_none.mpr m] at h; cases h]
              rw [h] at k2
              rw [allO_some h] at g6
              refine iteF ⟨_, rfl, _, rfl, by show 1 ≤ sizeLine; decide, fun t1 ht1 => ?_⟩
              refine new_step ht1 fun H7 s7 e7 => ?_
              refine ⟨p3, t1, _, _, rfl, rfl, s7.sqT hp6, SqT.of e7, by show 3 ≤ sizeLine; decide, fun z => absurd z (by simp), fun _ z => absurd z (by simp), fun _ _ r hr2 => ?_⟩
              refine new_step hr2 fun H8 s8 e8 => ?_
              exact k2 ((i, j), t) _ H8 rfl ((sA.trans s7).trans s8) ⟨r, T, rfl, SqT.of e8, acc, (s7.trans s8).sqT (SqT.of e6), (optAt_rows g6).mono fun _ _ h => h.same (s7.trans s8)⟩
          · rw [decide_eq_false (show ¬ V.int ((l.length : Nat) : Int) = V.int 2 from fun z => c2 (by have := V.int.inj z; omega))]
            refine iteT (k1 _ ?_ sA)
            match l, c2 with
            | [], _ => rfl
            | [a], _ => rfl
            | [a, b], c2 => exact absurd rfl c2
            | a :: b :: c :: r, _ => rfl
      · rw [if_neg c1] at k1
        rw [decide_eq_false c1]
        exact iteT (k1 _ rfl sA)
def spTell (K : PySem.W.Frag) : Sp := fun vs H Q _ => ∃ (x : Str) (L : Addr) (acc : List V) (m : Int), vs = [.str x, .ref L] ∧ x.length ≤ 16000000 ∧ SqL K H L acc ∧ (0 < acc.length → acc[0]? = some (.int m)) ∧ (∀ H', prtO acc.length m x = none → Same H H' → Q .non H') ∧ (∀ q v H', prtO acc.length m x = some q → Same H H' → PrtAt K H' v q → Q v H')
abbrev nToldByLine : List Str := ["line", "told"]
theorem scToldByLine : FnScope nToldByLine ["line", "told"] (defScope s_told_by_line) := ⟨rfl, rfl, rfl, by decide +kernel, rfl, by decide +kernel, by decide +kernel⟩
theorem ok_told_by_line {f : Addr} {fd : FuncData} {fcHeadB : Addr} {fdcHeadB : FuncData} {fcRowL : Addr} {fdcRowL : FuncData} {fcTieL : Addr} {fdcTieL : FuncData} (F : Fun K "told_by_line" "told_by_line" s_told_by_line f fd) (T : NmA mg) (cHeadB : Cl P w K mg base CX0 2 "number_behind" fcHeadB fdcHeadB ["word", "line"] spHeadB) (cRowL : Cl P w K mg base CX0 3 "weights_of_line" fcRowL fdcRowL ["line"] (spRowL K)) (cTieL : Cl P w K mg base CX0 3 "tie_of_line" fcTieL fdcTieL ["line"] (spTieL K)) : FnOk P w K mg base CX0 4 f fd ["line", "told"] (spTell K) := by
  refine F.ok scToldByLine (fun vs H Q E h => ?_) (fun cdv A' outer s H vs Q E hr h => ?_)
  · obtain ⟨x, L, acc, m, rfl, _⟩ := h
    rfl
  · obtain ⟨x, L, acc, m, rfl, xl, hL, h0, k1, k2⟩ := h
    have hu := hu_of hr
    refine ⟨_, pss_cons (ps_if (pt_cmpR op_eq (pe_callB call_len_seq (by rfl) T.len PySem.boot_len (pa_cons (pv 1) pa_nil)) pe_int (nomark _))
        (pss_one (ps_ret (cHeadB.call (hr.mono (by decide)) (pa_cons pe_str (pa_cons (pv 0) pa_nil))))) pss_nil)
      (pss_cons (ps_if (pt_cmpR op_eq (pe_callB call_len_seq (by rfl) T.len PySem.boot_len (pa_cons (pv 1) pa_nil)) pe_int (nomark _))
        (pss_one (ps_ret (cHeadB.call (hr.mono (by decide)) (pa_cons pe_str (pa_cons (pv 0) pa_nil))))) pss_nil)
      (pss_one (ps_ret (pe_ifExp (pt_cmpR op_lt (pe_callB call_len_seq (by rfl) T.len PySem.boot_len (pa_cons (pv 1) pa_nil)) (pe_op op_add (pe_ix ix_list (pv 1) pe_int (fun _ _ => rfl)) pe_int) (nomark _)) (cRowL.call (hr.mono (by decide)) (pa_cons (pv 0) pa_nil)) (cTieL.call (hr.mono (by decide)) (pa_cons (pv 0) pa_nil)))))), ?_⟩
    have nn : ∀ (o : Option Int) (H' : Hp), Same H H' → (o = none → prtO acc.length m x = none) → (∀ i, o = some i → prtO acc.length m x = some (.num i)) → Q (optV o) H' := fun o H' s n1 n2 => by
      cases o with
      | none => exact k1 H' (n1 rfl) s
      | some i => exact k2 (.num i) _ H' (n2 i rfl) s rfl
    refine ⟨_, rfl, L, _, rfl, .inl hL, rfl, _, rfl, ?_⟩
    match acc, hL, h0, k1, k2, nn with
    | [], hL, h0, k1, k2, nn =>
      exact iteT ⟨_, rfl, _, x, rfl, xl, fun H' s => nn _ _ s (fun h => show prtO 0 m x = none by rw [prtO_0, h] <;> rfl) (fun i h => show prtO 0 m x = some (.num i) by rw [prtO_0, h] <;> rfl)⟩
    | [a], hL, h0, k1, k2, nn =>
      refine iteF ⟨_, rfl, L, _, rfl, .inl hL, rfl, _, rfl, iteT ⟨_, rfl, _, x, rfl, xl, fun H' s => nn _ _ s (fun h => ?_) (fun i h => ?_)⟩⟩
      · show prtO 1 m x = none
        rw [prtO_1, h] <;> rfl
      · show prtO 1 m x = some (.num i)
        rw [prtO_1, h] <;> rfl
    | a :: b :: r, hL, h0, k1, k2, nn =>
      have ne1 : ¬ V.int (((a :: b :: r).length : Nat) : Int) = V.int 0 := fun z => by have := V.int.inj z; simp at this; omega
      have ne2 : ¬ V.int (((a :: b :: r).length : Nat) : Int) = V.int 1 := fun z => by have := V.int.inj z; simp at this; omega
      rw [decide_eq_false ne1]
      refine iteF ⟨_, rfl, L, _, rfl, .inl hL, rfl, _, rfl, ?_⟩
      rw [decide_eq_false ne2]
      have am := h0 (by simp)
      have pe : prtO (a :: b :: r).length m x = if (((a :: b :: r).length : Nat) : Int) < m + 2 then (rowW x).map .row else (tieO x).map .tie := by
        unfold prtO
        rw [if_neg (by simp), if_neg (by simp)]
      refine iteF ⟨_, rfl, L, _, rfl, .inl hL, _, rfl, L, _, 0, .int m, rfl, rfl, hL, atI_nat (j := 0) am, _, _, rfl, rfl, _, _, rfl, rfl, _, rfl, ?_⟩
      by_cases c : (((a :: b :: r).length : Nat) : Int) < m + 2
      · rw [decide_eq_true c]
        rw [if_pos c] at pe
        refine iteT ⟨_, rfl, x, rfl, xl, fun H' h s => k1 H' (by rw [pe, h] <;> rfl) s, fun l p H' h s hp => k2 (.row l) _ H' (by rw [pe, h] <;> rfl) s ⟨p, rfl, hp⟩⟩
      · rw [decide_eq_false c]
        rw [if_neg c] at pe
        exact iteF ⟨_, rfl, x, rfl, xl, fun H' h s => k1 H' (by rw [pe, h] <;> rfl) s, fun t v H' h s hv => k2 (.tie t) v H' (by rw [pe, h] <;> rfl) s hv⟩
end
end Law

namespace L2
open PySem PySem.Spec PyProof.Rows PySem.Builtin PySem.Builtin.Str
theorem rep_len (a : Array Nat) : ∀ (n : Nat) (b : Array Nat), ((List.replicate n a).foldl (· ++ ·) b).size = b.size + n * a.size
  | 0, b => by simp
  | n + 1, b => by
    rw [List.replicate_succ, List.foldl_cons, rep_len a n, Array.size_append, Nat.add_mul]
    omega
/-- a text, some times -/
def rRepS : R2 := fun x y H Q => ∃ (z : Str) (n : Int), x = .str z ∧ y = .int n ∧ 2 ≤ n ∧ n ≤ 1000 ∧ 1 ≤ z.length ∧ z.length ≤ 1000 ∧ ∀ z' : Str, z'.length = z.length * n.toNat → Q (.str z') H
theorem op_repS {X : Cx} : OpR X (binaryOp .Mult) rRepS := by
  intro pins s σ H x y v u Q I rx ry h
  obtain ⟨z, n, rfl, rfl, n2, n3, l1, l2, q⟩ := h
  obtain ⟨t, rfl⟩ := rx
  obtain ⟨t', rfl⟩ := ry
  have hn : z.length * n.toNat ≤ 1000 * 1000 := Nat.mul_le_mul l2 (by omega)
  have c2 : (n == 1 || z.length == 0) = false := by
    rw [beq_eq_false_iff_ne.mpr (show n ≠ 1 by omega), beq_eq_false_iff_ne.mpr (show z.length ≠ 0 by omega)] <;> rfl
  have sz : ((List.replicate n.toNat z.cps).foldl (· ++ ·) #[]).size = z.length * n.toNat := by
    rw [rep_len, Nat.mul_comm]
    show 0 + _ = _
    rw [Nat.zero_add] <;> rfl
  refine PySem.P.mul_str ?_ (fun _ _ => ?_) (fun _ _ => ?_) ?_
  · rw [decide_eq_false (by omega), decide_eq_false (by omega)] <;> rfl
  · have h1 : (1000 : Int) ≤ (2 ^ 63 - 1) / n := by
      refine Int.le_ediv_of_mul_le (by omega) ?_
      omega
    omega
  · unfold tooLong
    refine decide_eq_false ?_
    rw [sizeLine_eq]
    omega
  · rw [if_neg (by omega), c2, if_neg Bool.false_ne_true]
    refine ⟨?_, ?_⟩
    · show ((List.replicate n.toNat z.cps).foldl (· ++ ·) #[]).size ≤ sizeLine
      rw [sz, sizeLine_eq]
      omega
    · exact ⟨.str _, H, I.tok _, ⟨_, rfl⟩, q _ sz⟩
end L2
namespace L2
open PySem PySem.Spec PyProof.Rows TL
theorem cut_toV {xs : List V} {n : Nat} (h : n ≤ xs.length) : cutV xs none (some (n : Int)) = xs.take n := by
  unfold cutV
  show (xs.drop 0).take (HT.sIx xs.length xs.length (some (n : Int)) - 0) = _
  rw [HT.sIx_nat, Nat.min_eq_left h, Nat.sub_zero, List.drop_zero]
theorem cut_fromV {xs : List V} {n : Nat} (h : n ≤ xs.length) : cutV xs (some (n : Int)) none = xs.drop n := by
  unfold cutV
  show (xs.drop (HT.sIx xs.length 0 (some (n : Int)))).take (xs.length - HT.sIx xs.length 0 (some (n : Int))) = _
  rw [HT.sIx_nat, Nat.min_eq_left h, List.take_of_length_le (by rw [List.length_drop]; omega)]
theorem AllIn.map {α β : Type} {R : V → α → Prop} {R' : V → β → Prop} {vs : List V} {l : List α} {f : α → β} (h : AllIn R vs l) (g : ∀ (i : Nat) (v : V) (x : α), l[i]? = some x → R v x → R' v (f x)) : AllIn R' vs (l.map f) := ⟨by rw [h.1, List.length_map], fun i v hv => by
  obtain ⟨x, h1, h2⟩ := h.2 i v hv
  exact ⟨f x, by rw [List.getElem?_map, h1] <;> rfl, g i v x h1 h2⟩⟩
theorem prts_at {body : List Str} {j : Nat} {x : Str} (h : body[j]? = some x) : (prts body)[j]? = some (prtO j (many0 body) x) := by
  unfold prts
  rw [List.getElem?_mapIdx, h] <;> rfl
theorem prts_len (body : List Str) : (prts body).length = body.length := by unfold prts; rw [List.length_mapIdx]
/-- the first j lines are read: what stands in them -/
theorem prts_get {body : List Str} {qs : List Prt} {n : Nat} (h : (prts body).take n = qs.map some) {j : Nat} {q : Prt} (hq : qs[j]? = some q) : ∃ x, body[j]? = some x ∧ prtO j (many0 body) x = some q := by
  have e : ((prts body).take n)[j]? = some (some q) := by rw [h, List.getElem?_map, hq] <;> rfl
  rw [List.getElem?_take] at e
  split at e
  · have jl := (List.getElem?_eq_some_iff.mp e).1
    rw [prts_len] at jl
    have e2 := prts_at (List.getElem?_eq_getElem jl)
    rw [e] at e2
    exact ⟨_, List.getElem?_eq_getElem jl, (Option.some.inj e2).symm⟩
  · cases e
theorem prt_0 {body : List Str} {x : Str} {q : Prt} (hx : body[0]? = some x) (h : prtO 0 (many0 body) x = some q) : q = .num (many0 body) ∧ 0 ≤ many0 body ∧ many0 body < 10 ^ 12 := by
  rw [prtO_0] at h
  obtain ⟨i, h1, rfl⟩ := Option.map_eq_some_iff.mp h
  cases body with
  | nil => cases hx
  | cons a r =>
    cases hx
    have e : many0 (x :: r) = i := by show (headW "places" x).getD 0 = i; rw [h1] <;> rfl
    rw [e]
    exact ⟨rfl, (head_is n_places h1).2⟩
theorem prt_1 {m : Int} {x : Str} {q : Prt} (h : prtO 1 m x = some q) : ∃ i, q = .num i ∧ headW "levels" x = some i := by
  rw [prtO_1] at h
  obtain ⟨i, h1, rfl⟩ := Option.map_eq_some_iff.mp h
  exact ⟨i, rfl, h1⟩
theorem prt_row {m : Int} {j : Nat} {x : Str} {q : Prt} (h2 : 2 ≤ j) (hj : (j : Int) < m + 2) (h : prtO j m x = some q) : ∃ l, q = .row l ∧ rowW x = some l := by
  unfold prtO at h
  rw [if_neg (by omega), if_neg (by omega), if_pos hj] at h
  obtain ⟨l, h1, rfl⟩ := Option.map_eq_some_iff.mp h
  exact ⟨l, rfl, h1⟩
theorem prt_tie {m : Int} {j : Nat} {x : Str} {q : Prt} (h2 : 2 ≤ j) (hj : ¬ (j : Int) < m + 2) (h : prtO j m x = some q) : ∃ t, q = .tie t ∧ tieO x = some t := by
  unfold prtO at h
  rw [if_neg (by omega), if_neg (by omega), if_neg hj] at h
  obtain ⟨l, h1, rfl⟩ := Option.map_eq_some_iff.mp h
  exact ⟨l, rfl, h1⟩
theorem rowW_len {x : Str} {l : List Int} (h : rowW x = some l) : l.length ≤ x.length + 1 ∧ l ≠ [] ∧ ∀ i ∈ l, 0 ≤ i ∧ i < 10 ^ 12 := by
  obtain ⟨h1, h2, h3⟩ := row_is h
  refine ⟨?_, h2, h3⟩
  unfold rowW at h
  split at h
  · have := (nums_ok h).2
    have pl := (part_len x (⟨#[32]⟩ : Str) (by simp [tl])).2
    have sb := (Law.spl_bound (Txt.partition x (⟨#[32]⟩ : Str)).2.2).2
    omega
  · cases h
theorem tieO_len {x : Str} {t : Tie} (h : tieO x = some t) : TieSm t ∧ t.2.length ≤ x.length + 1 ∧ ∀ l ∈ t.2, l.length ≤ x.length + 1 := by
  refine ⟨(tie_is h).2, ?_⟩
  unfold tieO at h
  have pl := (part_len x cs (by simp [tl])).2
  split at h
  · cases ha : allO ((Txt.split (Txt.partition x cs).2.2 bar).map numsO) with
    | none => rw [ha, two_none] at h; cases h
    | some rows =>
      rw [ha] at h
      have e : t.2 = rows := by
        unfold two at h
        split at h
        · cases h
          rename_i e1 e2
          cases e2
          rfl
        · cases h
      have z := allO_some ha
      obtain ⟨sb1, sb2⟩ := splB_bound (Txt.partition x cs).2.2
      generalize Txt.split (Txt.partition x cs).2.2 bar = ws at z sb1 sb2
      have zl := congrArg List.length z
      rw [List.length_map, List.length_map] at zl
      rw [e]
      refine ⟨by omega, fun l hl => ?_⟩
      have : some l ∈ rows.map some := List.mem_map.mpr ⟨l, hl, rfl⟩
      rw [← z] at this
      obtain ⟨u, hu, hu2⟩ := List.mem_map.mp this
      have := (nums_ok hu2).2
      have sb := (Law.spl_bound u).2
      have := sb1 u hu
      omega
  · cases h
theorem fm_somes {α : Type} : ∀ l : List α, (l.map some).filterMap id = l
  | [] => rfl
  | x :: l => by show x :: (l.map some).filterMap id = x :: l; rw [fm_somes l]
theorem spl10_bound (x : Str) : (∀ u ∈ Txt.split x (⟨#[10]⟩ : Str), u.length ≤ x.length) ∧ (Txt.split x (⟨#[10]⟩ : Str)).length ≤ x.length + 1 := by
  have hy : tl (⟨#[10]⟩ : Str) = [10] := rfl
  have e := split_spl x (⟨#[10]⟩ : Str) (by rw [hy]; simp) (kind_ok (by simp))
  rw [hy] at e
  have j : joinL [10] (spl [10] 0 [] (tl x)) = tl x := by rw [join_spl, List.nil_append]
  refine ⟨fun u hu => ?_, ?_⟩
  · have m : tl u ∈ spl [10] 0 [] (tl x) := by rw [← e]; exact List.mem_map.mpr ⟨u, hu, rfl⟩
    have := mem_joinL 10 m
    rw [j, ← len_tl, ← len_tl] at this
    exact this
  · have z := cnt_joinL 10 (spl [10] 0 [] (tl x))
    rw [j, ← len_tl, ← e, List.length_map] at z
    exact z
end L2
namespace Law
open PySem L2 TL
section
variable {P : Program} {w : World} {K : PySem.W.Frag} {mg : Str → Option Value} {base : Heap}
def spReadM (K : PySem.W.Frag) (C BM BL : Addr) : Sp := fun vs H Q E => ∃ v, vs = [v] ∧ ((∃ t : Str, v = .str t ∧ t.length ≤ 1000000 ∧
    (∀ n d H', readM (Txt.split t ⟨#[10]⟩) = .line n → Same H H' → H d = none → H' d = some (.xd [("number", .int (n : Int))]) → E (.ref BL) (some d) H') ∧
    (∀ pt d H', readM (Txt.split t ⟨#[10]⟩) = .part pt → Same H H' → H d = none → H' d = some (.xd [("part", partV pt)]) → E (.ref BM) (some d) H') ∧
    (∀ m q H', readM (Txt.split t ⟨#[10]⟩) = .told m → Same H H' → H q = none → ModAt K C H' q m → Q (.ref q) H')) ∨
  (∃ ty, TyX K H v ty ∧ PySem.W.kitOne K ty (.type "str") = some false ∧ ∀ d H', Same H H' → H d = none → H' d = some (.xd [("number", .int 0)]) → E (.ref BL) (some d) H'))
abbrev nReadModel : List Str := ["text", "lines", "rest", "told", "number", "line", "part", "many", "levels", "rows"]
theorem scReadModel : FnScope nReadModel ["text"] (defScope s_read_model) := ⟨rfl, rfl, rfl, by decide +kernel, rfl, by decide +kernel, by decide +kernel⟩
theorem ok_read_model {f : Addr} {fd : FuncData} {fcTell : Addr} {fdcTell : FuncData} {C BM BL fgS : Addr} {fdgS : FuncData} (F : Fun K "read_model" "read_model" s_read_model f fd) (T : NmA mg) (cTell : Cl P w K mg base CX0 4 "told_by_line" fcTell fdcTell ["line", "told"] (spTell K)) (S : ModT K mg C) (eBL : Er1 P w K mg base "BadLine" BL "number") (MgS : Mk K C fgS) (GgS : FnOk P w K mg base (L2.CX P w) 6 fgS fdgS ["self", "many", "levels", "weights", "ties"] (spMInit K C BM)) (BgS : Binds K fdgS ["self", "many", "levels", "weights", "ties"] []) : FnOk P w K mg base (L2.CX P w) 8 f fd ["text"] (spReadM K C BM BL) := by
  refine F.okX scReadModel (fun vs H Q E h => ?_) (fun cdv A' outer s H vs Q E hr h => ?_)
  · obtain ⟨v, rfl, _⟩ := h
    rfl
  · obtain ⟨v, rfl, h⟩ := h
    have hu := hu_of hr
    refine ⟨_, pss_cons (ps_if (pt_not (pt_val (pe_callB call_isi (by rfl) T.isi (by decide +kernel) (pa_cons (pv 0) (pa_cons (pe_bltn (v := .ty "str") (u := .type "str") (by rfl) T.str (by decide +kernel) rfl) pa_nil)))))
        (pss_one (ps_raise rfl (takes_of rfl rfl rfl rfl) (eBL.pmk (hr.mono (by decide)) (pa_cons pe_int pa_nil)))) pss_nil)
      (pss_cons (ps_set (i := 1) scReadModel.nd rfl (Or.inl rfl) (pe_m1 PySem.F.slot_str_split PySem.F.type_str_split mt_split (pv 0) pe_str))
      (pss_cons (ps_set (i := 2) scReadModel.nd rfl (Or.inl rfl) (pe_bm0 PySem.F.plainAttrs_list PySem.F.slot_list_pop PySem.F.type_list_pop mt_pop (pv 1)))
      (pss_cons (ps_set (i := 3) scReadModel.nd rfl (Or.inl rfl) (pe_lst pa_nil))
      (pss_cons (ps_for (passes_of rfl) rfl (pi_enum (by rfl) T.enum (pa_cons (pv 1) pa_nil)) (pg_tup (by rfl) (pgs_cons (pg_name (i := 4) scReadModel.nd rfl (Or.inl rfl)) (pgs_cons (pg_name (i := 5) scReadModel.nd rfl (Or.inl rfl)) pgs_nil)))
        (pss_cons (ps_set (i := 6) scReadModel.nd rfl (Or.inl rfl) (cTell.call (hr.mono (by decide)) (pa_cons (pv 5) (pa_cons (pv 3) pa_nil))))
        (pss_cons (ps_if (pt_cmpR op_isN (pv 6) pe_non (nomark _))
          (pss_one (ps_raise rfl (takes_of rfl rfl rfl rfl) (eBL.pmk (hr.mono (by decide)) (pa_cons (pe_op op_add (pv 4) pe_int) pa_nil)))) pss_nil)
        (pss_one (ps_expr (pe_bm PySem.F.plainAttrs_list PySem.F.slot_list_append PySem.F.type_list_append mt_append (pv 3) (pa_cons (pv 6) pa_nil)))))))
      (pss_cons (ps_if (PW.pt (pw_or (pt_cmpR op_ne (pv 2) pe_str (nomark _)) (pw_or (pt_cmpR (op_eqL0 hr.units) (pv 3) (pe_lst pa_nil) (nomark _)) (pw_or1 (pt_cmpR op_lt (pe_callB call_len_seq (by rfl) T.len PySem.boot_len (pa_cons (pv 3) pa_nil)) (pe_op op_add (pe_ix ix_list (pv 3) pe_int (fun _ _ => rfl)) pe_int) (nomark _))))))
        (pss_one (ps_raise rfl (takes_of rfl rfl rfl rfl) (eBL.pmk (hr.mono (by decide)) (pa_cons (pe_op op_add (pe_callB call_len_seq (by rfl) T.len PySem.boot_len (pa_cons (pv 3) pa_nil)) pe_int) pa_nil)))) pss_nil)
      (pss_cons (ps_asg (pv 3) (pg_star (by rfl) (pgs_cons (pg_name (i := 7) scReadModel.nd rfl (Or.inl rfl)) (pgs_cons (pg_name (i := 8) scReadModel.nd rfl (Or.inl rfl)) (pgs_star (pg_name (i := 9) scReadModel.nd rfl (Or.inl rfl)) pgs_nil)))))
      (pss_one (ps_ret (pe_make MgS GgS (hr.mono (by decide)) (by rfl) S.mgC BgS .nil (passes_call (takes_of rfl rfl rfl rfl) (fun _ _ _ _ h => h)) (pa_cons (pv 7) (pa_cons (pv 8) (pa_cons (pe_callTy call_tuple_of (by rfl) T.tuple (by decide +kernel) (pa_cons (pe_slice sl_list (pv 9) po_none (po_some (pv 7))) pa_nil)) (pa_cons (pe_callTy call_tuple_of (by rfl) T.tuple (by decide +kernel) (pa_cons (pe_slice sl_list (pv 9) (po_some (pv 7)) po_none) pa_nil)) pa_nil))))))))))))), ?_⟩
    rcases h with ⟨t, rfl, tl6, kL, kP, kT⟩ | ⟨ty, t1, t2, kE⟩
    · have tz : t.length ≤ sizeLine := by rw [sizeLine_eq]; omega
      have kb : PySem.W.kitOne K (.type "str") (.type "str") = some true := kit_ty (by decide +kernel)
      refine ⟨_, rfl, _, _, _, _, _, rfl, .ty "str", .base (.str t), kb, _, rfl, iteF ?_⟩
      obtain ⟨wl, cl⟩ := spl10_bound t
      have ne0 := split_ne (x := t) (c := 10) (by decide)
      rw [← nl_is] at wl cl ne0 kL kP kT
      refine ⟨_, rfl, ⟨_, rfl⟩, t, _, rfl, rfl, by decide +kernel, by rw [sizeLine_eq]; omega, fun L hL => ?_⟩
      refine new_step hL fun H1 s1 e1 => ?_
      generalize Txt.split t ("\n" : Str) = ls at wl cl ne0 e1 kL kP kT
      obtain ⟨body, rest, rfl⟩ : ∃ b r, ls = b ++ [r] := ⟨ls.dropLast, ls.getLast ne0, (List.dropLast_concat_getLast ne0).symm⟩
      rw [readM_by] at kL kP kT
      have bl : body.length ≤ t.length := by rw [List.length_append] at cl; exact Nat.le_of_succ_le_succ cl
      have wb : ∀ u ∈ body, u.length ≤ t.length := fun u hu => wl u (List.mem_append_left _ hu)
      refine ⟨_, rfl, .inl ⟨rfl, _, SqL.of e1⟩, L, _, .str rest, rfl, rfl, e1, ?_, ?_⟩
      · show ((body ++ [rest]).map V.str)[((body ++ [rest]).map V.str).length - 1]? = some (V.str rest)
        rw [List.length_map, List.length_append, List.getElem?_map, List.getElem?_append_right (by simp)]
        simp
      have dl : ((body ++ [rest]).map V.str).dropLast = body.map V.str := by rw [List.map_append, List.map_cons, List.map_nil, List.dropLast_concat]
      rw [dl]
      have s2 : Same H (upd H1 L (.lst (body.map V.str))) := s1.mut hL
      have e2 : (upd H1 L (.lst (body.map V.str))) L = some (.lst (body.map V.str)) := upd_same
      generalize upd H1 L (.lst (body.map V.str)) = H2 at s2 e2 ⊢
      refine ⟨by show 0 ≤ sizeLine; decide, fun D hD => ?_⟩
      refine new_step hD fun H3 s3 e3 => ?_
      have hD1 : H D = none := s2.free hD
      have s13 := s2.trans s3
      have LD : L ≠ D := ne_of_none e2 hD
      have e23 := s3 _ _ e2
      refine ⟨_, rfl, L, _, rfl, SqL.of e23, for_it walk_enum (fun i σ H' => Same H H' ∧ H' L = some (.lst (body.map V.str)) ∧ (∃ (acc : List V) (qs : List Prt), H' D = some (.lst acc) ∧ AllIn (PrtAt K H') acc qs ∧ (prts body).take i = qs.map some) ∧ ∃ u1 u2 u3 : Option V, σ = [some (.str t), some (.ref L), some (.str rest), some (.ref D), u1, u2, u3, none, none, none]) ⟨s13, e23, ⟨[], [], e3, AllIn.nil, rfl⟩, _, _, _, rfl⟩ (fun i σ H' _ g => SqL.of g.2.1) ?_ ?_⟩
      · rintro i y σ H4 H5 hi ⟨s4, gL, ⟨acc, qs, g1, g2, g3⟩, u1, u2, u3, rfl⟩ ⟨q, a, b, rfl, hq, rfl, ha, hb⟩
        have ha := Option.some.inj ha
        subst ha
        change (body.map V.str)[i]? = some b at hb
        rw [List.getElem?_map] at hb
        obtain ⟨x, hx, rfl⟩ := Option.map_eq_some_iff.mp hb
        have xl := wb x (List.mem_of_getElem? hx)
        have il := (List.getElem?_eq_some_iff.mp hx).1
        refine ⟨q, _, rfl, SqT.of upd_same, rfl, _, _, rfl, _, _, rfl, rfl, ?_⟩
        refine new_step hq fun H6 s6 _ => ?_
        have ql : qs.length = i := by
          have z := congrArg List.length g3
          rw [List.length_map, List.length_take, prts_len] at z
          omega
        have al : acc.length = i := g2.1.trans ql
        have g16 := s6 _ _ g1
        have px := prts_at hx
        have h0 : 0 < acc.length → acc[0]? = some (.int (many0 body)) := fun hp => by
          obtain ⟨q, h1, h2⟩ := g2.2 0 acc[0] (List.getElem?_eq_getElem hp)
          obtain ⟨x0, h3, h4⟩ := prts_get g3 h1
          obtain ⟨h5, _⟩ := prt_0 h3 h4
          rw [h5] at h2
          rw [List.getElem?_eq_getElem hp, show acc[0] = V.int (many0 body) from h2]
        refine ⟨_, rfl, _, rfl, x, D, acc, many0 body, rfl, by omega, SqL.of g16, h0, fun H7 hn s7 => ?_, fun pq v H7 hn s7 hv => ?_⟩
        · rw [al] at hn
          rw [hn] at px
          have fn : firstNo (prts body) = some i := firstNo_of px fun j hj => by
            have jq : j < qs.length := by omega
            have e : ((prts body).take i)[j]? = some (some qs[j]) := by rw [g3, List.getElem?_map, List.getElem?_eq_getElem jq] <;> rfl
            rw [List.getElem?_take, if_pos hj] at e
            exact ⟨_, e⟩
          have eL : endM body rest = .line (i + 1) := by unfold endM; rw [fn]
          refine ⟨_, rfl, rfl, _, rfl, iteT ⟨_, rfl, _, _, rfl, rfl, ?_⟩⟩
          exact rz ((s4.trans s6).trans s7) fun d H' s hd hx => kL (i + 1) d H' eL s hd (by rw [hx, Int.natCast_add] <;> rfl)
        · rw [al] at hn
          rw [hn] at px
          have g17 := s7 _ _ g16
          have form : (∃ i, v = .int i) ∨ ∃ a, v = .ref a := by
            cases pq with
            | num i => exact .inl ⟨i, hv⟩
            | row l => obtain ⟨a, h, _⟩ := hv; exact .inr ⟨a, h⟩
            | tie t => obtain ⟨a, b, h, _⟩ := hv; exact .inr ⟨a, h⟩
          have put1 : Same H (upd H7 D (.lst (acc ++ [v]))) := ((s4.trans s6).trans s7).mut hD1
          have put2 : (upd H7 D (.lst (acc ++ [v]))) L = some (.lst (body.map V.str)) := by
            rw [upd_ne LD]
            exact s7 _ _ (s6 _ _ gL)
          have put3 : AllIn (PrtAt K (upd H7 D (.lst (acc ++ [v])))) (acc ++ [v]) (qs ++ [pq]) := AllIn.snoc (g2.mono fun _ _ h => ((h.same s6).same s7).upd g17) (hv.upd g17)
          have put4 : (prts body).take (i + 1) = (qs ++ [pq]).map some := by rw [List.take_add_one, px, g3, List.map_append] <;> rfl
          have al2 : acc.length < sizeLine := by rw [al, sizeLine_eq]; omega
          rcases form with ⟨i', rfl⟩ | ⟨a', rfl⟩
          · exact ⟨_, rfl, rfl, _, rfl, iteF ⟨_, rfl, .inl ⟨rfl, _, SqL.of g17⟩, _, rfl, D, acc, _, rfl, rfl, g17, al2, put1, put2, ⟨_, _, upd_same, put3, put4⟩, _, _, _, rfl⟩⟩
          · exact ⟨_, rfl, rfl, _, rfl, iteF ⟨_, rfl, .inl ⟨rfl, _, SqL.of g17⟩, _, rfl, D, acc, _, rfl, rfl, g17, al2, put1, put2, ⟨_, _, upd_same, put3, put4⟩, _, _, _, rfl⟩⟩
      · rintro σ H4 ⟨s4, gL, ⟨acc, qs, g1, g2, g3⟩, u1, u2, u3, rfl⟩
        rw [List.length_map] at g3
        have g3' : prts body = qs.map some := by rw [← g3, ← prts_len body, List.take_length]
        have ql : qs.length = body.length := by rw [← prts_len body, g3', List.length_map]
        have al : acc.length = body.length := g2.1.trans ql
        have eE : endM body rest = if rest = Str.empty ∧ body ≠ [] ∧ ¬ ((body.length : Int) < many0 body + 2) then madeM (mdlOf qs) else .line (body.length + 1) := by
          unfold endM
          rw [g3', firstNo_somes, fm_somes] <;> rfl
        have bad : ∀ H5, Same H H5 → H5 D = some (.lst acc) → ¬ (rest = Str.empty ∧ body ≠ [] ∧ ¬ ((body.length : Int) < many0 body + 2)) → ∃ v, some (some (V.ref D)) = some (some v) ∧ ∃ p ys, [v] = [V.ref p] ∧ (SqL K H5 p ys ∨ SqT K H5 p ys) ∧ ∃ i j, V.int ((ys.length : Nat) : Int) = .int i ∧ V.int 1 = .int j ∧ tMkO BL (spIni BL "number") [] (fun σ H Q => Q [V.int (i + j)] H) [] H5 fun cls d H' => E cls d H' := fun H5 s5 hD5 hb => by
          rw [if_neg hb] at eE
          exact ⟨_, rfl, D, _, rfl, .inl (SqL.of hD5), _, _, rfl, rfl, rz s5 fun d H' s hd hx => kL (body.length + 1) d H' eE s hd (by rw [hx, al, Int.natCast_add] <;> rfl)⟩
        refine ⟨_, rfl, rfl, _, rfl, ?_⟩
        rw [dec_str, e_emp]
        by_cases re : rest = Str.empty
        · rw [decide_eq_true re]
          refine iteF ⟨_, rfl, by show 0 ≤ sizeLine; decide, fun z hz => ?_⟩
          refine new_step hz fun H5 s5 e5 => ?_
          have s45 := s4.trans s5
          have g15 := s5 _ _ g1
          refine ⟨D, z, _, rfl, rfl, SqL.of g15, SqL.of e5, _, rfl, ?_⟩
          match acc, qs, g1, g2, g3, g3', ql, al, eE, bad, g15 with
          | [], qs, g1, g2, g3, g3', ql, al, eE, bad, g15 =>
            exact iteT (bad H5 s45 g15 fun z => by
              have := al
              cases body with
              | nil => exact z.2.1 rfl
              | cons _ _ => simp at this)
          | v0 :: ar, [], g1, g2, g3, g3', ql, al, eE, bad, g15 => exact absurd g2.1 (by simp)
          | v0 :: ar, q0 :: qr, g1, g2, g3, g3', ql, al, eE, bad, g15 =>
          have g3n : (prts body).take (prts body).length = (q0 :: qr).map some := by rw [List.take_length]; exact g3'
          obtain ⟨x0, hx0, hp0⟩ := prts_get g3n (j := 0) rfl
          obtain ⟨rfl, m00, m01⟩ := prt_0 hx0 hp0
          have hv0 : v0 = V.int (many0 body) := by
            obtain ⟨q, h1, h2⟩ := g2.2 0 v0 rfl
            cases h1
            exact h2
          subst hv0
          refine iteF ⟨_, rfl, D, _, rfl, .inl (SqL.of g15), _, rfl, D, _, 0, .int (many0 body), rfl, rfl, SqL.of g15, atI_nat (j := 0) rfl, _, _, rfl, rfl, _, _, rfl, rfl, _, rfl, ?_⟩
          by_cases c : (((V.int (many0 body) :: ar).length : Nat) : Int) < many0 body + 2
          · rw [decide_eq_true c]
            exact iteT (bad H5 s45 g15 fun z => z.2.2 (by rw [← al]; exact c))
          · rw [decide_eq_false c]
            have hbn : body ≠ [] := fun z => by rw [z] at hx0; cases hx0
            rw [if_pos ⟨re, hbn, by rw [← al]; exact c⟩] at eE
            match ar, qr, g1, g2, g3, g3', ql, al, eE, bad, g15, g3n, c with
            | [], qr, g1, g2, g3, g3', ql, al, eE, bad, g15, g3n, c => exact absurd (show ((1 : Nat) : Int) < many0 body + 2 by omega) c
            | v1 :: ar, [], g1, g2, g3, g3', ql, al, eE, bad, g15, g3n, c => exact absurd g2.1 (by simp)
            | v1 :: ar, q1 :: qr, g1, g2, g3, g3', ql, al, eE, bad, g15, g3n, c =>
            obtain ⟨x1, hx1, hp1⟩ := prts_get g3n (j := 1) rfl
            obtain ⟨lv, rfl, hlv⟩ := prt_1 hp1
            have hv1 : v1 = V.int lv := by
              obtain ⟨q, h1, h2⟩ := g2.2 1 v1 rfl
              cases h1
              exact h2
            subst hv1
            refine iteF ?_
            refine ⟨_, rfl, D, _, rfl, SqL.of g15, by show 2 ≤ ar.length + 1 + 1; omega, fun R hR => ?_⟩
            refine new_step hR fun H6 s6 e6 => ?_
            have e6 : H6 R = some (.lst ar) := e6
            refine ⟨_, _, rfl, _, _, rfl, _, _, rfl, rfl, ?_⟩
            have s46 := s45.trans s6
            generalize hM : (many0 body).toNat = M
            have mM : many0 body = (M : Int) := by omega
            have alr : ar.length + 2 = body.length := al
            have aM : M ≤ ar.length := by
              have : ¬ ((ar.length + 2 : Nat) : Int) < many0 body + 2 := c
              omega
            have hA : AllIn (PrtAt K H4) ar qr := g2.drop 2
            have qrl : ar.length = qr.length := hA.1
            have get : ∀ {i : Nat} {q : Prt}, qr[i]? = some q → ∃ x ∈ body, prtO (i + 2) (many0 body) x = some q := fun {i q} h => by
              obtain ⟨x, h1, h2⟩ := prts_get g3n (j := i + 2) h
              exact ⟨x, List.mem_of_getElem? h1, h2⟩
            have rowsF : ∀ {i : Nat} {q : Prt}, (qr.take M)[i]? = some q → ∃ l x, q = .row l ∧ x ∈ body ∧ rowW x = some l := fun {i q} h => by
              rw [List.getElem?_take] at h
              split at h
              · rename_i hi
                obtain ⟨x, h1, h2⟩ := get h
                obtain ⟨l, h3, h4⟩ := prt_row (by omega) (by omega) h2
                exact ⟨l, x, h3, h1, h4⟩
              · cases h
            have tiesF : ∀ {i : Nat} {q : Prt}, (qr.drop M)[i]? = some q → ∃ t x, q = .tie t ∧ x ∈ body ∧ tieO x = some t := fun {i q} h => by
              rw [List.getElem?_drop] at h
              obtain ⟨x, h1, h2⟩ := get h
              obtain ⟨t, h3, h4⟩ := prt_tie (by omega) (by omega) h2
              exact ⟨t, x, h3, h1, h4⟩
            have hW : AllIn (RowAt K H4) (ar.take M) ((qr.take M).map rowP) := (hA.take M).map fun i v q hq hv => by
              obtain ⟨l, x, rfl, _⟩ := rowsF hq
              exact hv
            have hT : AllIn (TieAt K H4) (ar.drop M) ((qr.drop M).map tieP) := (hA.drop M).map fun i v q hq hv => by
              obtain ⟨t, x, rfl, _⟩ := tiesF hq
              exact hv
            have wOk : TabOk ((qr.take M).map rowP) := by
              refine ⟨by rw [List.length_map, List.length_take]; omega, fun l hl => ?_⟩
              obtain ⟨q, hq, rfl⟩ := List.mem_map.mp hl
              obtain ⟨i, hi, he⟩ := List.mem_iff_getElem.mp hq
              obtain ⟨l, x, rfl, hx, hr⟩ := rowsF (List.getElem?_eq_getElem hi |>.trans (by rw [he]))
              obtain ⟨r1, _, r2⟩ := rowW_len hr
              have := wb x hx
              exact ⟨by show l.length ≤ _; omega, fun z hz => (r2 z hz).1⟩
            have tOk : ∀ t ∈ (qr.drop M).map tieP, TieOk t := fun t ht => by
              obtain ⟨q, hq, rfl⟩ := List.mem_map.mp ht
              obtain ⟨i, hi, he⟩ := List.mem_iff_getElem.mp hq
              obtain ⟨t, x, rfl, hx, hr⟩ := tiesF (List.getElem?_eq_getElem hi |>.trans (by rw [he]))
              obtain ⟨⟨r1, r2, r3, r4⟩, r5, r6⟩ := tieO_len hr
              have := wb x hx
              exact ⟨r1.1, r2.1, by show t.2.length ≤ _; omega, fun l hl => ⟨by have := r6 l hl; omega, fun z hz => ((r4 l hl).2 z hz).1⟩⟩
            have tLen : ((qr.drop M).map tieP).length ≤ 16000000 := by rw [List.length_map, List.length_drop]; omega
            have eM : mdlOf (.num (many0 body) :: .num lv :: qr) = ⟨many0 body, lv, (qr.take M).map rowP, (qr.drop M).map tieP⟩ := by
              show (⟨many0 body, lv, (qr.take (many0 body).toNat).map rowP, (qr.drop (many0 body).toNat).map tieP⟩ : Mdl) = _
              rw [hM]
            rw [eM] at eE
            generalize (qr.take M).map rowP = ws at hW wOk eE
            generalize (qr.drop M).map tieP = ts at hT tOk tLen eE
            unfold tNoPart
            refine ⟨_, rfl, _, rfl, _, rfl, _, rfl, _, rfl, R, ar, rfl, SqL.of e6, fun A hA2 => ?_⟩
            rw [mM, cut_toV aM]
            refine new_step hA2 fun H7 s7 e7 => ?_
            refine ⟨A, _, rfl, .inl ⟨SqL.of e7, fun W hW2 => ?_⟩⟩
            refine new_step hW2 fun H8 s8 e8 => ?_
            refine ⟨_, rfl, _, rfl, _, rfl, R, ar, rfl, SqL.of ((s7.trans s8) _ _ e6), fun B hB2 => ?_⟩
            rw [cut_fromV aM]
            refine new_step hB2 fun H9 s9 e9 => ?_
            refine ⟨B, _, rfl, .inl ⟨SqL.of e9, fun T' hT2 => ?_⟩⟩
            refine new_step hT2 fun H10 s10 e10 => ?_
            have s610 := ((s7.trans s8).trans s9).trans s10
            have s4A := (s5.trans s6).trans s610
            have sAll := s4.trans s4A
            rw [← mM]
            intro x dx nx ndx nex
            have sx : Same H10 (upd (upd H10 dx (.own x)) x (.ins C dx [])) := mk_same0 nx ndx
            have rW : RowsAt K H10 W ws := ⟨_, (s9.trans s10).sqT (SqT.of e8), hW.mono fun _ _ h => h.same s4A⟩
            have rT : TiesAt K H10 T' ts := ⟨_, SqT.of e10, hT.mono fun _ _ h => h.same s4A⟩
            refine ⟨x, dx, W, T', ⟨many0 body, lv, ws, ts⟩, rfl, upd_same, rW.same sx, rT.same sx, wOk, tOk, tLen, fun pt d H' hw s hd hx => ?_, fun H' hw k1 k2 => ⟨rfl, ?_⟩⟩
            · exact kP pt d H' (eE.trans (by unfold madeM; rw [hw])) ((sAll.trans sx).trans s) ((sAll.trans sx).free hd) hx
            · have s7 : Same H10 H' := mk_same nx ndx k1
              exact kT _ x H' (eE.trans (by unfold madeM; rw [hw])) (sAll.trans s7) (sAll.free nx) ⟨dx, W, T', k2, rW.same s7, rT.same s7⟩
        · rw [decide_eq_false re]
          exact iteT (bad H4 s4 g1 fun z => re z.1)
    · refine ⟨_, rfl, _, _, _, _, _, rfl, .ty "str", t1, t2, _, rfl, iteT ?_⟩
      exact rz (Same.refl H) fun d H' s hd hx => kE d H' s hd hx
end
end Law

namespace L2
open PySem PySem.Spec PyProof.Rows TL
theorem find_par (x y : Str) (hy : tl y ≠ []) : match par (tl y) [] (tl x) with
    | none => Txt.find x y = -1
    | some (u, _) => Txt.find x y = (u.length : Int) := by
  have p := partition_par x y hy
  have hl : 0 < y.length := by rw [len_tl]; exact List.length_pos_iff.mpr hy
  unfold Txt.partition at p
  unfold Txt.find
  cases hp : par (tl y) [] (tl x) with
  | none =>
    rw [hp] at p
    cases ho : Builtin.Str.occurrences x y 0 x.length 1 with
    | nil => rfl
    | cons i r =>
      rw [ho] at p
      have q : y = Str.empty := congrArg (fun z : Str × Str × Str => z.2.1) p
      rw [q] at hy
      exact absurd rfl hy
  | some q =>
    obtain ⟨u, z⟩ := q
    rw [hp] at p
    cases ho : Builtin.Str.occurrences x y 0 x.length 1 with
    | nil =>
      rw [ho] at p
      have q : Str.empty = y := congrArg (fun z : Str × Str × Str => z.2.1) p
      rw [← q] at hy
      exact absurd rfl hy
    | cons i r =>
      rw [ho] at p
      obtain ⟨hb, _⟩ := PySem.StrLaws.occ_spec x y 0 x.length 1 i (by rw [ho]; exact List.mem_cons_self ..)
      have q : Builtin.Str.strSub x 0 i = (⟨u.toArray⟩ : Str) := congrArg (fun z : Str × Str × Str => z.1) p
      have q := congrArg (fun z : Str => (tl z).length) q
      have l : (tl x).length = x.length := (len_tl x).symm
      change (tl (Builtin.Str.strSub x 0 i)).length = u.length at q
      rw [tl_strSub, List.length_take, List.length_drop, l] at q
      have hb' : i + y.length ≤ x.length := hb
      show (i : Int) = (u.length : Int)
      omega
theorem par_some2 : ∀ (l acc u z : List Nat), par [58, 32] acc l = some (u, z) → ∃ p, u = acc ++ p ∧ l = p ++ 58 :: 32 :: z
  | [], acc, u, z, h => by cases h
  | c :: l, acc, u, z, h => by
    cases hc : pre [58, 32] (c :: l) with
    | true =>
      obtain ⟨q, hq⟩ := pre2 hc
      rw [par_hit hc, hq] at h
      cases h
      exact ⟨[], (List.append_nil _).symm, hq⟩
    | false =>
      rw [par_miss hc] at h
      obtain ⟨p, h1, h2⟩ := par_some2 l _ _ _ h
      exact ⟨c :: p, by rw [h1, List.append_assoc] <;> rfl, by rw [h2] <;> rfl⟩
theorem word_cut {α : Type} (f : Str → Option α) (f0 : f Str.empty = none) {wd w2 x : Str} {n : Nat} (hw : 32 ∉ tl wd) (h2 : tl w2 = tl wd ++ [32]) (hn : n = (tl wd).length + 1) :
    (if (Txt.partition x ⟨#[32]⟩).1 = wd then f (Txt.partition x ⟨#[32]⟩).2.2 else none) = if cutS x none (some (n : Int)) = w2 then f (cutS x (some (n : Int)) none) else none := by
  rw [behind_word f f0 hw]
  have e : (tl x).take ((tl wd).length + 1) = tl wd ++ [32] ↔ cutS x none (some (n : Int)) = w2 := by
    rw [← hn, ← h2, ← tl_cutS_to]
    exact ⟨fun h => ext_tl h, fun h => by rw [h]⟩
  have e2 : (⟨((tl x).drop ((tl wd).length + 1)).toArray⟩ : Str) = cutS x (some (n : Int)) none := ext_tl (by rw [tl_cutS_from, hn] <;> rfl)
  rw [e2]
  by_cases c : (tl x).take ((tl wd).length + 1) = tl wd ++ [32]
  · rw [if_pos c, if_pos (e.mp c)]
  · rw [if_neg c, if_neg fun h => c (e.mpr h)]
theorem tl_cutS_mid {z : Str} {n m : Nat} (h1 : n ≤ m) (h2 : m ≤ (tl z).length) : tl (cutS z (some (n : Int)) (some (m : Int))) = ((tl z).take m).drop n := by
  unfold cutS
  show ((tl z).drop (HT.sIx z.length 0 (some (n : Int)))).take (HT.sIx z.length z.length (some (m : Int)) - HT.sIx z.length 0 (some (n : Int))) = _
  have l := len_tl z
  rw [HT.sIx_nat, HT.sIx_nat, Nat.min_eq_left (by omega), Nat.min_eq_left (by omega), List.drop_take]
theorem t_tieS : tl ("tie " : Str) = [116, 105, 101, 32] := by decide +kernel
theorem tieO_cut (x : Str) : tieO x = if ¬ cutS x none (some 4) = ("tie " : Str) then none else if Txt.find x cs < 0 then none else two (numsO (cutS x (some 4) (some (Txt.find x cs)))) (allO ((Txt.split (cutS x (some (Txt.find x cs + 2)) none) bar).map numsO)) := by
  have hy : tl cs = [58, 32] := rfl
  have pp := partition_par x cs (by rw [hy]; simp)
  have ff := find_par x cs (by rw [hy]; simp)
  rw [hy] at pp ff
  have c4 : tl (cutS x none (some 4)) = (tl x).take 4 := tl_cutS_to (n := 4)
  unfold tieO
  cases hp : par [58, 32] [] (tl x) with
  | none =>
    rw [hp] at pp ff
    have ff : Txt.find x cs = -1 := ff
    rw [pp, ff]
    simp only
    rw [split_bar_nil, show allO [(none : Option (List Int))] = none from rfl, two_none, if_pos (show (-1 : Int) < 0 by decide)]
    split <;> split <;> rfl
  | some q =>
    obtain ⟨a, b⟩ := q
    rw [hp] at pp ff
    have ff : Txt.find x cs = (a.length : Int) := ff
    obtain ⟨p, k1, k2⟩ := par_some2 _ _ _ _ hp
    rw [List.nil_append] at k1
    subst k1
    rw [pp, ff]
    simp only
    rw [if_neg (show ¬ ((a.length : Nat) : Int) < 0 by omega)]
    have eb : cutS x (some ((a.length : Int) + 2)) none = (⟨b.toArray⟩ : Str) := by
      have : cutS x (some ((a.length : Int) + 2)) none = cutS x (some ((a.length + 2 : Nat) : Int)) none := rfl
      rw [this]
      refine ext_tl ?_
      rw [tl_cutS_from, k2, show a ++ 58 :: 32 :: b = (a ++ [58, 32]) ++ b by rw [List.append_assoc] <;> rfl, show a.length + 2 = (a ++ [58, 32]).length by rw [List.length_append] <;> rfl, List.drop_left] <;> rfl
    rw [eb]
    have bw := behind_word (fun y => two (numsO y) (allO ((Txt.split (⟨b.toArray⟩ : Str) bar).map numsO))) (by show two (numsO Str.empty) _ = none; rw [nums_nil] <;> rfl) (wd := ("tie" : Str)) (x := (⟨a.toArray⟩ : Str)) n_tie
    refine bw.trans ?_
    have ta : tl (⟨a.toArray⟩ : Str) = a := rfl
    rw [ta, t_tie]
    show (if a.take 4 = [116, 105, 101, 32] then two (numsO (⟨(a.drop 4).toArray⟩ : Str)) _ else none) = _
    have iff4 : a.take 4 = [116, 105, 101, 32] ↔ cutS x none (some 4) = ("tie " : Str) := by
      have e0 : cutS x none (some 4) = ("tie " : Str) ↔ (tl x).take 4 = [116, 105, 101, 32] := ⟨fun h => by rw [← c4, h, t_tieS], fun h => ext_tl (by rw [c4, h, t_tieS])⟩
      rw [e0, k2]
      by_cases c : 4 ≤ a.length
      · rw [List.take_append_of_le_length c]
      · constructor
        · intro h
          have := congrArg List.length h
          rw [List.length_take] at this
          simp at this
          omega
        · intro h
          have z : (List.take 4 (a ++ 58 :: 32 :: b))[a.length]? = ([116, 105, 101, 32] : List Nat)[a.length]? := congrArg (fun l : List Nat => l[a.length]?) h
          rw [List.getElem?_take, if_pos (by omega), List.getElem?_append_right (Nat.le_refl _), Nat.sub_self] at z
          have z : some 58 = ([116, 105, 101, 32] : List Nat)[a.length]? := z
          have m : 58 ∈ ([116, 105, 101, 32] : List Nat) := List.mem_of_getElem? z.symm
          exact absurd m (by decide)
    by_cases c : a.take 4 = [116, 105, 101, 32]
    · rw [if_pos c, if_neg fun z => z (iff4.mp c)]
      have al : 4 ≤ a.length := by
        have := congrArg List.length c
        rw [List.length_take] at this
        simp at this
        omega
      have em : cutS x (some 4) (some (a.length : Int)) = (⟨(a.drop 4).toArray⟩ : Str) := by
        refine ext_tl ?_
        have z := tl_cutS_mid (z := x) (n := 4) (m := a.length) al (by rw [k2, List.length_append]; omega)
        refine z.trans ?_
        rw [k2, List.take_left] <;> rfl
      rw [em]
    · rw [if_neg c, if_pos fun z => c (iff4.mpr z)]
def isDg (c : Nat) : Bool := decide (48 ≤ c ∧ c ≤ 57)
theorem all_dg {l : List Nat} : l.all isDg = true ↔ NumText.AllDigits l := by
  rw [List.all_eq_true]
  exact ⟨fun h c hc => of_decide_eq_true (h c hc), fun h c hc => decide_eq_true (h c hc)⟩
theorem numO_no {w : Str} (h : ¬ (1 ≤ w.length ∧ w.length ≤ 12) ∨ (tl w).all isDg = false) : numO w = none := by
  cases e : numO w with
  | none => rfl
  | some i =>
    obtain ⟨k, _, h1, h2, h3⟩ := numO_back e
    have l := len_tl w
    rcases h with h | h
    · refine absurd ⟨?_, h2⟩ h
      have := List.length_pos_iff.mpr (numL_ne k)
      rw [l, h1]
      exact this
    · rw [all_dg.mpr h3] at h
      cases h
theorem numO_yes {w : Str} (h : 1 ≤ w.length ∧ w.length ≤ 12) (hd : (tl w).all isDg = true) : numO w = if 1 < w.length ∧ (tl w).head? = some 48 then none else some (NumText.digitsVal (tl w) : Int) := by
  have hd := all_dg.mp hd
  have l := len_tl w
  have ha : ∀ c ∈ tl w, c < 128 := fun c hc => by
    have := hd c hc
    omega
  unfold numO
  have c1 : (!Txt.isascii w || !Txt.isdigit w || decide ((12 : Int) < ((w.length : Nat) : Int))) = false := by
    rw [(asc_iff w).mpr ha, (dig_iff ha).mpr ⟨fun z => by rw [z] at l; have : w.length = 0 := l; omega, hd⟩, decide_eq_false (by omega)] <;> rfl
  rw [c1, if_neg Bool.false_ne_true, starts0, eq_zero]
  by_cases q : (tl w).head? = some 48
  · have t1 : ((tl w).take 1 == [48]) = true := by
      cases hw : tl w with
      | nil => rw [hw] at q; cases q
      | cons c r =>
        rw [hw] at q
        have := Option.some.inj q
        rw [this] <;> rfl
    rw [t1, Bool.true_and]
    by_cases z : tl w = [48]
    · have : w.length = 1 := by rw [l, z] <;> rfl
      rw [decide_eq_true z, if_neg (by simp), if_neg (fun z => by omega)]
    · have : 1 < w.length := by
        rw [l]
        match hw : tl w, q, z with
        | [c], q, z =>
          have := Option.some.inj q
          exact absurd (by rw [this]) z
        | c :: d :: r, _, _ => simp
      rw [decide_eq_false z, if_pos (by simp), if_pos ⟨this, q⟩]
  · have t1 : ((tl w).take 1 == [48]) = false := by
      rw [beq_eq_false_iff_ne]
      intro z
      cases hw : tl w with
      | nil => rw [hw] at z; cases z
      | cons c r =>
        rw [hw] at z q
        have : c = 48 := by simpa using z
        exact q (by rw [this] <;> rfl)
    rw [t1, Bool.false_and, if_neg Bool.false_ne_true, if_neg (fun z => q z.2)]
theorem tl_digs : tl ("0123456789" : Str) = [48, 49, 50, 51, 52, 53, 54, 55, 56, 57] := by decide +kernel
theorem in_digs (c : Nat) : decide (c ∈ ("0123456789" : Str).cps.toList) = isDg c := by
  have e : ("0123456789" : Str).cps.toList = [48, 49, 50, 51, 52, 53, 54, 55, 56, 57] := tl_digs
  rw [e]
  unfold isDg
  refine decide_eq_decide.mpr ?_
  simp only [List.mem_cons, List.not_mem_nil, or_false]
  omega
theorem numO_L {x : Str} (c1 : 1 ≤ x.length) (c2 : x.length ≤ 12) (ha : (tl x).all isDg = true) : numO x = if x = ("0" : Str) ∨ ¬ (tl x).head? = some 48 then some (NumText.digitsVal (tl x) : Int) else none := by
  rw [numO_yes ⟨c1, c2⟩ ha]
  have l := len_tl x
  by_cases h : (tl x).head? = some 48
  · by_cases z : x = ("0" : Str)
    · have tz := congrArg tl z
      rw [tl_zero] at tz
      have : x.length = 1 := by rw [l, tz] <;> rfl
      rw [if_neg (fun q => by omega), if_pos (.inl z)]
    · have : 1 < x.length := by
        rw [l]
        cases hx : tl x with
        | nil => rw [hx] at h; cases h
        | cons c r =>
          cases r with
          | nil =>
            rw [hx] at h
            have := Option.some.inj h
            exact absurd (ext_tl (by rw [hx, tl_zero, this])) z
          | cons d r => simp
      rw [if_pos ⟨this, h⟩, if_neg]
      rintro (q | q)
      · exact z q
      · exact q h
  · rw [if_neg (fun q => h q.2), if_pos (.inr h)]
end L2
namespace Law
open PySem L2 TL
section
variable {P : Program} {w : World} {K : PySem.W.Frag} {mg : Str → Option Value} {base : Heap}
def spNumL : Sp := fun vs H Q _ => ∃ (x : Str), vs = [.str x] ∧ x.length ≤ 16000000 ∧ ∀ H', Same H H' → Q (optV (numO x)) H'
abbrev nLawNumber : List Str := ["_law_word", "_law_sign"]
theorem scLawNumber : FnScope nLawNumber ["_law_word"] (defScope s_law_number) := ⟨rfl, rfl, rfl, by decide +kernel, rfl, by decide +kernel, by decide +kernel⟩
theorem ok_number {f : Addr} {fd : FuncData} (F : Fun K "_law_number" "_law_number" s_law_number f fd) (T : NmA mg) : FnOk P w K mg base CX0 1 f fd ["_law_word"] spNumL := by
  refine F.ok scLawNumber (fun vs H Q E h => ?_) (fun cdv A' outer s H vs Q E hr h => ?_)
  · obtain ⟨x, rfl, _⟩ := h
    rfl
  · obtain ⟨x, rfl, xl, k⟩ := h
    have hu := hu_of hr
    refine ⟨_, pss_cons (ps_if (PW.pt (pw_or (pt_not (pt_chain op_le op_le pe_int (pe_callB call_len_str (by rfl) T.len PySem.boot_len (pa_cons (pv 0) pa_nil)) pe_int)) (pw_or1 (pt_not (pt_val (pe_callB (cr_all rfl) (by rfl) T.all (by decide +kernel) (pa_cons (pe_lc (own := [("_law_sign", 1)]) (g := (gName 1)) (tt := tYes) rfl scLawNumber.nd  (pi_str (pv 0)) (blkOk_by (own := [("_law_sign", 1)]) (N := nLawNumber) (sc := defScope s_law_number) (by decide +kernel)) (fun _ _ _ _ _ => (pg_name (i := 1) scLawNumber.nd rfl (Or.inl rfl))) (fun _ _ _ _ _ => pts_nil) (fun _ _ _ _ _ => (pe_cmpR op_in_sign (pv 1) pe_str (by rfl)))) pa_nil)))))))
        (pss_one (ps_ret pe_non)) pss_nil)
      (pss_one (ps_ret (pe_ifExp (PW.pt (pw_or (pt_cmpR op_eq (pv 0) pe_str (nomark _)) (pw_or1 (pt_cmpR op_ne (pe_ix ix_str (pv 0) pe_int (fun _ _ => rfl)) pe_str (nomark _))))) (pe_callTy call_int_str (by rfl) T.int (by decide +kernel) (pa_cons (pv 0) pa_nil)) pe_non))), ?_⟩
    have z : x.length ≤ sizeLine := by rw [sizeLine_eq]; omega
    have l := len_tl x
    refine ⟨_, rfl, _, rfl, z, _, _, rfl, rfl, _, rfl, ?_⟩
    have bad : ∀ H', Same H H' → (¬ (1 ≤ x.length ∧ x.length ≤ 12) ∨ (tl x).all isDg = false) → Q .non H' := fun H' s h => by
      have kk := k H' s
      rw [numO_no h] at kk
      exact kk
    by_cases c1 : 1 ≤ x.length
    · rw [decide_eq_true (show (1 : Int) ≤ ((x.length : Nat) : Int) by omega)]
      refine iteT ⟨_, _, rfl, rfl, _, rfl, ?_⟩
      by_cases c2 : x.length ≤ 12
      · rw [decide_eq_true (show ((x.length : Nat) : Int) ≤ 12 by omega)]
        refine iteF ?_
        refine ⟨_, rfl, x, rfl, fun D hD => ?_⟩
        refine lc_it walk_str (fun i H' => Same H H' ∧ H' D = some (.lst ((((tl x).take i).map isDg).map V.bl))) ⟨Same.new hD, upd_same⟩ (fun i H' _ g => trivial) (fun i y H3 H4 hi g hy => ?_) fun H3 g => ?_
        · obtain ⟨s3, g3⟩ := g
          obtain ⟨rfl, c, hc, rfl⟩ := hy
          have hc' : (tl x)[i]? = some c := by rw [← hc]; exact Array.getElem?_toList
          refine ⟨rfl, _, rfl, c, _, rfl, rfl, _, g3, ?_, s3.mut hD, ?_⟩
          · rw [List.length_map, List.length_map, List.length_take]
            exact small1000 (by omega)
          · rw [in_digs, upd_same, List.take_add_one, hc', List.map_append, List.map_append] <;> rfl
        · obtain ⟨s3, g3⟩ := g
          have ta : (tl x).take x.cps.size = tl x := List.take_of_length_le (by rw [← l]; exact Nat.le_refl _)
          rw [ta] at g3
          refine ⟨D, _, rfl, SqL.of g3, ?_⟩
          rw [all_take]
          refine ⟨_, rfl, ?_⟩
          cases ha : (tl x).all isDg with
          | false => exact iteT (bad H3 s3 (.inr ha))
          | true =>
            have e := numO_L c1 c2 ha
            have kk := k H3 s3
            rw [e] at kk
            have dg := all_dg.mp ha
            have ne : tl x ≠ [] := fun z => by rw [z] at l; have : x.length = 0 := l; omega
            have fin : (x = ("0" : Str) ∨ ¬ (tl x).head? = some 48) → ∃ a n, [V.str x] = [.str a] ∧ PySem.intText? a = some n ∧ a.length ≤ 640 ∧ Q (.int n) H3 := fun h => by
              rw [if_pos h] at kk
              exact ⟨x, _, rfl, intText_digits dg ne (by omega), by omega, kk⟩
            refine iteF ⟨_, rfl, rfl, _, rfl, ?_⟩
            rw [dec_str]
            by_cases c3 : x = ("0" : Str)
            · rw [decide_eq_true c3]
              exact iteT ⟨_, rfl, fin (.inl c3)⟩
            · rw [decide_eq_false c3]
              obtain ⟨c, r, hx⟩ : ∃ c r, tl x = c :: r := by
                cases h : tl x with
                | nil => exact absurd h ne
                | cons c r => exact ⟨c, r, rfl⟩
              have a0 : atI x.cps.toList 0 = some c := by
                rw [show x.cps.toList = c :: r from hx]
                exact atI_nat (j := 0) rfl
              refine iteF ⟨_, rfl, x, 0, c, rfl, rfl, z, a0, rfl, _, rfl, ?_⟩
              rw [dec_str]
              by_cases c4 : c = 48
              · rw [decide_eq_true (show (⟨#[c]⟩ : Str) = ("0" : Str) from ext_tl (by rw [tl_zero, c4] <;> rfl))]
                rw [if_neg (by rintro (q | q); exact c3 q; exact q (by rw [hx, c4] <;> rfl))] at kk
                exact iteF kk
              · rw [decide_eq_false (show ¬ (⟨#[c]⟩ : Str) = ("0" : Str) from fun z => c4 (by
                  have z := congrArg tl z
                  rw [tl_zero] at z
                  have z : [c] = [48] := z
                  simpa using z))]
                exact iteT ⟨_, rfl, fin (.inr fun z => c4 (by rw [hx] at z; exact Option.some.inj z))⟩
      · rw [decide_eq_false (show ¬ ((x.length : Nat) : Int) ≤ 12 by omega)]
        exact iteT (bad H (Same.refl H) (.inl fun z => c2 z.2))
    · rw [decide_eq_false (show ¬ (1 : Int) ≤ ((x.length : Nat) : Int) by omega)]
      exact iteF ⟨_, rfl, iteT (bad H (Same.refl H) (.inl fun z => c1 z.1))⟩
abbrev nLawNumbers : List Str := ["_law_text_here", "_law_found", "_law_word"]
theorem scLawNumbers : FnScope nLawNumbers ["_law_text_here"] (defScope s_law_numbers) := ⟨rfl, rfl, rfl, by decide +kernel, rfl, by decide +kernel, by decide +kernel⟩
theorem ok_numbers {f : Addr} {fd : FuncData} {fcNumL : Addr} {fdcNumL : FuncData} (F : Fun K "_law_numbers" "_law_numbers" s_law_numbers f fd) (T : NmA mg) (cNumL : Cl P w K mg base CX0 1 "_law_number" fcNumL fdcNumL ["_law_word"] spNumL) : FnOk P w K mg base CX0 2 f fd ["_law_text_here"] (spNums K) := by
  refine F.ok scLawNumbers (fun vs H Q E h => ?_) (fun cdv A' outer s H vs Q E hr h => ?_)
  · obtain ⟨x, rfl, _⟩ := h
    rfl
  · obtain ⟨x, rfl, xl, k1, k2⟩ := h
    have hu := hu_of hr
    refine ⟨_, pss_cons (ps_set (i := 1) scLawNumbers.nd rfl (Or.inl rfl) (pe_callTy call_tuple_of (by rfl) T.tuple (by decide +kernel) (pa_cons (pe_lc (own := [("_law_word", 2)]) (g := (gName 2)) (tt := tYes) rfl scLawNumbers.nd  (pi_list (pe_m1 PySem.F.slot_str_split PySem.F.type_str_split mt_split (pv 0) pe_str)) (blkOk_by (own := [("_law_word", 2)]) (N := nLawNumbers) (sc := defScope s_law_numbers) (by decide +kernel)) (fun _ _ _ _ _ => (pg_name (i := 2) scLawNumbers.nd rfl (Or.inl rfl))) (fun _ _ _ _ _ => pts_nil) (fun _ _ _ _ _ => (cNumL.call (hr.mono (by decide)) (pa_cons (pv 2) pa_nil)))) pa_nil)))
      (pss_one (ps_ret (pe_ifExp (pt_cmpR op_in_seq pe_non (pv 1) (by rfl)) pe_non (pv 1)))), ?_⟩
    have z : x.length ≤ sizeLine := by rw [sizeLine_eq]; omega
    obtain ⟨wl, cl⟩ := spl_bound x
    rw [← sp_is] at wl cl
    have hn : numsO x = allO ((Txt.split x (" " : Str)).map numO) := by rw [sp_is] <;> rfl
    refine ⟨_, rfl, ⟨_, rfl⟩, x, _, rfl, rfl, by decide +kernel, by rw [sizeLine_eq]; omega, fun p hp => ?_⟩
    refine new_step hp fun H1 s1 e1 => ?_
    generalize Txt.split x (" " : Str) = ws at wl cl e1 hn
    refine ⟨p, rfl, ⟨_, SqL.of e1⟩, fun D hD => ?_⟩
    refine lc_list (K := K) (a := p) (xs := ws.map V.str) (fun i H' => Same H1 H' ∧ H' D = some (.lst (((ws.take i).map numO).map optV))) ⟨Same.new hD, upd_same⟩ (fun i H' _ g => SqL.of (g.1 _ _ e1)) (fun i y H2 hi g => ?_) fun H2 g => ?_
    · obtain ⟨s2, g2⟩ := g
      rw [List.getElem?_map] at hi
      obtain ⟨u, hu, rfl⟩ := Option.map_eq_some_iff.mp hi
      have il := (List.getElem?_eq_some_iff.mp hu).1
      refine ⟨rfl, _, rfl, u, rfl, by have := wl u (List.mem_of_getElem? hu); omega, fun H3 s3 => ⟨_, s3 _ _ g2, ?_, (s2.trans s3).mut hD, ?_⟩⟩
      · rw [List.length_map, List.length_map, List.length_take, sizeLine_eq]
        omega
      · rw [upd_same, List.take_add_one, hu, List.map_append, List.map_append] <;> rfl
    · obtain ⟨s2, g2⟩ := g
      rw [List.length_map, List.take_length] at g2
      refine ⟨D, _, rfl, .inl ⟨SqL.of g2, fun T hT => ?_⟩⟩
      refine new_step hT fun H3 s3 e3 => ?_
      have s13 := (s1.trans s2).trans s3
      refine ⟨_, rfl, T, _, rfl, .inr (SqT.of e3), rfl, flat_opts _, _, rfl, ?_⟩
      rw [inV_opts]
      cases h : allO (ws.map numO) with
      | none =>
        rw [show (if false = true then !decide (none ∈ ws.map numO) else decide (none ∈ ws.map numO)) = true by rw [if_neg Bool.false_ne_true]; exact decide_eq_true (allO_none.mp h)]
        exact iteT (k1 H3 (hn.trans h) s13)
      | some l =>
        rw [show (if false = true then !decide (none ∈ ws.map numO) else decide (none ∈ ws.map numO)) = false by rw [if_neg Bool.false_ne_true]; exact decide_eq_false fun m => by rw [allO_none.mpr m] at h; cases h]
        have e4 := allO_some h
        rw [e4, List.map_map] at e3
        exact iteF ⟨_, rfl, k2 l T _ (hn.trans h) s13 (SqT.of e3)⟩
def spLineL (K : PySem.W.Frag) : Sp := fun vs H Q _ => ∃ (x : Str) (j : Nat) (m : Int), vs = [.str x, .int (j : Int), .int m] ∧ x.length ≤ 1000000 ∧ (∀ H', prtO j m x = none → Same H H' → Q .non H') ∧ (∀ q v H', prtO j m x = some q → Same H H' → PrtAt K H' v q → Q v H')
abbrev nLawLine : List Str := ["_law_line_here", "_law_at", "_law_many", "_law_head", "_law_middle", "_law_places", "_law_rows", "_law_row"]
theorem scLawLine : FnScope nLawLine ["_law_line_here", "_law_at", "_law_many"] (defScope s_law_line) := ⟨rfl, rfl, rfl, by decide +kernel, rfl, by decide +kernel, by decide +kernel⟩
theorem ok_line {f : Addr} {fd : FuncData} {fcNumL : Addr} {fdcNumL : FuncData} {fcNumsL : Addr} {fdcNumsL : FuncData} (F : Fun K "_law_line" "_law_line" s_law_line f fd) (T : NmA mg) (cNumL : Cl P w K mg base CX0 1 "_law_number" fcNumL fdcNumL ["_law_word"] spNumL) (cNumsL : Cl P w K mg base CX0 2 "_law_numbers" fcNumsL fdcNumsL ["_law_text_here"] (spNums K)) : FnOk P w K mg base CX0 3 f fd ["_law_line_here", "_law_at", "_law_many"] (spLineL K) := by
  refine F.ok scLawLine (fun vs H Q E h => ?_) (fun cdv A' outer s H vs Q E hr h => ?_)
  · obtain ⟨x, j, m, rfl, _⟩ := h
    rfl
  · obtain ⟨x, j, m, rfl, xl, k1, k2⟩ := h
    have hu := hu_of hr
    refine ⟨_, pss_cons (ps_if (pt_cmpR op_lt (pv 1) pe_int (nomark _))
        (pss_cons (ps_set (i := 3) scLawLine.nd rfl (Or.inl rfl) (pe_ix ix_list (pe_lst (pa_cons pe_str (pa_cons pe_str pa_nil))) (pv 1) (fun _ _ => rfl)))
        (pss_one (ps_ret (pe_ifExp (pt_cmpR op_eq (pe_slice sl_str (pv 0) po_none (po_some pe_int)) (pv 3) (nomark _)) (cNumL.call (hr.mono (by decide)) (pa_cons (pe_slice sl_str (pv 0) (po_some pe_int) po_none) pa_nil)) pe_non)))) pss_nil)
      (pss_cons (ps_if (pt_cmpR op_lt (pv 1) (pe_op op_add (pv 2) pe_int) (nomark _))
        (pss_one (ps_ret (pe_ifExp (pt_cmpR op_eq (pe_slice sl_str (pv 0) po_none (po_some pe_int)) pe_str (nomark _)) (cNumsL.call (hr.mono (by decide)) (pa_cons (pe_slice sl_str (pv 0) (po_some pe_int) po_none) pa_nil)) pe_non))) pss_nil)
      (pss_cons (ps_set (i := 4) scLawLine.nd rfl (Or.inl rfl) (pe_m1 PySem.F.slot_str_find PySem.F.type_str_find mt_find (pv 0) pe_str))
      (pss_cons (ps_if (PW.pt (pw_or (pt_cmpR op_ne (pe_slice sl_str (pv 0) po_none (po_some pe_int)) pe_str (nomark _)) (pw_or1 (pt_cmpR op_lt (pv 4) pe_int (nomark _)))))
        (pss_one (ps_ret pe_non)) pss_nil)
      (pss_cons (ps_par (i := 5) (j := 6) (by rfl) scLawLine.nd rfl rfl (by decide) rfl rfl (pa_cons (cNumsL.call (hr.mono (by decide)) (pa_cons (pe_slice sl_str (pv 0) (po_some pe_int) (po_some (pv 4))) pa_nil)) (pa_cons (pe_lc (own := [("_law_row", 7)]) (g := (gName 7)) (tt := tYes) rfl scLawLine.nd  (pi_list (pe_m1 PySem.F.slot_str_split PySem.F.type_str_split mt_split (pe_slice sl_str (pv 0) (po_some (pe_op op_add (pv 4) pe_int)) po_none) pe_str)) (blkOk_by (own := [("_law_row", 7)]) (N := nLawLine) (sc := defScope s_law_line) (by decide +kernel)) (fun _ _ _ _ _ => (pg_name (i := 7) scLawLine.nd rfl (Or.inl rfl))) (fun _ _ _ _ _ => pts_nil) (fun _ _ _ _ _ => (cNumsL.call (hr.mono (by decide)) (pa_cons (pv 7) pa_nil)))) pa_nil)) (by rfl))
      (pss_one (ps_ret (pe_ifExp (PW.pt (pw_or (pt_cmpR op_isN (pv 5) pe_non (nomark _)) (pw_or (pt_cmpR op_ne (pe_callB call_len_seq (by rfl) T.len PySem.boot_len (pa_cons (pv 5) pa_nil)) pe_int (nomark _)) (pw_or1 (pt_cmpR (op_inD (units65 hr)) pe_non (pv 6) (by rfl)))))) pe_non (pe_op op_catA (pv 5) (pe_tup (pa_cons (pe_callTy call_tuple_of (by rfl) T.tuple (by decide +kernel) (pa_cons (pv 6) pa_nil)) pa_nil)))))))))), ?_⟩
    have z : x.length ≤ sizeLine := by rw [sizeLine_eq]; omega
    have ba_is : (" | " : Str) = bar := ext_tl (by decide +kernel)
    have t_pl : tl ("places " : Str) = tl ("places" : Str) ++ [32] := by decide +kernel
    have t_lv : tl ("levels " : Str) = tl ("levels" : Str) ++ [32] := by decide +kernel
    have t_we : tl ("weights " : Str) = tl ("weights" : Str) ++ [32] := by decide +kernel
    have cl : ∀ lo hi, (cutS x lo hi).length ≤ 1000000 := fun lo hi => Nat.le_trans (cutS_length _ _ _) xl
    have nn : ∀ (o : Option Int) (H' : Hp), Same H H' → prtO j m x = o.map .num → Q (optV o) H' := fun o H' s e => by
      cases o with
      | none => exact k1 H' e s
      | some i => exact k2 (.num i) _ H' e s rfl
    refine ⟨_, rfl, _, _, rfl, rfl, _, rfl, ?_⟩
    by_cases j2 : j < 2
    · rw [decide_eq_true (show (j : Int) < 2 by omega)]
      refine iteT ⟨by show 2 ≤ sizeLine; decide, fun L hL => ?_⟩
      refine new_step hL fun H1 s1 e1 => ?_
      have e1 : H1 L = some (.lst [.str "places ", .str "levels "]) := e1
      obtain ⟨wd, hat, hp⟩ : ∃ wd : Str, atI [V.str ("places " : Str), V.str ("levels " : Str)] (j : Int) = some (.str wd) ∧ prtO j m x = (if cutS x none (some 7) = wd then numO (cutS x (some 7) none) else none).map Prt.num := by
        rcases (show j = 0 ∨ j = 1 by omega) with rfl | rfl
        · exact ⟨_, atI_nat (j := 0) rfl, (prtO_0 m x).trans (congrArg (Option.map Prt.num) (word_cut numO numO_nil (n := 7) n_places t_pl (by rw [t_places] <;> rfl)))⟩
        · exact ⟨_, atI_nat (j := 1) rfl, (prtO_1 m x).trans (congrArg (Option.map Prt.num) (word_cut numO numO_nil (n := 7) n_levels t_lv (by rw [t_levels] <;> rfl)))⟩
      refine ⟨_, rfl, L, _, _, .str wd, rfl, rfl, SqL.of e1, hat, ?_⟩
      unfold tNoPart
      refine ⟨_, rfl, 7, rfl, x, rfl, z, _, rfl, rfl, _, rfl, ?_⟩
      rw [dec_str]
      by_cases c : cutS x none (some 7) = wd
      · rw [decide_eq_true c]
        rw [if_pos c] at hp
        exact iteT ⟨_, rfl, 7, rfl, x, rfl, z, _, rfl, by have := cl (some 7) none; omega, fun H2 s2 => nn _ H2 (s1.trans s2) hp⟩
      · rw [decide_eq_false c]
        rw [if_neg c] at hp
        exact iteF (k1 H1 hp s1)
    · rw [decide_eq_false (show ¬ (j : Int) < 2 by omega)]
      refine iteF ⟨_, rfl, _, rfl, _, _, rfl, rfl, _, _, rfl, rfl, _, rfl, ?_⟩
      by_cases jm : (j : Int) < m + 2
      · have hp : prtO j m x = (if cutS x none (some 8) = ("weights " : Str) then numsO (cutS x (some 8) none) else none).map Prt.row := by
          unfold prtO
          rw [if_neg (by omega), if_neg (by omega), if_pos jm]
          exact congrArg (Option.map Prt.row) (word_cut numsO nums_nil (n := 8) n_weights t_we (by rw [t_weights] <;> rfl))
        rw [decide_eq_true jm]
        refine iteT ?_
        unfold tNoPart
        refine ⟨_, rfl, 8, rfl, x, rfl, z, rfl, _, rfl, ?_⟩
        rw [dec_str]
        by_cases c : cutS x none (some 8) = ("weights " : Str)
        · rw [decide_eq_true c]
          rw [if_pos c] at hp
          exact iteT ⟨_, rfl, 8, rfl, x, rfl, z, _, rfl, by have := cl (some 8) none; omega, fun H2 h s2 => k1 H2 (by rw [hp, h] <;> rfl) s2, fun l p H2 h s2 hl => k2 (.row l) _ H2 (by rw [hp, h] <;> rfl) s2 ⟨p, rfl, hl⟩⟩
        · rw [decide_eq_false c]
          rw [if_neg c] at hp
          exact iteF (k1 H hp (Same.refl H))
      · have hp : prtO j m x = (tieO x).map Prt.tie := by
          unfold prtO
          rw [if_neg (by omega), if_neg (by omega), if_neg jm]
        rw [tieO_cut, ← cs_is, ← ba_is] at hp
        rw [decide_eq_false jm]
        refine iteF ⟨_, rfl, ⟨_, rfl⟩, x, _, rfl, rfl, ?_⟩
        generalize hmid : Txt.find x (": " : Str) = mid at hp ⊢
        unfold tNoPart
        refine ⟨_, rfl, 4, rfl, x, rfl, z, rfl, _, rfl, ?_⟩
        rw [dec_str]
        by_cases c : cutS x none (some 4) = ("tie " : Str)
        · rw [decide_eq_true c]
          rw [if_neg (fun q => q c)] at hp
          refine iteF ⟨_, rfl, _, _, rfl, rfl, _, rfl, ?_⟩
          by_cases m0 : mid < 0
          · rw [decide_eq_true m0]
            rw [if_pos m0] at hp
            exact iteT (k1 H hp (Same.refl H))
          · rw [decide_eq_false m0]
            rw [if_neg m0] at hp
            refine iteF (par_mrg (fun v H2 => Same H H2 ∧ OptAt K H2 v (numsO (cutS x (some 4) (some mid)))) (fun Q' key => ?_) ?_)
            · refine ⟨_, rfl, 4, rfl, _, rfl, _, rfl, x, rfl, z, _, rfl, by have := cl (some 4) (some mid); omega, fun H2 h s2 => key _ _ ⟨s2, .inl ⟨h, rfl⟩⟩, fun l p H2 h s2 hl => key _ _ ⟨s2, .inr ⟨l, h, p, rfl, hl⟩⟩⟩
            rintro pl H2 ⟨s2, hpl⟩
            refine ⟨_, rfl, _, rfl, _, _, rfl, rfl, _, rfl, x, rfl, z, ⟨_, rfl⟩, _, _, rfl, rfl, by decide +kernel, by have := cl (some (mid + 2)) none; rw [sizeLine_eq]; omega, fun q hq => ?_⟩
            refine new_step hq fun H4 s4 e4 => ?_
            obtain ⟨wl, wc⟩ := splB_bound (cutS x (some (mid + 2)) none)
            rw [← ba_is] at wl wc
            have cl2 := cl (some (mid + 2)) none
            generalize Txt.split (cutS x (some (mid + 2)) none) (" | " : Str) = ws at wl wc e4 hp
            refine ⟨q, rfl, ⟨_, SqL.of e4⟩, fun D hD => ?_⟩
            refine lc_list (K := K) (a := q) (xs := ws.map V.str) (fun i H' => Same H4 H' ∧ ∃ acc, H' D = some (.lst acc) ∧ AllIn (OptAt K H') acc ((ws.take i).map numsO)) ⟨Same.new hD, [], upd_same, AllIn.nil⟩ (fun i H' _ g => SqL.of (g.1 _ _ e4)) (fun i y H5 hi g => ?_) fun H5 g => ?_
            · obtain ⟨s5, acc, g1, g2⟩ := g
              rw [List.getElem?_map] at hi
              obtain ⟨u, hu, rfl⟩ := Option.map_eq_some_iff.mp hi
              have il := (List.getElem?_eq_some_iff.mp hu).1
              have al : acc.length = i := by
                have z := g2.1
                rw [List.length_map, List.length_take] at z
                omega
              have put : ∀ (H6 : Hp) (v : V), Same H5 H6 → OptAt K H6 v (numsO u) → ∃ acc, H6 D = some (.lst acc) ∧ acc.length < sizeLine ∧ (Same H4 (upd H6 D (.lst (acc ++ [v]))) ∧ ∃ acc', (upd H6 D (.lst (acc ++ [v]))) D = some (.lst acc') ∧ AllIn (OptAt K (upd H6 D (.lst (acc ++ [v])))) acc' ((ws.take (i + 1)).map numsO)) := fun H6 v s6 hv => by
                have g6 := s6 _ _ g1
                refine ⟨acc, g6, by rw [al, sizeLine_eq]; omega, (s5.trans s6).mut hD, _, upd_same, ?_⟩
                rw [List.take_add_one, hu, List.map_append]
                exact AllIn.snoc (g2.mono fun _ _ h => (h.same s6).upd g6) (hv.upd g6)
              refine ⟨rfl, _, rfl, u, rfl, by have := wl u (List.mem_of_getElem? hu); omega, fun H6 h s => put H6 _ s (.inl ⟨h, rfl⟩), fun l p6 H6 h s hp6 => put H6 _ s (.inr ⟨l, h, p6, rfl, hp6⟩)⟩
            · obtain ⟨s5, acc, g1, g2⟩ := g
              rw [List.length_map, List.take_length] at g2
              have alen := g2.1
              rw [List.length_map] at alen
              generalize hos : ws.map numsO = os at g2 hp
              have s25 := s4.trans s5
              have sA := s2.trans s25
              refine ⟨_, _, rfl, ?_⟩
              rcases hpl with ⟨h0, rfl⟩ | ⟨l, h0, p3, rfl, hp3⟩
              · rw [h0] at hp
                exact ⟨_, rfl, rfl, _, rfl, iteT (k1 _ hp sA)⟩
              · rw [h0] at hp
                have hp5 := s25.sqT hp3
                refine ⟨_, rfl, rfl, _, rfl, iteF ⟨_, rfl, p3, _, rfl, .inr hp5, rfl, _, rfl, ?_⟩⟩
                rw [List.length_map]
                by_cases c2 : l.length = 2
                · obtain ⟨i, j', rfl⟩ : ∃ i j, l = [i, j] := by
                    match l, c2 with
                    | [i, j], _ => exact ⟨i, j, rfl⟩
                  rw [decide_eq_true (show V.int (([i, j'].length : Nat) : Int) = V.int 2 from rfl)]
                  refine iteF ⟨_, rfl, .none, os.map optR, .non, .lst (SqL.of g1) (dp_all (g := optR) (fun _ _ => dp_optR) g2), by decide +kernel, shaped_optL os, _, rfl, ?_⟩
                  rw [any_optR]
                  cases h : allO os with
                  | none =>
                    rw [decide_eq_true (allO_none.mp h)]
                    rw [h] at hp
                    exact iteT (k1 _ hp sA)
                  | some t =>
                    rw [decide_eq_false fun m => by rw [allO_none.mpr m] at h; cases h]
                    rw [h] at hp
                    rw [allO_some h] at g2
                    refine iteF ⟨_, rfl, _, rfl, D, _, rfl, .inl ⟨SqL.of g1, fun T hT => ?_⟩⟩
                    refine new_step hT fun H6 s6 e6 => ?_
                    refine ⟨by show 1 ≤ sizeLine; decide, fun t1 ht1 => ?_⟩
                    refine new_step ht1 fun H7 s7 e7 => ?_
                    have s67 := s6.trans s7
                    refine ⟨p3, t1, _, _, rfl, rfl, s67.sqT hp5, SqT.of e7, by show 3 ≤ sizeLine; decide, fun z => absurd z (by simp), fun _ z => absurd z (by simp), fun _ _ r hr2 => ?_⟩
                    refine new_step hr2 fun H8 s8 e8 => ?_
                    have s68 := s67.trans s8
                    exact k2 (.tie ((i, j'), t)) _ H8 hp (sA.trans s68) ⟨r, T, rfl, SqT.of e8, acc, (s7.trans s8).sqT (SqT.of e6), (optAt_rows g2).mono fun _ _ h => h.same s68⟩
                · rw [decide_eq_false (show ¬ V.int ((l.length : Nat) : Int) = V.int 2 from fun z => c2 (by have := V.int.inj z; omega))]
                  refine iteT (k1 _ ?_ sA)
                  rw [hp]
                  match l, c2 with
                  | [], _ => rfl
                  | [a], _ => rfl
                  | [a, b], c2 => exact absurd rfl c2
                  | a :: b :: c :: r, _ => rfl
        · rw [decide_eq_false c]
          rw [if_pos c] at hp
          exact iteT (k1 H hp (Same.refl H))
end
end Law

namespace L2
open PySem PySem.Spec PyProof.Rows
section
variable {prog : Program} {w : World} {A : Around} {E : Value → Shared → Prop} {s : Shared} {l : Addr}
theorem max_intTup {xs : Array (Int × Tok)} {Q : Value → Shared → Prop} (hh : A.handled = none) (hl : s.heap.IsTuple l (intItems xs)) (hne : 0 < xs.size)
    (h : ∀ v h' tk, (intItems xs)[argBest (fun i j => decide (numAt xs i > numAt xs j)) (xs.size - 1)]? = some v → (∀ b o, s.heap.get? b = some o → h'.get? b = some o) → Q v { s with heap := h', toks := tk }) :
    wpAny (model prog w) A (call (.builtin "max") [.ref l]) Q E s := by
  have hlt : l < s.heap.objs.size := by obtain ⟨_, e, _⟩ := hl; exact Heap.lt_size e
  refine call_max_walk (wpAny_pyIter_tuple hl ?_)
  refine ⟨_, _, _, _, _, _, _, rfl, Walks.tuple (A := A.in1) hh _ l (Nat.ne_of_lt hlt) (intItems xs), ⟨⟨_, Heap.get?_push_size _ rfl, rfl, rfl⟩, hl.push _⟩, (fun b hb => ?_), by simpa [intItems] using hne, CmpOf.ints_gt (numAt xs) (fun _ _ => intItems_at), fun v h' tk hP hk => ?_⟩
  · show b < (s.heap.push _).objs.size
    rw [Heap.size_push]
    rcases List.mem_cons.mp hb with rfl | hb
    · exact Nat.lt_succ_self _
    · rcases List.mem_cons.mp hb with rfl | hb
      · exact Nat.lt_succ_of_lt hlt
      · cases hb
  · refine h v h' tk (by simpa [intItems] using hP) fun b o e => hk b o (fun hm => ?_) (Heap.get?_push_of_some _ e)
    rcases List.mem_cons.mp hm with e1 | hm
    · exact absurd (e1 ▸ Heap.lt_size e) (Nat.lt_irrefl _)
    · cases hm
theorem max_rawT {its : List Value} {ns : List Int} {Q : Value → Shared → Prop} (hh : A.handled = none) (hl : s.heap.IsTuple l its.toArray) (hi : IntsAre its ns) (hne : 0 < ns.length)
    (h : ∀ h' tk M t', (∀ b o, s.heap.get? b = some o → h'.get? b = some o) → M ∈ ns → (∀ a, a ∈ ns → a ≤ M) → Q (.int M t') { s with heap := h', toks := tk }) : wpAny (model prog w) A (call (.builtin "max") [.ref l]) Q E s := by
  obtain ⟨xs, e⟩ := hi.allInts.items
  have hn : numsOf (intItems xs).toList = ns := by rw [← e]; exact hi.numsOf
  rw [nums_intItems] at hn
  subst hn
  rw [e] at hl
  have hsz : 0 < xs.size := by simpa using hne
  refine max_intTup hh hl hsz fun v h' tk hv hk => ?_
  obtain ⟨t, rfl⟩ := intItems_at hv
  obtain ⟨h1, h2⟩ := argBest_gt (numAt xs) (xs.size - 1)
  refine h h' tk _ t hk ?_ fun a ha => ?_
  · rw [numAt_eq]; exact PySem.getD_mem (by rw [List.length_map, Array.length_toList]; omega)
  · obtain ⟨j, hj, rfl⟩ := mem_getD ha
    rw [List.length_map, Array.length_toList] at hj
    rw [← numAt_eq]; exact h2 j (by omega)
end
/-- max(t) of a tuple of ints -/
def rMaxT (K : PySem.W.Frag) : List V → Hp → VK → Prop := fun vs H Q => ∃ (a : Addr) (ns : List Int), vs = [V.ref a] ∧ SqT K H a (ns.map V.int) ∧ 0 < ns.length ∧ ∀ m, m ∈ ns → (∀ y, y ∈ ns → y ≤ m) → Q (.int m) H
theorem cr_maxT {X : Cx} (hc : X.calm = true) : CallR X (.builtin "max") (rMaxT X.K) := by
  intro pins s σ H vs us Q I r h
  obtain ⟨a, ns, rfl, hs, hne, q⟩ := h
  obtain ⟨its, rv, hl, _⟩ := I.tuple hs
  rw [Vals.ref1 r]
  exact max_rawT (I.ok.hd hc) hl rv.ints hne fun h' tk m t' hk h1 h2 => ⟨.int _, H, I.kept hk, ⟨_, rfl⟩, q m h1 h2⟩
end L2
namespace L2
open PySem PySem.Spec PyProof.Rows TL
def rbad (cols : Int) (l : List Int) : Bool := !(decide ((l.length : Int) = cols) && l.all fun x => decide (x ≤ 1000))
theorem any_rbad (rows cols : Int) (t : List (List Int)) (h : (t.length : Int) = rows) : t.any (rbad cols) = !tabB rows cols t := by
  unfold tabB
  rw [decide_eq_true h, Bool.true_and]
  clear h
  induction t with
  | nil => rfl
  | cons a t ih => rw [List.any_cons, List.all_cons, ih, Bool.not_and] <;> rfl
theorem max_rbad {l : List Int} {mx : Int} (h1 : mx ∈ l) (h2 : ∀ y ∈ l, y ≤ mx) : decide (mx > 1000) = !(l.all fun x => decide (x ≤ 1000)) := by
  cases h : l.all fun x => decide (x ≤ 1000) with
  | true =>
    have := of_decide_eq_true (List.all_eq_true.mp h mx h1)
    exact decide_eq_false (by omega)
  | false =>
    obtain ⟨x, hx, hx2⟩ := List.all_eq_false.mp h
    have := h2 x hx
    have : ¬ x ≤ 1000 := fun z => hx2 (decide_eq_true z)
    exact decide_eq_true (by omega)
theorem lex2g (a b c d : Int) : Ob.lexAt (fun j => decide (([a, b] : List Int).getD j 0 = ([c, d] : List Int).getD j 0)) (fun j => decide (([c, d] : List Int).getD j 0 ≤ ([a, b] : List Int).getD j 0)) (decide (([c, d] : List Int).length ≤ ([a, b] : List Int).length)) 0 (min ([a, b] : List Int).length ([c, d] : List Int).length) = leP (c, d) (a, b) := by
  show Ob.lexAt _ _ _ 0 2 = _
  rw [Ob.lexAt_succ, Ob.lexAt_succ, Ob.lexAt_zero]
  show (if decide (a = c) = true then (if decide (b = d) = true then decide (2 ≤ 2) else decide (d ≤ b)) else decide (c ≤ a)) = _
  unfold leP
  by_cases h1 : a = c
  · rw [if_pos (decide_eq_true h1), if_pos h1.symm]
    by_cases h2 : b = d
    · rw [if_pos (decide_eq_true h2), decide_eq_true (show d ≤ b by omega)] <;> rfl
    · rw [if_neg (by simpa using h2)]
  · rw [if_neg (by simpa using h1), if_neg (fun z => h1 z.symm)]
theorem leP_0 {t : Int × Int} (h0 : 0 ≤ t.1) (h1 : t.1 < t.2) : leP t (0, 0) = false := by
  unfold leP
  by_cases c : t.1 = 0
  · rw [if_pos c]
    exact decide_eq_false (by omega)
  · rw [if_neg c]
    exact decide_eq_false (by omega)
theorem set_rng (M : Nat) (f : Nat → V) (j : Nat) (v : V) : ((List.range M).map f).set j v = (List.range M).map fun p => if p = j then v else f p := by
  refine List.ext_getElem? fun i => ?_
  rw [List.getElem?_set, List.length_map, List.length_range, List.getElem?_map, List.getElem?_map]
  by_cases h : j = i
  · rw [if_pos h]
    by_cases l : j < M
    · rw [if_pos l, List.getElem?_range (by omega)]
      show _ = some (if i = j then v else f i)
      rw [if_pos h.symm]
    · rw [if_neg l, List.getElem?_eq_none (by rw [List.length_range]; omega)] <;> rfl
  · rw [if_neg h]
    by_cases l : i < M
    · rw [List.getElem?_range l]
      show some (f i) = some (if i = j then v else f i)
      rw [if_neg (fun z => h z.symm)]
    · rw [List.getElem?_eq_none (by rw [List.length_range]; omega)] <;> rfl
theorem cnt_snoc {ts : List Tie} {i : Nat} {t : Tie} (h : ts[i]? = some t) (p : Int) : cntT (ts.take (i + 1)) p = cntT (ts.take i) p + if p = t.1.1 ∨ p = t.1.2 then 1 else 0 := by
  unfold cntT
  rw [filter_snoc h, List.length_append]
  congr 1
  by_cases c : p = t.1.1 ∨ p = t.1.2
  · rw [if_pos c, if_pos (by rcases c with c | c <;> simp [c])]
    rfl
  · rw [if_neg c, if_neg (fun z => c (by simpa using z))]
    rfl
theorem rep_rng (n : Nat) (x : V) : (List.replicate n [x]).flatten = (List.range n).map fun _ => x := by
  induction n with
  | zero => rfl
  | succ n ih => rw [List.replicate_succ', List.flatten_append, ih, List.range_succ, List.map_append] <;> rfl
theorem crowd_max {many : Int} {ts : List Tie} {mx : Int} (h1 : mx ∈ (List.range many.toNat).map fun p => ((cntT ts (p : Nat) : Nat) : Int)) (h2 : ∀ y ∈ (List.range many.toNat).map fun p => ((cntT ts (p : Nat) : Nat) : Int), y ≤ mx) : decide (mx > 4) = crowdB many ts := by
  unfold crowdB
  cases h : (List.range many.toNat).any fun p => decide (4 < cntT ts (p : Nat)) with
  | true =>
    obtain ⟨p, hp, hp2⟩ := List.any_eq_true.mp h
    have := h2 _ (List.mem_map.mpr ⟨p, hp, rfl⟩)
    have := of_decide_eq_true hp2
    exact decide_eq_true (by omega)
  | false =>
    obtain ⟨p, hp, rfl⟩ := List.mem_map.mp h1
    have := List.any_eq_false.mp h p hp
    have : ¬ 4 < cntT ts (p : Nat) := fun z => this (decide_eq_true z)
    exact decide_eq_false (by omega)
end L2
namespace Law
open PySem L2 TL
def wrongV : Option Part → V
  | none => .non
  | some p => partV p
/-- rows that can be looked through -/
abbrev RowsSm (t : List (List Int)) : Prop := t.length ≤ 1000001 ∧ ∀ l ∈ t, l.length ≤ 1000001 ∧ RowSm l
section
variable {P : Program} {w : World} {K : PySem.W.Frag} {mg : Str → Option Value} {base : Heap}
theorem row_or {K : PySem.W.Frag} {cols : Int} {l : List Int} {R : V → Prop} (hl : l ≠ []) (k : R (.bl (rbad cols l))) (hd : ¬ (l.length : Int) = cols → R (.bl true)) : True := trivial
def spWrongP (K : PySem.W.Frag) : Sp := fun vs H Q _ => ∃ (m : Mdl) (w t : Addr), vs = [.int m.many, .int m.levels, .ref w, .ref t] ∧ RowsAt K H w m.ws ∧ TiesAt K H t m.ts ∧ (m.ws.length : Int) = m.many ∧ RowsSm m.ws ∧ m.ts.length ≤ 1000001 ∧ (∀ t ∈ m.ts, TieSm t ∧ RowsSm t.2) ∧ ∀ H', Same H H' → Q (wrongV (wrongM m)) H'
abbrev nLawWrongPart : List Str := ["_law_many", "_law_levels", "_law_weights", "_law_ties", "_law_places", "_law_at", "_law_first", "_law_second", "_law_table", "_law_row"]
theorem scLawWrongPart : FnScope nLawWrongPart ["_law_many", "_law_levels", "_law_weights", "_law_ties"] (defScope s_law_wrong_part) := ⟨rfl, rfl, rfl, by decide +kernel, rfl, by decide +kernel, by decide +kernel⟩
theorem ok_wrong_part {f : Addr} {fd : FuncData} (F : Fun K "_law_wrong_part" "_law_wrong_part" s_law_wrong_part f fd) (T : NmA mg) : FnOk P w K mg base CX0 1 f fd ["_law_many", "_law_levels", "_law_weights", "_law_ties"] (spWrongP K) := by
  refine F.ok scLawWrongPart (fun vs H Q E h => ?_) (fun cdv A' outer s H vs Q E hr h => ?_)
  · obtain ⟨m, wa, ta, rfl, _⟩ := h
    rfl
  · obtain ⟨m, wa, ta, rfl, hW, hT, hwl, hws, tlen, hts, k⟩ := h
    have hu := hu_of hr
    refine ⟨_, pss_cons (ps_if (PW.pt (pw_or (pt_not (pt_chain op_le op_le pe_int (pv 0) pe_int)) (pw_or1 (pt_not (pt_chain op_le op_le pe_int (pv 1) pe_int)))))
        (pss_one (ps_ret (pe_ifExp (pt_not (pt_chain op_le op_le pe_int (pv 0) pe_int)) pe_str pe_str))) pss_nil)
      (pss_cons (ps_if (pt_val (pe_callB (cr_any rfl) (by rfl) T.any (by decide +kernel) (pa_cons (pe_lc (own := [("_law_row", 9)]) (g := (gName 9)) (tt := tYes) rfl scLawWrongPart.nd  (pi_tup (pv 2)) (blkOk_by (own := [("_law_row", 9)]) (N := nLawWrongPart) (sc := defScope s_law_wrong_part) (by decide +kernel)) (fun _ _ _ _ _ => (pg_name (i := 9) scLawWrongPart.nd rfl (Or.inl rfl))) (fun _ _ _ _ _ => pts_nil) (fun _ _ _ _ _ => (pe_or (pe_cmpR op_ne (pe_callB (r := rLenK K) (show CallR _ (.builtin "len") (rLenK K) from call_len_seq) (by rfl) T.len PySem.boot_len (pa_cons (pv 9) pa_nil)) (pv 1) (nomark _)) (pe_one (pe_cmpR op_gt (pe_callB (r := rMaxT K) (show CallR _ (.builtin "max") (rMaxT K) from cr_maxT rfl) (by rfl) T.max (by decide +kernel) (pa_cons (pv 9) pa_nil)) pe_int (nomark _)))))) pa_nil)))
        (pss_one (ps_ret pe_str)) pss_nil)
      (pss_cons (ps_set (i := 4) scLawWrongPart.nd rfl (Or.inl rfl) (pe_op op_rep (pe_lst (pa_cons pe_int pa_nil)) (pv 0)))
      (pss_cons (ps_for PassesOwn.never rfl (pi_range1 (by rfl) T.range (pa_cons (pe_callB call_len_seq (by rfl) T.len PySem.boot_len (pa_cons (pv 3) pa_nil)) pa_nil)) (pg_name (i := 5) scLawWrongPart.nd rfl (Or.inl rfl))
        (pss_cons (ps_asg (pe_ix ix_tup (pv 3) (pv 5) (fun _ _ => rfl)) (pg_tup (by rfl) (pgs_cons (pg_name (i := 6) scLawWrongPart.nd rfl (Or.inl rfl)) (pgs_cons (pg_name (i := 7) scLawWrongPart.nd rfl (Or.inl rfl)) (pgs_cons (pg_name (i := 8) scLawWrongPart.nd rfl (Or.inl rfl)) pgs_nil)))))
        (pss_cons (ps_if (PW.pt (pw_or (pt_not (pt_chain op_lt op_lt (pv 6) (pv 7) (pv 0))) (pw_or (pt_cmpR op_ne (pe_callB call_len_seq (by rfl) T.len PySem.boot_len (pa_cons (pv 8) pa_nil)) (pv 1) (nomark _)) (pw_or1 (pt_val (pe_callB (cr_any rfl) (by rfl) T.any (by decide +kernel) (pa_cons (pe_lc (own := [("_law_row", 9)]) (g := (gName 9)) (tt := tYes) rfl scLawWrongPart.nd  (pi_tup (pv 8)) (blkOk_by (own := [("_law_row", 9)]) (N := nLawWrongPart) (sc := defScope s_law_wrong_part) (by decide +kernel)) (fun _ _ _ _ _ => (pg_name (i := 9) scLawWrongPart.nd rfl (Or.inl rfl))) (fun _ _ _ _ _ => pts_nil) (fun _ _ _ _ _ => (pe_or (pe_cmpR op_ne (pe_callB (r := rLenK K) (show CallR _ (.builtin "len") (rLenK K) from call_len_seq) (by rfl) T.len PySem.boot_len (pa_cons (pv 9) pa_nil)) (pv 1) (nomark _)) (pe_one (pe_cmpR op_gt (pe_callB (r := rMaxT K) (show CallR _ (.builtin "max") (rMaxT K) from cr_maxT rfl) (by rfl) T.max (by decide +kernel) (pa_cons (pv 9) pa_nil)) pe_int (nomark _)))))) pa_nil)))))))
          (pss_one (ps_ret (pv 5))) pss_nil)
        (Evl.pss_cut (ps_if (PW.pt (pw_and (pt_cmpR op_gt (pv 5) pe_int (nomark _)) (pw_and1 (pt_cmpR (op_geT (Nat.lt_of_le_of_lt (Nat.le_add_right _ 64) hr.units)) (pe_slice sl_tupA (pe_ix ix_tup (pv 3) (pe_op op_sub (pv 5) pe_int) (fun _ _ => rfl)) po_none (po_some pe_int)) (pe_tup (pa_cons (pv 6) (pa_cons (pv 7) pa_nil))) (nomark _)))))
          (pss_one (ps_ret (pv 5))) pss_nil)
        (pss_one (ps_asg (pe_tup (pa_cons (pe_op op_add (pe_ix ix_list (pv 4) (pv 6) (fun _ _ => rfl)) pe_int) (pa_cons (pe_op op_add (pe_ix ix_list (pv 4) (pv 7) (fun _ _ => rfl)) pe_int) pa_nil))) (pg_tup (by rfl) (pgs_cons (pg_sub (pv 4) (pv 6) set_list) (pgs_cons (pg_sub (pv 4) (pv 7) set_list) pgs_nil)))))))))
      (pss_one (ps_ret (pe_ifExp (pt_cmpR op_gt (pe_callB (cr_max rfl) (by rfl) T.max (by decide +kernel) (pa_cons (pv 4) pa_nil)) pe_int (nomark _)) pe_str pe_non)))))), ?_⟩
    obtain ⟨wvs, hWV, hWA⟩ := hW
    obtain ⟨tvs, hTV, hTA⟩ := id hT
    have wvl := hWA.1
    have tvl := hTA.1
    have wr : wrongM m = if ¬ (1 ≤ m.many ∧ m.many ≤ 12) then some (.inl "many") else if ¬ (1 ≤ m.levels ∧ m.levels ≤ 4) then some (.inl "levels") else if tabB m.many m.levels m.ws = false then some (.inl "weights") else
      match badT m.many m.levels m.ts with
      | some i => some (.inr i)
      | none => if crowdB m.many m.ts = true then some (.inl "crowded") else none := rfl
    have put : ∀ (p : Option Part) H', wrongM m = p → Same H H' → Q (wrongV p) H' := fun p H' e s => by
      rw [← e]
      exact k H' s
    have rows : ∀ (cols : Int) (H1 : Hp) (a : Addr) (vs : List V) (t : List (List Int)) (Qd : V → Hp → Prop), True := fun _ _ _ _ _ _ => trivial
    refine ⟨_, rfl, _, _, rfl, rfl, _, rfl, ?_⟩
    by_cases a1 : 1 ≤ m.many
    · rw [decide_eq_true a1]
      refine iteT ⟨_, _, rfl, rfl, _, rfl, ?_⟩
      by_cases a2 : m.many ≤ 12
      · rw [decide_eq_true a2]
        rw [if_neg (fun z => z ⟨a1, a2⟩)] at wr
        refine iteF ⟨_, rfl, _, _, rfl, rfl, _, rfl, ?_⟩
        by_cases b1 : 1 ≤ m.levels
        · rw [decide_eq_true b1]
          refine iteT ⟨_, _, rfl, rfl, _, rfl, ?_⟩
          by_cases b2 : m.levels ≤ 4
          · rw [decide_eq_true b2]
            rw [if_neg (fun z => z ⟨b1, b2⟩)] at wr
            refine iteF ⟨_, rfl, wa, rfl, ⟨_, hWV⟩, fun D hD => ?_⟩
            refine lc_tup (K := K) (a := wa) (xs := wvs) (fun i H' => Same H H' ∧ H' D = some (.lst (((m.ws.take i).map (rbad m.levels)).map V.bl))) ⟨Same.new hD, upd_same⟩ (fun i H' _ h => h.1.sqT hWV) (fun i x H1 hi g => ?_) fun H1 g => ?_
            · obtain ⟨s1, g1⟩ := g
              obtain ⟨l, hl, a, rfl, ha⟩ := hWA.2 i x hi
              obtain ⟨l1, l2, l3⟩ := hws.2 l (List.mem_of_getElem? hl)
              have il := (List.getElem?_eq_some_iff.mp hl).1
              have ha' := s1.sqT ha
              have pt : ∀ b, b = rbad m.levels l → ∃ acc, H1 D = some (.lst acc) ∧ acc.length < sizeLine ∧ (Same H (upd H1 D (.lst (acc ++ [.bl b]))) ∧ (upd H1 D (.lst (acc ++ [.bl b]))) D = some (.lst (((m.ws.take (i + 1)).map (rbad m.levels)).map V.bl))) := fun b hb => by
                refine ⟨_, g1, ?_, s1.mut hD, ?_⟩
                · have := hws.1
                  rw [List.length_map, List.length_map, List.length_take, sizeLine_eq]
                  omega
                · rw [upd_same, List.take_add_one, hl, List.map_append, List.map_append, hb] <;> rfl
              refine ⟨rfl, _, rfl, a, _, rfl, .inr ha', _, rfl, rfl, _, rfl, ?_⟩
              have ed : decide (V.int (((l.map V.int).length : Nat) : Int) = V.int m.levels) = decide ((l.length : Int) = m.levels) := by
                rw [List.length_map]
                exact decide_eq_decide.mpr ⟨fun z => V.int.inj z, fun z => by rw [z]⟩
              rw [ed]
              cases c2 : decide ((l.length : Int) = m.levels) with
              | false =>
                exact iteT (pt true (by unfold rbad; rw [c2] <;> rfl))
              | true =>
                refine iteF ⟨_, rfl, a, l, rfl, ha', List.length_pos_iff.mpr l2, fun mx h1 h2 => ⟨_, _, rfl, rfl, ?_⟩⟩
                exact pt _ (by unfold rbad; rw [c2, Bool.true_and, ← max_rbad h1 h2])
            · obtain ⟨s1, g1⟩ := g
              rw [wvl, List.take_length] at g1
              refine ⟨D, _, rfl, SqL.of g1, _, rfl, ?_⟩
              rw [any_take, any_rbad _ _ _ hwl]
              cases c3 : tabB m.many m.levels m.ws with
              | false =>
                rw [if_pos c3] at wr
                exact iteT (put (some (.inl "weights")) H1 wr s1)
              | true =>
                rw [if_neg (by rw [c3]; exact Bool.noConfusion)] at wr
                refine iteF ⟨by show 1 ≤ sizeLine; decide, fun Z hZ => ?_⟩
                refine new_step hZ fun H2 s2 e2 => ?_
                refine ⟨_, rfl, Z, m.many, [.int 0], rfl, rfl, e2, by omega, by omega, by show 1 * _ ≤ _; rw [sizeLine_eq]; omega, fun L hL => ?_⟩
                refine new_step hL fun H3 s3 e3 => ?_
                rw [rep_rng] at e3
                have s13 := (s1.trans s2).trans s3
                have hLH : H L = none := (s1.trans s2).free hL
                generalize hM : m.many.toNat = M at e3
                refine ⟨_, rfl, ta, _, rfl, .inr (s13.sqT hTV), _, rfl, by omega, by omega, ?_⟩
                rw [tvl, Int.toNat_natCast]
                refine for_range (lo := 0) (n := m.ts.length) (fun i σ H' => Same H H' ∧ H' L = some (.lst ((List.range M).map fun p => V.int ((cntT (m.ts.take i) (p : Nat) : Nat) : Int))) ∧ (∀ j, j < i → gT m.many m.levels m.ts j = true) ∧ ∃ u1 u2 u3 u4 : Option V, σ = [some (.int m.many), some (.int m.levels), some (.ref wa), some (.ref ta), some (.ref L), u1, u2, u3, u4, none]) ⟨s13, e3, fun j hj => absurd hj (Nat.not_lt_zero _), _, _, _, _, rfl⟩ ?_ ?_
                · rintro i σ H4 hi ⟨s4, gL, gd, u1, u2, u3, u4, rfl⟩
                  obtain ⟨y, hy⟩ : ∃ y, tvs[i]? = some y := ⟨_, List.getElem?_eq_getElem (by rw [tvl]; exact hi)⟩
                  obtain ⟨t, hti, a, b, rfl, ha, rvs, hRV, hRA⟩ := hTA.2 i y hy
                  have rvl := hRA.1
                  obtain ⟨⟨p0, p1, t0, t1⟩, rs⟩ := hts t (List.mem_of_getElem? hti)
                  have ha4 := s4.sqT ha
                  rw [Int.zero_add]
                  have gi : gT m.many m.levels m.ts i = (tieB m.many m.levels t && !leP t.1 (lastP m.ts i)) := by
                    unfold gT
                    rw [hti]
                  have bad : ∀ H', Same H H' → gT m.many m.levels m.ts i = false → Q (.int (i : Nat)) H' := fun H' s g => by
                    have bm : badT m.many m.levels m.ts = some i := rng_some hi g gd
                    rw [bm] at wr
                    exact put (some (.inr i)) H' wr s
                  refine ⟨_, rfl, _, rfl, ta, _, _, .ref a, rfl, rfl, s4.sqT hTV, atI_nat hy, a, _, rfl, ha4, rfl, _, _, rfl, _, _, rfl, _, _, rfl, rfl, ?_⟩
                  refine ⟨_, rfl, _, rfl, _, _, rfl, rfl, _, rfl, ?_⟩
                  unfold tieB at gi
                  by_cases d1 : t.1.1 < t.1.2
                  · rw [decide_eq_true d1]
                    rw [decide_eq_true d1, Bool.true_and] at gi
                    refine iteT ⟨_, rfl, _, _, rfl, rfl, _, rfl, ?_⟩
                    by_cases d2 : t.1.2 < m.many
                    · rw [decide_eq_true d2]
                      rw [decide_eq_true d2, Bool.true_and] at gi
                      have hRV4 := s4.sqT hRV
                      refine iteF ⟨_, rfl, b, _, rfl, .inr hRV4, _, rfl, rfl, _, rfl, ?_⟩
                      have ed : decide (V.int ((rvs.length : Nat) : Int) = V.int m.levels) = decide ((t.2.length : Int) = m.levels) := by
                        rw [rvl]
                        exact decide_eq_decide.mpr ⟨fun z => V.int.inj z, fun z => by rw [z]⟩
                      rw [ed]
                      by_cases d3 : (t.2.length : Int) = m.levels
                      · rw [decide_eq_true d3]
                        refine iteF ⟨_, rfl, b, rfl, ⟨_, hRV4⟩, fun D2 hD2 => ?_⟩
                        refine lc_tup (K := K) (a := b) (xs := rvs) (fun i H' => Same H4 H' ∧ H' D2 = some (.lst (((t.2.take i).map (rbad m.levels)).map V.bl))) ⟨Same.new hD2, upd_same⟩ (fun i H' _ h => h.1.sqT hRV4) (fun j x H5 hj g => ?_) fun H5 g => ?_
                        · obtain ⟨s5, g5⟩ := g
                          obtain ⟨l, hl, c, rfl, hc⟩ := hRA.2 j x hj
                          obtain ⟨l1, l2, l3⟩ := rs.2 l (List.mem_of_getElem? hl)
                          have il := (List.getElem?_eq_some_iff.mp hl).1
                          have hc' := (s4.trans s5).sqT hc
                          have pt : ∀ b, b = rbad m.levels l → ∃ acc, H5 D2 = some (.lst acc) ∧ acc.length < sizeLine ∧ (Same H4 (upd H5 D2 (.lst (acc ++ [.bl b]))) ∧ (upd H5 D2 (.lst (acc ++ [.bl b]))) D2 = some (.lst (((t.2.take (j + 1)).map (rbad m.levels)).map V.bl))) := fun b hb => by
                            refine ⟨_, g5, ?_, s5.mut hD2, ?_⟩
                            · have := rs.1
                              rw [List.length_map, List.length_map, List.length_take, sizeLine_eq]
                              omega
                            · rw [upd_same, List.take_add_one, hl, List.map_append, List.map_append, hb] <;> rfl
                          refine ⟨rfl, _, rfl, c, _, rfl, .inr hc', _, rfl, rfl, _, rfl, ?_⟩
                          have ed : decide (V.int (((l.map V.int).length : Nat) : Int) = V.int m.levels) = decide ((l.length : Int) = m.levels) := by
                            rw [List.length_map]
                            exact decide_eq_decide.mpr ⟨fun z => V.int.inj z, fun z => by rw [z]⟩
                          rw [ed]
                          cases c2 : decide ((l.length : Int) = m.levels) with
                          | false =>
                            exact iteT (pt true (by unfold rbad; rw [c2] <;> rfl))
                          | true =>
                            refine iteF ⟨_, rfl, c, l, rfl, hc', List.length_pos_iff.mpr l2, fun mx h1 h2 => ⟨_, _, rfl, rfl, ?_⟩⟩
                            exact pt _ (by unfold rbad; rw [c2, Bool.true_and, ← max_rbad h1 h2])
                        · obtain ⟨s5, g5⟩ := g
                          rw [rvl, List.take_length] at g5
                          have s45 := s4.trans s5
                          refine ⟨D2, _, rfl, SqL.of g5, _, rfl, ?_⟩
                          rw [any_take, any_rbad _ _ _ d3]
                          cases d4 : tabB m.levels m.levels t.2 with
                          | false =>
                            rw [d4, Bool.false_and] at gi
                            exact iteT ⟨_, rfl, bad H5 s45 gi⟩
                          | true =>
                            rw [d4, Bool.true_and] at gi
                            have gL5 := s5 _ _ gL
                            refine iteF ⟨fun σ' H' => Same H H' ∧ H' L = some (.lst ((List.range M).map fun p => V.int ((cntT (m.ts.take i) (p : Nat) : Nat) : Int))) ∧ gT m.many m.levels m.ts i = true ∧ σ' = [some (.int m.many), some (.int m.levels), some (.ref wa), some (.ref ta), some (.ref L), some (.int (i : Nat)), some (.int t.1.1), some (.int t.1.2), some (.ref b), none], ⟨_, rfl, _, _, rfl, rfl, _, rfl, ?_⟩, ?_⟩
                            rotate_left
                            · rintro σ' H6 ⟨s6, g6, gt, rfl⟩
                              obtain ⟨na, hna⟩ := Int.eq_ofNat_of_zero_le p0.1
                              obtain ⟨nb, hnb⟩ := Int.eq_ofNat_of_zero_le p1.1
                              have nM : na < M := by omega
                              have nM2 : nb < M := by omega
                              have ab : na < nb := by omega
                              rw [hna, hnb]
                              have at1 : ((List.range M).map fun p => V.int ((cntT (m.ts.take i) (p : Nat) : Nat) : Int))[na]? = some (V.int ((cntT (m.ts.take i) (na : Nat) : Nat) : Int)) := by rw [List.getElem?_map, List.getElem?_range nM] <;> rfl
                              have at2 : ((List.range M).map fun p => V.int ((cntT (m.ts.take i) (p : Nat) : Nat) : Int))[nb]? = some (V.int ((cntT (m.ts.take i) (nb : Nat) : Nat) : Int)) := by rw [List.getElem?_map, List.getElem?_range nM2] <;> rfl
                              refine ⟨_, rfl, _, rfl, L, _, _, _, rfl, rfl, SqL.of g6, atI_nat at1, _, _, rfl, rfl, _, rfl, _, rfl, L, _, _, _, rfl, rfl, SqL.of g6, atI_nat at2, _, _, rfl, rfl, by show 2 ≤ sizeLine; decide, fun q hq => ?_⟩
                              have g7 := (Same.new (o := .tup [.int (((cntT (m.ts.take i) (na : Nat) : Nat) : Int) + 1), .int (((cntT (m.ts.take i) (nb : Nat) : Nat) : Int) + 1)]) hq) _ _ g6
                              have ix : ∀ (xs : List V) (n : Nat), xs.length = M → n < M → ixN xs.length (n : Int) = some n := fun xs n h1 h2 => Evl.ixN_nat (by omega)
                              refine ⟨q, _, rfl, SqT.of upd_same, rfl, _, _, rfl, ⟨_, rfl, _, rfl, L, _, _, na, rfl, rfl, g7, ix _ _ (by rw [List.length_map, List.length_range]) nM, _, _, rfl, ⟨_, rfl, _, rfl, L, _, _, nb, rfl, rfl, upd_same, ix _ _ (by rw [List.length_set, List.length_map, List.length_range]) nM2, rfl, ?_⟩⟩⟩
                              rw [upd_upd]
                              refine ⟨(s6.trans (Same.new hq)).mut hLH, ?_, fun j hj => ?_, _, _, _, _, rfl⟩
                              · rw [upd_same, set_rng, set_rng]
                                refine congrArg (fun l => some (HO.lst l)) (List.map_congr_left fun p _ => ?_)
                                show (if p = nb then _ else if p = na then _ else _) = V.int _
                                rw [cnt_snoc hti (p : Int), hna, hnb]
                                by_cases e1 : p = nb
                                · subst e1
                                  rw [if_pos rfl, if_pos (.inr rfl)] <;> rfl
                                · by_cases e2 : p = na
                                  · subst e2
                                    rw [if_neg e1, if_pos rfl, if_pos (.inl rfl)] <;> rfl
                                  · rw [if_neg e1, if_neg e2, if_neg (by rintro (z | z) <;> omega)] <;> rfl
                              · by_cases z : j < i
                                · exact gd j z
                                · rw [show j = i by omega]
                                  exact gt
                            by_cases i0 : 0 < i
                            · obtain ⟨i', rfl⟩ : ∃ i', i = i' + 1 := ⟨i - 1, by omega⟩
                              obtain ⟨y', hy'⟩ : ∃ y, tvs[i']? = some y := ⟨_, List.getElem?_eq_getElem (by rw [tvl]; omega)⟩
                              obtain ⟨t', hti', a', b', rfl, ha', _⟩ := hTA.2 i' y' hy'
                              have lp : lastP m.ts (i' + 1) = t'.1 := by
                                unfold lastP
                                rw [if_neg (Nat.succ_ne_zero i'), Nat.add_sub_cancel, hti']
                              rw [lp] at gi
                              rw [decide_eq_true (show (((i' + 1 : Nat) : Int)) > 0 by omega)]
                              refine iteT ?_
                              unfold tNoPart
                              refine ⟨_, rfl, _, rfl, _, _, rfl, rfl, ta, _, ((i' : Nat) : Int), .ref a', rfl, congrArg V.int (by omega), s45.sqT hTV, atI_nat hy', 2, rfl, a', _, rfl, s45.sqT ha', fun z => absurd z.2 (by show ¬ HT.sIx 3 3 (some 2) = 3; decide), fun _ q hq => ?_⟩
                              rw [cut2]
                              refine new_step hq fun H6 s6 e6 => ?_
                              refine ⟨_, rfl, _, rfl, by show 2 ≤ sizeLine; decide, fun q2 hq2 => ?_⟩
                              refine new_step hq2 fun H7 s7 e7 => ?_
                              refine ⟨q, q2, [t'.1.1, t'.1.2], [t.1.1, t.1.2], rfl, rfl, s7.sqT (SqT.of e6), SqT.of e7, _, rfl, ?_⟩
                              rw [lex2g]
                              have s47 := (s45.trans s6).trans s7
                              cases d5 : leP t.1 t'.1 with
                              | true =>
                                rw [d5] at gi
                                exact iteT ⟨_, rfl, bad H7 s47 gi⟩
                              | false =>
                                rw [d5] at gi
                                have gL7 := s7 _ _ (s6 _ _ gL5)
                                exact iteF ⟨s47, gL7, gi, rfl⟩
                            · have i0' : i = 0 := by omega
                              subst i0'
                              rw [show lastP m.ts 0 = (0, 0) from rfl, leP_0 p0.1 d1] at gi
                              exact iteF ⟨s45, gL5, gi, rfl⟩
                      · rw [decide_eq_false d3]
                        have : tabB m.levels m.levels t.2 = false := by unfold tabB; rw [decide_eq_false d3, Bool.false_and]
                        rw [this, Bool.false_and] at gi
                        exact iteT ⟨_, rfl, bad H4 s4 gi⟩
                    · rw [decide_eq_false d2]
                      rw [decide_eq_false d2, Bool.false_and, Bool.false_and] at gi
                      exact iteT ⟨_, rfl, bad H4 s4 gi⟩
                  · rw [decide_eq_false d1]
                    rw [decide_eq_false d1, Bool.false_and, Bool.and_false, Bool.false_and] at gi
                    exact iteF ⟨_, rfl, iteT ⟨_, rfl, bad H4 s4 gi⟩⟩
                · rintro σ H4 ⟨s4, gL, gd, u1, u2, u3, u4, rfl⟩
                  have bm : badT m.many m.levels m.ts = none := rng_none fun j hj => gd j hj
                  rw [bm] at wr
                  change wrongM m = (if crowdB m.many m.ts = true then some (.inl "crowded") else none) at wr
                  rw [List.take_length] at gL
                  have gL : H4 L = some (.lst (((List.range m.many.toNat).map fun p => ((cntT m.ts (p : Nat) : Nat) : Int)).map V.int)) := by rw [hM, List.map_map]; exact gL
                  refine ⟨_, rfl, L, _, rfl, SqL.of gL, by rw [List.length_map, List.length_range]; omega, fun mx h1 h2 => ⟨_, _, rfl, rfl, _, rfl, ?_⟩⟩
                  rw [crowd_max h1 h2]
                  cases hc : crowdB m.many m.ts with
                  | true =>
                    rw [if_pos hc] at wr
                    exact iteT (put (some (.inl "crowded")) H4 wr s4)
                  | false =>
                    rw [if_neg (by rw [hc]; exact Bool.noConfusion)] at wr
                    exact iteF (put none H4 wr s4)
          · rw [decide_eq_false b2]
            rw [if_pos (fun z => b2 z.2)] at wr
            refine iteT ⟨_, rfl, _, _, rfl, rfl, _, rfl, ?_⟩
            rw [decide_eq_true a1]
            refine iteT ⟨_, _, rfl, rfl, _, rfl, ?_⟩
            rw [decide_eq_true a2]
            exact iteF (put (some (.inl "levels")) H wr (Same.refl H))
        · rw [decide_eq_false b1]
          rw [if_pos (fun z => b1 z.1)] at wr
          refine iteF ⟨_, rfl, iteT ⟨_, rfl, _, _, rfl, rfl, _, rfl, ?_⟩⟩
          rw [decide_eq_true a1]
          refine iteT ⟨_, _, rfl, rfl, _, rfl, ?_⟩
          rw [decide_eq_true a2]
          exact iteF (put (some (.inl "levels")) H wr (Same.refl H))
      · rw [decide_eq_false a2]
        rw [if_pos (fun z => a2 z.2)] at wr
        refine iteT ⟨_, rfl, _, _, rfl, rfl, _, rfl, ?_⟩
        rw [decide_eq_true a1]
        refine iteT ⟨_, _, rfl, rfl, _, rfl, ?_⟩
        rw [decide_eq_false a2]
        exact iteT (put (some (.inl "many")) H wr (Same.refl H))
    · rw [decide_eq_false a1]
      rw [if_pos (fun z => a1 z.1)] at wr
      refine iteF ⟨_, rfl, iteT ⟨_, rfl, _, _, rfl, rfl, _, rfl, ?_⟩⟩
      rw [decide_eq_false a1]
      exact iteF ⟨_, rfl, iteT (put (some (.inl "many")) H wr (Same.refl H))⟩
end
end Law

namespace L2
open PySem PySem.Spec PyProof.Rows TL
theorem at_last {α : Type} {xs : List α} {v : α} (h : xs.getLast? = some v) : atI xs (-1) = some v := by
  obtain ⟨ys, rfl⟩ := List.getLast?_eq_some_iff.mp h
  unfold atI
  rw [show ixN (ys ++ [v]).length (-1) = some ys.length by unfold ixN; rw [List.length_append]; simp; omega]
  show (ys ++ [v])[ys.length]? = some v
  rw [List.getElem?_append_right (Nat.le_refl _), Nat.sub_self] <;> rfl
end L2
namespace Law
open PySem L2 TL
def mdK (many levels : Int) (w t : Addr) : List (Key × V) := [(Sum.inr ("many" : Str), .int many), (Sum.inr ("levels" : Str), .int levels), (Sum.inr ("weights" : Str), .ref w), (Sum.inr ("ties" : Str), .ref t)]
theorem k_ML : ¬ ((Sum.inr ("many" : Str) : Key) = Sum.inr ("levels" : Str)) := sne (by decide +kernel)
theorem k_MW : ¬ ((Sum.inr ("many" : Str) : Key) = Sum.inr ("weights" : Str)) := sne (by decide +kernel)
theorem k_MT : ¬ ((Sum.inr ("many" : Str) : Key) = Sum.inr ("ties" : Str)) := sne (by decide +kernel)
theorem k_LW : ¬ ((Sum.inr ("levels" : Str) : Key) = Sum.inr ("weights" : Str)) := sne (by decide +kernel)
theorem k_LT : ¬ ((Sum.inr ("levels" : Str) : Key) = Sum.inr ("ties" : Str)) := sne (by decide +kernel)
theorem k_WT : ¬ ((Sum.inr ("weights" : Str) : Key) = Sum.inr ("ties" : Str)) := sne (by decide +kernel)
section
variable (m l : Int) (w t : Addr)
theorem gv_m : valV (mdK m l w t) (Sum.inr ("many" : Str)) = some (.int m) := valV_pos rfl
theorem gv_l : valV (mdK m l w t) (Sum.inr ("levels" : Str)) = some (.int l) := (valV_neg k_ML).trans (valV_pos rfl)
theorem gv_w : valV (mdK m l w t) (Sum.inr ("weights" : Str)) = some (.ref w) := (valV_neg k_MW).trans ((valV_neg k_LW).trans (valV_pos rfl))
theorem gv_t : valV (mdK m l w t) (Sum.inr ("ties" : Str)) = some (.ref t) := (valV_neg k_MT).trans ((valV_neg k_LT).trans ((valV_neg k_WT).trans (valV_pos rfl)))
end
section
variable {H : Hp} {p w t : Addr} {m l : Int} (h : H p = some (.dK (mdK m l w t)))
include h
theorem gd_m : DGet H p (.str "many") (some (.int m)) := by
  have q := DGet.k (k := Sum.inr ("many" : Str)) h
  rw [gv_m] at q
  exact q
theorem gd_l : DGet H p (.str "levels") (some (.int l)) := by
  have q := DGet.k (k := Sum.inr ("levels" : Str)) h
  rw [gv_l] at q
  exact q
theorem gd_w : DGet H p (.str "weights") (some (.ref w)) := by
  have q := DGet.k (k := Sum.inr ("weights" : Str)) h
  rw [gv_w] at q
  exact q
theorem gd_t : DGet H p (.str "ties") (some (.ref t)) := by
  have q := DGet.k (k := Sum.inr ("ties" : Str)) h
  rw [gv_t] at q
  exact q
end
theorem md_keys (m l : Int) (w t : Addr) : ((mdK m l w t).map (·.1)).Nodup := by
  show ([Sum.inr ("many" : Str), Sum.inr ("levels" : Str), Sum.inr ("weights" : Str), Sum.inr ("ties" : Str)] : List Key).Nodup
  simp only [List.nodup_cons, List.mem_cons, List.not_mem_nil, or_false, not_or, k_ML, k_MW, k_MT, k_LW, k_LT, k_WT, not_false_eq_true, and_self, List.nodup_nil]
/-- a dict of a model's parts -/
def DicAt (K : PySem.W.Frag) (H : Hp) (d : Addr) (m : Mdl) : Prop := ∃ w t, H d = some (.dK (mdK m.many m.levels w t)) ∧ RowsAt K H w m.ws ∧ TiesAt K H t m.ts
theorem DicAt.same {K : PySem.W.Frag} {H H' : Hp} {d : Addr} {m : Mdl} (s : Same H H') (h : DicAt K H d m) : DicAt K H' d m := by
  obtain ⟨w, t, h1, h2, h3⟩ := h
  exact ⟨w, t, s _ _ h1, h2.same s, h3.same s⟩
def DueAt (K : PySem.W.Frag) (H : Hp) (a : Addr) : OutM → Prop
  | .line n => SqT K H a [.str "line", .int (n : Int)]
  | .part p => SqT K H a [.str "part", partV p]
  | .told m => ∃ d, SqT K H a [.str "told", .ref d] ∧ DicAt K H d m
theorem cut_midV {xs : List V} {n k : Nat} (h : n + k ≤ xs.length) : cutV xs (some (n : Int)) (some ((n + k : Nat) : Int)) = (xs.drop n).take k := by
  unfold cutV
  show (xs.drop (HT.sIx xs.length 0 (some (n : Int)))).take (HT.sIx xs.length xs.length (some ((n + k : Nat) : Int)) - HT.sIx xs.length 0 (some (n : Int))) = _
  rw [HT.sIx_nat, HT.sIx_nat, Nat.min_eq_left (show n ≤ xs.length by omega), Nat.min_eq_left (show n + k ≤ xs.length from h), Nat.add_sub_cancel_left]
section
variable {P : Program} {w : World} {K : PySem.W.Frag} {mg : Str → Option Value} {base : Heap}
def spDue (K : PySem.W.Frag) : Sp := fun vs H Q _ => ∃ v, vs = [v] ∧ ((∃ t : Str, v = .str t ∧ t.length ≤ 100000 ∧ ∀ a H', Same H H' → DueAt K H' a (readM (Txt.split t ⟨#[10]⟩)) → Q (.ref a) H') ∨
  (∃ ty, TyX K H v ty ∧ PySem.W.kitOne K ty (.type "str") = some false ∧ ∀ a H', Same H H' → DueAt K H' a (.line 0) → Q (.ref a) H'))
abbrev nLawDue : List Str := ["_law_text_here", "_law_lines", "_law_told", "_law_at", "_law_found", "_law_many", "_law_levels", "_law_weights", "_law_ties", "_law_part"]
theorem scLawDue : FnScope nLawDue ["_law_text_here"] (defScope s_law_due) := ⟨rfl, rfl, rfl, by decide +kernel, rfl, by decide +kernel, by decide +kernel⟩
theorem ok_due {f : Addr} {fd : FuncData} {fcLineL : Addr} {fdcLineL : FuncData} {fcWrongP : Addr} {fdcWrongP : FuncData} (F : Fun K "_law_due" "_law_due" s_law_due f fd) (T : NmA mg) (cLineL : Cl P w K mg base CX0 3 "_law_line" fcLineL fdcLineL ["_law_line_here", "_law_at", "_law_many"] (spLineL K)) (cWrongP : Cl P w K mg base CX0 1 "_law_wrong_part" fcWrongP fdcWrongP ["_law_many", "_law_levels", "_law_weights", "_law_ties"] (spWrongP K)) : FnOk P w K mg base CX0 4 f fd ["_law_text_here"] (spDue K) := by
  refine F.ok scLawDue (fun vs H Q E h => ?_) (fun cdv A' outer s H vs Q E hr h => ?_)
  · obtain ⟨v, rfl, _⟩ := h
    rfl
  · obtain ⟨v, rfl, h⟩ := h
    have hu := hu_of hr
    refine ⟨_, pss_cons (ps_if (pt_not (pt_val (pe_callB call_isi (by rfl) T.isi (by decide +kernel) (pa_cons (pv 0) (pa_cons (pe_bltn (v := .ty "str") (u := .type "str") (by rfl) T.str (by decide +kernel) rfl) pa_nil)))))
        (pss_one (ps_ret (pe_tup (pa_cons pe_str (pa_cons pe_int pa_nil))))) pss_nil)
      (pss_cons (ps_par (i := 1) (j := 2) (by rfl) scLawDue.nd rfl rfl (by decide) rfl rfl (pa_cons (pe_m1 PySem.F.slot_str_split PySem.F.type_str_split mt_split (pv 0) pe_str) (pa_cons (pe_lst pa_nil) pa_nil)) (by rfl))
      (pss_cons (ps_for PassesOwn.never rfl (pi_range1 (by rfl) T.range (pa_cons (pe_op op_sub (pe_callB call_len_seq (by rfl) T.len PySem.boot_len (pa_cons (pv 1) pa_nil)) pe_int) pa_nil)) (pg_name (i := 3) scLawDue.nd rfl (Or.inl rfl))
        (pss_cons (ps_set (i := 4) scLawDue.nd rfl (Or.inl rfl) (cLineL.call (hr.mono (by decide)) (pa_cons (pe_ix ix_list (pv 1) (pv 3) (fun _ _ => rfl)) (pa_cons (pv 3) (pa_cons (pe_ifExp (pt_cmpR op_gt (pv 3) pe_int (nomark _)) (pe_ix ix_list (pv 2) pe_int (fun _ _ => rfl)) pe_int) pa_nil)))))
        (pss_cons (ps_if (pt_cmpR op_isN (pv 4) pe_non (nomark _))
          (pss_one (ps_ret (pe_tup (pa_cons pe_str (pa_cons (pe_op op_add (pv 3) pe_int) pa_nil))))) pss_nil)
        (pss_one (ps_expr (pe_bm PySem.F.plainAttrs_list PySem.F.slot_list_append PySem.F.type_list_append mt_append (pv 2) (pa_cons (pv 4) pa_nil)))))))
      (pss_cons (ps_if (PW.pt (pw_or (pt_cmpR op_ne (pe_ix ix_list (pv 1) (pe_un un_neg pe_int) (fun _ _ => rfl)) pe_str (nomark _)) (pw_or (pt_cmpR op_lt (pe_callB call_len_seq (by rfl) T.len PySem.boot_len (pa_cons (pv 2) pa_nil)) pe_int (nomark _)) (pw_or1 (pt_cmpR op_lt (pe_callB call_len_seq (by rfl) T.len PySem.boot_len (pa_cons (pv 2) pa_nil)) (pe_op op_add pe_int (pe_ix ix_list (pv 2) pe_int (fun _ _ => rfl))) (nomark _))))))
        (pss_one (ps_ret (pe_tup (pa_cons pe_str (pa_cons (pe_callB call_len_seq (by rfl) T.len PySem.boot_len (pa_cons (pv 1) pa_nil)) pa_nil))))) pss_nil)
      (pss_cons (ps_par (i := 5) (j := 6) (by rfl) scLawDue.nd rfl rfl (by decide) rfl rfl (pa_cons (pe_ix ix_list (pv 2) pe_int (fun _ _ => rfl)) (pa_cons (pe_ix ix_list (pv 2) pe_int (fun _ _ => rfl)) pa_nil)) (by rfl))
      (pss_cons (ps_par (i := 7) (j := 8) (by rfl) scLawDue.nd rfl rfl (by decide) rfl rfl (pa_cons (pe_callTy call_tuple_of (by rfl) T.tuple (by decide +kernel) (pa_cons (pe_slice sl_list (pv 2) (po_some pe_int) (po_some (pe_op op_add pe_int (pv 5)))) pa_nil)) (pa_cons (pe_callTy call_tuple_of (by rfl) T.tuple (by decide +kernel) (pa_cons (pe_slice sl_list (pv 2) (po_some (pe_op op_add pe_int (pv 5))) po_none) pa_nil)) pa_nil)) (by rfl))
      (pss_cons (ps_set (i := 9) scLawDue.nd rfl (Or.inl rfl) (cWrongP.call (hr.mono (by decide)) (pa_cons (pv 5) (pa_cons (pv 6) (pa_cons (pv 7) (pa_cons (pv 8) pa_nil))))))
      (pss_cons (ps_if (pt_cmpR op_notN (pv 9) pe_non (nomark _))
        (pss_one (ps_ret (pe_tup (pa_cons pe_str (pa_cons (pv 9) pa_nil))))) pss_nil)
      (pss_one (ps_ret (pe_tup (pa_cons pe_str (pa_cons (pe_disp (pps_cons pe_str (pv 5) (pps_cons pe_str (pv 6) (pps_cons pe_str (pv 7) (pps_cons pe_str (pv 8) pps_nil)))) (by rfl) (by rfl) (fun z => by cases z) (by decide)) pa_nil)))))))))))), ?_⟩
    rcases h with ⟨t, rfl, tl6, k⟩ | ⟨ty, t1, t2, kE⟩
    · have tz : t.length ≤ sizeLine := by rw [sizeLine_eq]; omega
      have kb : PySem.W.kitOne K (.type "str") (.type "str") = some true := kit_ty (by decide +kernel)
      refine ⟨_, rfl, _, _, _, _, _, rfl, .ty "str", .base (.str t), kb, _, rfl, iteF ?_⟩
      obtain ⟨wl, cl⟩ := spl10_bound t
      have ne0 := split_ne (x := t) (c := 10) (by decide)
      rw [← nl_is] at wl cl ne0 k
      refine ⟨_, rfl, ⟨_, rfl⟩, t, _, rfl, rfl, by decide +kernel, by rw [sizeLine_eq]; omega, fun L hL => ?_⟩
      refine new_step hL fun H1 s1 e1 => ?_
      generalize Txt.split t ("\n" : Str) = ls at wl cl ne0 e1 k
      obtain ⟨body, rest, rfl⟩ : ∃ b r, ls = b ++ [r] := ⟨ls.dropLast, ls.getLast ne0, (List.dropLast_concat_getLast ne0).symm⟩
      rw [readM_by] at k
      have bl : body.length ≤ t.length := by rw [List.length_append] at cl; exact Nat.le_of_succ_le_succ cl
      have wb : ∀ u ∈ body, u.length ≤ t.length := fun u hu => wl u (List.mem_append_left _ hu)
      have put : ∀ (o : OutM) a H', endM body rest = o → Same H H' → DueAt K H' a o → Q (.ref a) H' := fun o a H' e s h => k a H' s (by rw [e]; exact h)
      clear k
      have ll : ((body ++ [rest]).map V.str).length = body.length + 1 := by rw [List.length_map, List.length_append] <;> rfl
      refine ⟨by show 0 ≤ sizeLine; decide, fun D hD => ?_⟩
      refine new_step hD fun H2 s2 e2 => ?_
      have s12 := s1.trans s2
      have hDH : H D = none := s1.free hD
      have LD : L ≠ D := ne_of_none e1 hD
      refine ⟨_, _, rfl, ?_⟩
      have l2 := s2 _ _ e1
      refine ⟨_, rfl, L, _, rfl, .inl (SqL.of l2), _, _, rfl, rfl, _, rfl, by rw [ll]; omega, by rw [ll]; omega, ?_⟩
      have en : ((((((body ++ [rest]).map V.str).length : Nat) : Int) - 1)).toNat = body.length := by rw [ll]; omega
      rw [en]
      refine for_range (lo := 0) (n := body.length) (fun i σ H' => Same H H' ∧ H' L = some (.lst ((body ++ [rest]).map V.str)) ∧ (∃ (acc : List V) (qs : List Prt), H' D = some (.lst acc) ∧ AllIn (PrtAt K H') acc qs ∧ (prts body).take i = qs.map some) ∧ ∃ u1 u2 : Option V, σ = [some (.str t), some (.ref L), some (.ref D), u1, u2, none, none, none, none, none]) ⟨s12, l2, ⟨[], [], e2, AllIn.nil, rfl⟩, _, _, rfl⟩ ?_ ?_
      · rintro i σ H4 hi ⟨s4, gL, ⟨acc, qs, g1, g2, g3⟩, u1, u2, rfl⟩
        obtain ⟨x, hx⟩ : ∃ x, body[i]? = some x := ⟨_, List.getElem?_eq_getElem hi⟩
        have xl := wb x (List.mem_of_getElem? hx)
        rw [Int.zero_add]
        have ql : qs.length = i := by
          have z := congrArg List.length g3
          rw [List.length_map, List.length_take, prts_len] at z
          omega
        have al : acc.length = i := g2.1.trans ql
        have px := prts_at hx
        have hat : atI ((body ++ [rest]).map V.str) (i : Int) = some (.str x) := atI_nat (by rw [List.getElem?_map, List.getElem?_append_left hi, hx] <;> rfl)
        refine ⟨_, rfl, _, rfl, L, _, _, .str x, rfl, rfl, SqL.of gL, hat, _, rfl, ?_⟩
        refine mrg (fun v H' => H' = H4 ∧ ∃ m : Int, v = .int m ∧ prtO i m x = prtO i (many0 body) x) (fun Q' key => ?_) ?_
        · refine ⟨_, rfl, _, _, rfl, rfl, _, rfl, ?_⟩
          by_cases i0 : 0 < i
          · rw [decide_eq_true (show (i : Int) > 0 by omega)]
            have h0 : acc[0]? = some (.int (many0 body)) := by
              have hp : 0 < acc.length := by omega
              obtain ⟨q, h1, h2⟩ := g2.2 0 acc[0] (List.getElem?_eq_getElem hp)
              obtain ⟨x0, h3, h4⟩ := prts_get g3 h1
              obtain ⟨h5, _⟩ := prt_0 h3 h4
              rw [h5] at h2
              rw [List.getElem?_eq_getElem hp, show acc[0] = V.int (many0 body) from h2]
            exact iteT ⟨_, rfl, D, _, 0, .int (many0 body), rfl, rfl, SqL.of g1, atI_nat (j := 0) h0, key _ _ ⟨rfl, _, rfl, rfl⟩⟩
          · have : i = 0 := by omega
            subst this
            rw [decide_eq_false (show ¬ ((0 : Nat) : Int) > 0 by omega)]
            exact iteF (key _ _ ⟨rfl, _, rfl, by rw [prtO_0, prtO_0]⟩)
        rintro v H4' ⟨rfl, m, rfl, hm⟩
        refine ⟨x, i, m, rfl, by omega, fun H5 hn s5 => ?_, fun pq v H5 hn s5 hv => ?_⟩
        · rw [hm] at hn
          rw [hn] at px
          have fn : firstNo (prts body) = some i := firstNo_of px fun j hj => by
            have jq : j < qs.length := by omega
            have e : ((prts body).take i)[j]? = some (some qs[j]) := by rw [g3, List.getElem?_map, List.getElem?_eq_getElem jq] <;> rfl
            rw [List.getElem?_take, if_pos hj] at e
            exact ⟨_, e⟩
          have eL : endM body rest = .line (i + 1) := by unfold endM; rw [fn]
          refine ⟨_, rfl, rfl, _, rfl, iteT ⟨_, rfl, _, _, rfl, rfl, by show 2 ≤ sizeLine; decide, fun q hq => ?_⟩⟩
          refine put _ q _ eL ((s4.trans s5).trans (Same.new hq)) ?_
          show SqT K _ q [.str "line", .int ((i + 1 : Nat) : Int)]
          rw [Int.natCast_add]
          exact SqT.of upd_same
        · rw [hm] at hn
          rw [hn] at px
          have g15 := s5 _ _ g1
          have form : (∃ i, v = .int i) ∨ ∃ a, v = .ref a := by
            cases pq with
            | num i => exact .inl ⟨i, hv⟩
            | row l => obtain ⟨a, h, _⟩ := hv; exact .inr ⟨a, h⟩
            | tie t => obtain ⟨a, b, h, _⟩ := hv; exact .inr ⟨a, h⟩
          have put1 : Same H (upd H5 D (.lst (acc ++ [v]))) := (s4.trans s5).mut hDH
          have put2 : (upd H5 D (.lst (acc ++ [v]))) L = some (.lst ((body ++ [rest]).map V.str)) := by
            rw [upd_ne LD]
            exact s5 _ _ gL
          have put3 : AllIn (PrtAt K (upd H5 D (.lst (acc ++ [v])))) (acc ++ [v]) (qs ++ [pq]) := AllIn.snoc (g2.mono fun _ _ h => (h.same s5).upd g15) (hv.upd g15)
          have put4 : (prts body).take (i + 1) = (qs ++ [pq]).map some := by rw [List.take_add_one, px, g3, List.map_append] <;> rfl
          have al2 : acc.length < sizeLine := by rw [al, sizeLine_eq]; omega
          rcases form with ⟨i', rfl⟩ | ⟨a', rfl⟩
          · exact ⟨_, rfl, rfl, _, rfl, iteF ⟨_, rfl, .inl ⟨rfl, _, SqL.of g15⟩, _, rfl, D, acc, _, rfl, rfl, g15, al2, put1, put2, ⟨_, _, upd_same, put3, put4⟩, _, _, rfl⟩⟩
          · exact ⟨_, rfl, rfl, _, rfl, iteF ⟨_, rfl, .inl ⟨rfl, _, SqL.of g15⟩, _, rfl, D, acc, _, rfl, rfl, g15, al2, put1, put2, ⟨_, _, upd_same, put3, put4⟩, _, _, rfl⟩⟩
      · rintro σ H4 ⟨s4, gL, ⟨acc, qs, g1, g2, g3⟩, u1, u2, rfl⟩
        have g3' : prts body = qs.map some := by rw [← g3, ← prts_len body, List.take_length]
        have ql : qs.length = body.length := by rw [← prts_len body, g3', List.length_map]
        have al : acc.length = body.length := g2.1.trans ql
        have eE : endM body rest = if rest = Str.empty ∧ body ≠ [] ∧ ¬ ((body.length : Int) < many0 body + 2) then madeM (mdlOf qs) else .line (body.length + 1) := by
          unfold endM
          rw [g3', firstNo_somes, fm_somes] <;> rfl
        have lastAt : atI ((body ++ [rest]).map V.str) (-1) = some (.str rest) := at_last (by rw [List.map_append]; exact List.getLast?_concat)
        have bad : ¬ (rest = Str.empty ∧ body ≠ [] ∧ ¬ ((body.length : Int) < many0 body + 2)) → ∃ v, some (some (V.ref L)) = some (some v) ∧ ∃ p ys, [v] = [V.ref p] ∧ (SqL K H4 p ys ∨ SqT K H4 p ys) ∧ [V.str "line", V.int ((ys.length : Nat) : Int)].length ≤ sizeLine ∧ ∀ q, H4 q = none → Q (.ref q) (upd H4 q (.tup [V.str "line", V.int ((ys.length : Nat) : Int)])) := fun hb => by
          rw [if_neg hb] at eE
          refine ⟨_, rfl, L, _, rfl, .inl (SqL.of gL), by show 2 ≤ sizeLine; decide, fun q hq => ?_⟩
          rw [ll]
          exact put _ q _ eE (s4.trans (Same.new hq)) (SqT.of upd_same)
        refine ⟨_, rfl, _, rfl, L, _, _, .str rest, rfl, rfl, SqL.of gL, lastAt, rfl, _, rfl, ?_⟩
        rw [dec_str, e_emp]
        by_cases re : rest = Str.empty
        · rw [decide_eq_true re]
          refine iteF ⟨_, rfl, D, _, rfl, .inl (SqL.of g1), _, _, rfl, rfl, _, rfl, ?_⟩
          match acc, qs, g1, g2, g3, g3', ql, al, eE with
          | [], qs, g1, g2, g3, g3', ql, al, eE =>
            refine iteT (bad fun z => ?_)
            cases body with
            | nil => exact z.2.1 rfl
            | cons _ _ => simp at al
          | v0 :: ar, [], g1, g2, g3, g3', ql, al, eE => exact absurd g2.1 (by simp)
          | v0 :: ar, q0 :: qr, g1, g2, g3, g3', ql, al, eE =>
          have g3n : (prts body).take (prts body).length = (q0 :: qr).map some := by rw [List.take_length]; exact g3'
          obtain ⟨x0, hx0, hp0⟩ := prts_get g3n (j := 0) rfl
          obtain ⟨rfl, m00, m01⟩ := prt_0 hx0 hp0
          have hv0 : v0 = V.int (many0 body) := by
            obtain ⟨q, h1, h2⟩ := g2.2 0 v0 rfl
            cases h1
            exact h2
          subst hv0
          match ar, qr, g1, g2, g3, g3', ql, al, eE, g3n with
          | [], qr, g1, g2, g3, g3', ql, al, eE, g3n =>
            refine iteT (bad fun z => z.2.2 ?_)
            rw [← al]
            show ((1 : Nat) : Int) < _
            omega
          | v1 :: ar, [], g1, g2, g3, g3', ql, al, eE, g3n => exact absurd g2.1 (by simp)
          | v1 :: ar, q1 :: qr, g1, g2, g3, g3', ql, al, eE, g3n =>
          rw [decide_eq_false (show ¬ (((V.int (many0 body) :: v1 :: ar).length : Nat) : Int) < 2 by simp; omega)]
          refine iteF ⟨_, rfl, D, _, rfl, .inl (SqL.of g1), _, rfl, D, _, 0, .int (many0 body), rfl, rfl, SqL.of g1, atI_nat (j := 0) rfl, _, _, rfl, rfl, _, _, rfl, rfl, _, rfl, ?_⟩
          by_cases c : (((V.int (many0 body) :: v1 :: ar).length : Nat) : Int) < 2 + many0 body
          · rw [decide_eq_true c]
            exact iteT (bad fun z => z.2.2 (by rw [← al]; omega))
          · rw [decide_eq_false c]
            have hbn : body ≠ [] := fun z => by rw [z] at hx0; cases hx0
            rw [if_pos ⟨re, hbn, by rw [← al]; omega⟩] at eE
            obtain ⟨x1, hx1, hp1⟩ := prts_get g3n (j := 1) rfl
            obtain ⟨lv, rfl, hlv⟩ := prt_1 hp1
            have hv1 : v1 = V.int lv := by
              obtain ⟨q, h1, h2⟩ := g2.2 1 v1 rfl
              cases h1
              exact h2
            subst hv1
            generalize hM : (many0 body).toNat = M
            have mM : many0 body = (M : Int) := by omega
            have alr : ar.length + 2 = body.length := al
            have aM : M ≤ ar.length := by
              have : ¬ ((ar.length + 2 : Nat) : Int) < 2 + many0 body := c
              omega
            have hA : AllIn (PrtAt K H4) ar qr := g2.drop 2
            have qrl : ar.length = qr.length := hA.1
            have get : ∀ {i : Nat} {q : Prt}, qr[i]? = some q → ∃ x ∈ body, prtO (i + 2) (many0 body) x = some q := fun {i q} h => by
              obtain ⟨x, h1, h2⟩ := prts_get g3n (j := i + 2) h
              exact ⟨x, List.mem_of_getElem? h1, h2⟩
            have rowsF : ∀ {i : Nat} {q : Prt}, (qr.take M)[i]? = some q → ∃ l x, q = .row l ∧ x ∈ body ∧ rowW x = some l := fun {i q} h => by
              rw [List.getElem?_take] at h
              split at h
              · rename_i hi
                obtain ⟨x, h1, h2⟩ := get h
                obtain ⟨l, h3, h4⟩ := prt_row (by omega) (by omega) h2
                exact ⟨l, x, h3, h1, h4⟩
              · cases h
            have tiesF : ∀ {i : Nat} {q : Prt}, (qr.drop M)[i]? = some q → ∃ t x, q = .tie t ∧ x ∈ body ∧ tieO x = some t := fun {i q} h => by
              rw [List.getElem?_drop] at h
              obtain ⟨x, h1, h2⟩ := get h
              obtain ⟨t, h3, h4⟩ := prt_tie (by omega) (by omega) h2
              exact ⟨t, x, h3, h1, h4⟩
            have hW : AllIn (RowAt K H4) (ar.take M) ((qr.take M).map rowP) := (hA.take M).map fun i v q hq hv => by
              obtain ⟨l, x, rfl, _⟩ := rowsF hq
              exact hv
            have hT : AllIn (TieAt K H4) (ar.drop M) ((qr.drop M).map tieP) := (hA.drop M).map fun i v q hq hv => by
              obtain ⟨t, x, rfl, _⟩ := tiesF hq
              exact hv
            have wOk : RowsSm ((qr.take M).map rowP) := by
              refine ⟨by rw [List.length_map, List.length_take]; omega, fun l hl => ?_⟩
              obtain ⟨q, hq, rfl⟩ := List.mem_map.mp hl
              obtain ⟨i, hi, he⟩ := List.mem_iff_getElem.mp hq
              obtain ⟨l, x, rfl, hx, hr⟩ := rowsF (List.getElem?_eq_getElem hi |>.trans (by rw [he]))
              obtain ⟨r1, r2, r3⟩ := rowW_len hr
              have := wb x hx
              exact ⟨by show l.length ≤ _; omega, r2, r3⟩
            have tOk : ∀ t ∈ (qr.drop M).map tieP, TieSm t ∧ RowsSm t.2 := fun t ht => by
              obtain ⟨q, hq, rfl⟩ := List.mem_map.mp ht
              obtain ⟨i, hi, he⟩ := List.mem_iff_getElem.mp hq
              obtain ⟨t, x, rfl, hx, hr⟩ := tiesF (List.getElem?_eq_getElem hi |>.trans (by rw [he]))
              obtain ⟨r1, r5, r6⟩ := tieO_len hr
              have := wb x hx
              exact ⟨r1, by show t.2.length ≤ _; omega, fun l hl => ⟨by have := r6 l hl; omega, r1.2.2.2 l hl⟩⟩
            have tLen : ((qr.drop M).map tieP).length ≤ 1000001 := by rw [List.length_map, List.length_drop]; omega
            have wLen : (((qr.take M).map rowP).length : Int) = many0 body := by rw [List.length_map, List.length_take, ← qrl, Nat.min_eq_left aM, mM]
            have eM : mdlOf (.num (many0 body) :: .num lv :: qr) = ⟨many0 body, lv, (qr.take M).map rowP, (qr.drop M).map tieP⟩ := by
              show (⟨many0 body, lv, (qr.take (many0 body).toNat).map rowP, (qr.drop (many0 body).toNat).map tieP⟩ : Mdl) = _
              rw [hM]
            rw [eM] at eE
            generalize (qr.take M).map rowP = ws at hW wOk wLen eE
            generalize (qr.drop M).map tieP = ts at hT tOk tLen eE
            have ac : (V.int (many0 body) :: V.int lv :: ar).length = ar.length + 2 := rfl
            refine iteF ⟨_, rfl, D, _, 0, .int (many0 body), rfl, rfl, SqL.of g1, atI_nat (j := 0) rfl, _, rfl, D, _, 1, .int lv, rfl, rfl, SqL.of g1, atI_nat (j := 1) rfl, _, _, rfl, ?_⟩
            refine ⟨_, rfl, 2, rfl, _, rfl, _, _, rfl, rfl, _, rfl, D, _, rfl, SqL.of g1, fun A hA2 => ?_⟩
            have ca : cutV (V.int (many0 body) :: V.int lv :: ar) (some 2) (some (2 + many0 body)) = ar.take M := by
              rw [mM]
              exact cut_midV (xs := V.int (M : Int) :: V.int lv :: ar) (n := 2) (k := M) (by show 2 + M ≤ ar.length + 2; omega)
            rw [ca]
            refine new_step hA2 fun H7 s7 e7 => ?_
            refine ⟨A, _, rfl, .inl ⟨SqL.of e7, fun W hW2 => ?_⟩⟩
            refine new_step hW2 fun H8 s8 e8 => ?_
            have s48 := s7.trans s8
            unfold tNoPart
            refine ⟨_, rfl, _, rfl, _, _, rfl, rfl, _, rfl, D, _, rfl, SqL.of (s48 _ _ g1), fun B hB2 => ?_⟩
            have cb : cutV (V.int (many0 body) :: V.int lv :: ar) (some (2 + many0 body)) none = ar.drop M := by
              rw [mM, show (2 : Int) + (M : Int) = ((M + 2 : Nat) : Int) by omega, cut_fromV (by show M + 2 ≤ ar.length + 2; omega)]
              rfl
            rw [cb]
            refine new_step hB2 fun H9 s9 e9 => ?_
            refine ⟨B, _, rfl, .inl ⟨SqL.of e9, fun T' hT2 => ?_⟩⟩
            refine new_step hT2 fun H10 s10 e10 => ?_
            refine ⟨_, _, rfl, ?_⟩
            have s410 := (s48.trans s9).trans s10
            have sAll := s4.trans s410
            have rW : RowsAt K H10 W ws := ⟨_, (s9.trans s10).sqT (SqT.of e8), hW.mono fun _ _ h => h.same s410⟩
            have rT : TiesAt K H10 T' ts := ⟨_, SqT.of e10, hT.mono fun _ _ h => h.same s410⟩
            refine ⟨_, rfl, _, rfl, _, rfl, _, rfl, ⟨many0 body, lv, ws, ts⟩, W, T', rfl, rW, rT, wLen, wOk, tLen, tOk, fun H11 s11 => ?_⟩
            have s111 := sAll.trans s11
            have eE' : endM body rest = match wrongM ⟨many0 body, lv, ws, ts⟩ with
              | some p => .part p
              | none => .told ⟨many0 body, lv, ws, ts⟩ := eE
            cases hw : wrongM ⟨many0 body, lv, ws, ts⟩ with
            | some p =>
              rw [hw] at eE'
              cases p with
              | inl s => exact ⟨_, rfl, rfl, _, rfl, iteT ⟨_, rfl, by show 2 ≤ sizeLine; decide, fun q hq => put _ q _ eE' (s111.trans (Same.new hq)) (SqT.of upd_same)⟩⟩
              | inr n => exact ⟨_, rfl, rfl, _, rfl, iteT ⟨_, rfl, by show 2 ≤ sizeLine; decide, fun q hq => put _ q _ eE' (s111.trans (Same.new hq)) (SqT.of upd_same)⟩⟩
            | none =>
              rw [hw] at eE'
              refine ⟨_, rfl, rfl, _, rfl, iteF ?_⟩
              intro dp hdp
              refine ⟨_, rfl, _, rfl, _, rfl, _, rfl, upd_same, mdK (many0 body) lv W T', rfl, (show 4 ≤ 15 by decide), by show 2 ≤ sizeLine; decide, fun q hq => ?_⟩
              rw [merge_app (mdK (many0 body) lv W T') [] (md_keys _ _ _ _), upd_upd] at hq ⊢
              have sd : Same H11 (upd H11 dp (.dK (mdK (many0 body) lv W T'))) := Same.new hdp
              refine put _ q _ eE' ((s111.trans sd).trans (Same.new hq)) ⟨dp, SqT.of upd_same, DicAt.same (Same.new hq) ⟨W, T', upd_same, (rW.same s11).same sd, (rT.same s11).same sd⟩⟩
        · rw [decide_eq_false re]
          exact iteT (bad fun z => re z.1)
    · refine ⟨_, rfl, _, _, _, _, _, rfl, .ty "str", t1, t2, _, rfl, iteT ⟨by show 2 ≤ sizeLine; decide, fun q hq => ?_⟩⟩
      exact kE q _ (Same.new hq) (SqT.of upd_same)
end
end Law

namespace L2
open PySem PySem.Spec PyProof.Rows TL
theorem leP_code {a b : Int × Int} (ha : 0 ≤ a.2 ∧ a.2 < 12) (hb : 0 ≤ b.2 ∧ b.2 < 12) (h : leP a b = false) : b.1 * 12 + b.2 < a.1 * 12 + a.2 := by
  unfold leP at h
  by_cases c : a.1 = b.1
  · rw [if_pos c] at h
    have := of_decide_eq_false h
    omega
  · rw [if_neg c] at h
    have := of_decide_eq_false h
    omega
theorem ties_few {many levels : Int} {ts : List Tie} (hm : many ≤ 12) (h : ∀ j, j < ts.length → gT many levels ts j = true) (nn : ∀ t ∈ ts, 0 ≤ t.1.1 ∧ 0 ≤ t.1.2) : ts.length ≤ 144 := by
  have get : ∀ (i : Nat) (t : Tie), ts[i]? = some t → t.1.2 < many ∧ t.1.1 < t.1.2 ∧ tabB levels levels t.2 = true ∧ leP t.1 (lastP ts i) = false := fun i t ht => by
    have g := h i (List.getElem?_eq_some_iff.mp ht).1
    unfold gT at g
    rw [ht] at g
    have g : (tieB many levels t && !leP t.1 (lastP ts i)) = true := g
    unfold tieB at g
    simp only [Bool.and_eq_true, Bool.not_eq_true', decide_eq_true_eq] at g
    exact ⟨g.1.1, g.1.2.1, g.1.2.2, g.2⟩
  have code : ∀ (i : Nat) (t : Tie), ts[i]? = some t → (i : Int) ≤ t.1.1 * 12 + t.1.2 := fun i => by
    induction i with
    | zero =>
      intro t ht
      obtain ⟨a, b⟩ := nn t (List.mem_of_getElem? ht)
      omega
    | succ i ih =>
      intro t ht
      have il := (List.getElem?_eq_some_iff.mp ht).1
      have hp := List.getElem?_eq_getElem (l := ts) (i := i) (by omega)
      have := ih _ hp
      obtain ⟨g1, g2, _, g3⟩ := get _ t ht
      obtain ⟨p1, p2, _, _⟩ := get _ _ hp
      have lp : lastP ts (i + 1) = ts[i].1 := by
        unfold lastP
        rw [if_neg (Nat.succ_ne_zero i), Nat.add_sub_cancel, hp]
      rw [lp] at g3
      obtain ⟨a, b⟩ := nn t (List.mem_of_getElem? ht)
      obtain ⟨c, d⟩ := nn _ (List.mem_of_getElem? hp)
      have := leP_code ⟨b, by omega⟩ ⟨d, by omega⟩ g3
      omega
  rcases Nat.eq_zero_or_pos ts.length with z | z
  · omega
  · have hp := List.getElem?_eq_getElem (l := ts) (i := ts.length - 1) (by omega)
    have := code _ _ hp
    obtain ⟨g1, g2, _, _⟩ := get _ _ hp
    obtain ⟨a, b⟩ := nn _ (List.mem_of_getElem? hp)
    omega
theorem tab_rows {rows cols : Int} {t : List (List Int)} (h : tabB rows cols t = true) : (t.length : Int) = rows ∧ ∀ l ∈ t, (l.length : Int) = cols ∧ ∀ x ∈ l, x ≤ 1000 := by
  unfold tabB at h
  simp only [Bool.and_eq_true, decide_eq_true_eq, List.all_eq_true] at h
  exact ⟨h.1, fun l hl => ⟨(h.2 l hl).1, (h.2 l hl).2⟩⟩
theorem wrong_ok {m : Mdl} (h : wrongM m = none) : (1 ≤ m.many ∧ m.many ≤ 12) ∧ (1 ≤ m.levels ∧ m.levels ≤ 4) ∧ tabB m.many m.levels m.ws = true ∧ (∀ j, j < m.ts.length → gT m.many m.levels m.ts j = true) ∧ crowdB m.many m.ts = false := by
  unfold wrongM at h
  by_cases c1 : 1 ≤ m.many ∧ m.many ≤ 12
  · rw [if_neg (fun z => z c1)] at h
    by_cases c2 : 1 ≤ m.levels ∧ m.levels ≤ 4
    · rw [if_neg (fun z => z c2)] at h
      cases c3 : tabB m.many m.levels m.ws with
      | false => rw [if_pos c3] at h; cases h
      | true =>
        rw [if_neg (by rw [c3]; exact Bool.noConfusion)] at h
        cases c4 : badT m.many m.levels m.ts with
        | some i => rw [c4] at h; cases h
        | none =>
          rw [c4] at h
          refine ⟨c1, c2, rfl, rng_all c4, ?_⟩
          cases c5 : crowdB m.many m.ts with
          | false => rfl
          | true =>
            have h : (if crowdB m.many m.ts = true then some (Sum.inl "crowded") else none : Option Part) = none := h
            rw [if_pos c5] at h
            cases h
    · rw [if_pos c2] at h; cases h
  · rw [if_pos c1] at h; cases h
theorem ok_sm {m : Mdl} (h : wrongM m = none) (hw : ∀ l ∈ m.ws, l ≠ [] ∧ ∀ x ∈ l, 0 ≤ x) (ht : ∀ t ∈ m.ts, 0 ≤ t.1.1 ∧ 0 ≤ t.1.2 ∧ t.2 ≠ [] ∧ ∀ l ∈ t.2, l ≠ [] ∧ ∀ x ∈ l, 0 ≤ x) : MdlSm m := by
  obtain ⟨c1, c2, c3, c4, _⟩ := wrong_ok h
  obtain ⟨w1, w2⟩ := tab_rows c3
  refine ⟨by omega, c1.2, by omega, c2.2, by omega, fun l hl => ?_, ties_few c1.2 c4 fun t h => ⟨(ht t h).1, (ht t h).2.1⟩, fun t hm => ?_⟩
  · obtain ⟨a, b⟩ := w2 l hl
    obtain ⟨c, d⟩ := hw l hl
    exact ⟨by omega, c, fun x hx => ⟨d x hx, b x hx⟩⟩
  · obtain ⟨i, hi, rfl⟩ := List.mem_iff_getElem.mp hm
    have g := c4 i hi
    unfold gT at g
    rw [List.getElem?_eq_getElem hi] at g
    have g : (tieB m.many m.levels m.ts[i] && !leP m.ts[i].1 (lastP m.ts i)) = true := g
    unfold tieB at g
    simp only [Bool.and_eq_true, Bool.not_eq_true', decide_eq_true_eq] at g
    obtain ⟨⟨g1, g2, g3⟩, _⟩ := g
    obtain ⟨r1, r2⟩ := tab_rows g3
    obtain ⟨a, b, c, d⟩ := ht _ hm
    exact ⟨⟨a, by omega⟩, ⟨b, by omega⟩, by omega, c, fun l hl => ⟨by have := (r2 l hl).1; omega, (d l hl).1, fun x hx => ⟨(d l hl).2 x hx, (r2 l hl).2 x hx⟩⟩⟩
theorem join_nl : ∀ ps : List (List Nat), joinL [10] (ps ++ [[]]) = ps.flatMap fun l => l ++ [10]
  | [] => rfl
  | [p] => by
    show p ++ ([10] ++ []) = (p ++ [10]) ++ []
    rw [List.append_nil, List.append_nil]
  | p :: q :: r => by
    have ih := join_nl (q :: r)
    show p ++ ([10] ++ joinL [10] (q :: r ++ [[]])) = (p ++ [10]) ++ (q :: r).flatMap fun l => l ++ [10]
    rw [ih, List.append_assoc]
/-- a text that is read as a model: what its lines are -/
theorem readM_told {t : Str} {m : Mdl} (h : readM (Txt.split t ⟨#[10]⟩) = .told m) : tl t = modT m ∧ wrongM m = none ∧ MdlSm m := by
  have hy : tl (⟨#[10]⟩ : Str) = [10] := rfl
  have es := split_spl t (⟨#[10]⟩ : Str) (by rw [hy]; simp) (kind_ok (by simp))
  rw [hy] at es
  have js : joinL [10] (spl [10] 0 [] (tl t)) = tl t := by rw [join_spl, List.nil_append]
  have ne0 := split_ne (x := t) (c := 10) (by decide)
  generalize Txt.split t (⟨#[10]⟩ : Str) = ls at es ne0 h
  obtain ⟨body, rest, rfl⟩ : ∃ b r, ls = b ++ [r] := ⟨ls.dropLast, ls.getLast ne0, (List.dropLast_concat_getLast ne0).symm⟩
  rw [readM_by] at h
  unfold endM at h
  cases hf : firstNo (prts body) with
  | some i => rw [hf] at h; cases h
  | none =>
  rw [hf] at h
  replace h : (if rest = Str.empty ∧ body ≠ [] ∧ ¬ ((body.length : Int) < many0 body + 2) then madeM (mdlOf ((prts body).filterMap id)) else .line (body.length + 1)) = .told m := h
  have pe := firstNo_none hf
  generalize (prts body).filterMap id = qs at pe h
  by_cases c : rest = Str.empty ∧ body ≠ [] ∧ ¬ ((body.length : Int) < many0 body + 2)
  · rw [if_pos c] at h
    obtain ⟨rfl, c1, c2⟩ := c
    unfold madeM at h
    cases hw : wrongM (mdlOf qs) with
    | some p => rw [hw] at h; cases h
    | none =>
    rw [hw] at h
    replace h : OutM.told (mdlOf qs) = .told m := h
    injection h with h
    subst h
    have pe' : (prts body).take (prts body).length = qs.map some := by rw [List.take_length]; exact pe
    have ql : qs.length = body.length := by rw [← prts_len body, pe, List.length_map]
    match body, c1 with
    | x0 :: body', _ =>
    match qs, ql with
    | q0 :: qs', ql =>
    obtain ⟨x, hx, hp0⟩ := prts_get pe' (j := 0) rfl
    cases hx
    obtain ⟨rfl, m00, m01⟩ := prt_0 (body := x0 :: body') rfl hp0
    have h0 : headW "places" x0 = some (many0 (x0 :: body')) := by
      rw [prtO_0] at hp0
      obtain ⟨i, h1, h2⟩ := Option.map_eq_some_iff.mp hp0
      rw [h1]
      exact congrArg some (by injection h2)
    match body', qs', ql with
    | [], [], _ => exact absurd (show (((1 : Nat) : Int)) < many0 [x0] + 2 by omega) c2
    | x1 :: xs, q1 :: qr, ql =>
    obtain ⟨x, hx, hp1⟩ := prts_get pe' (j := 1) rfl
    cases hx
    obtain ⟨lv, rfl, hlv⟩ := prt_1 hp1
    generalize hM : (many0 (x0 :: x1 :: xs)).toNat = M
    have mM : many0 (x0 :: x1 :: xs) = (M : Int) := by omega
    have xl : qr.length = xs.length := by
      have : qr.length + 1 + 1 = xs.length + 1 + 1 := ql
      omega
    have get : ∀ {i : Nat} {q : Prt}, qr[i]? = some q → ∃ x, xs[i]? = some x ∧ prtO (i + 2) (many0 (x0 :: x1 :: xs)) x = some q := fun {i q} h => by
      obtain ⟨x, h1, h2⟩ := prts_get pe' (j := i + 2) h
      exact ⟨x, h1, h2⟩
    have rowsF : ∀ {i : Nat} {q : Prt}, (qr.take M)[i]? = some q → ∃ l x, q = .row l ∧ xs[i]? = some x ∧ rowW x = some l := fun {i q} h => by
      rw [List.getElem?_take] at h
      split at h
      · rename_i hi
        obtain ⟨x, h1, h2⟩ := get h
        obtain ⟨l, h3, h4⟩ := prt_row (by omega) (by omega) h2
        exact ⟨l, x, h3, h1, h4⟩
      · cases h
    have tiesF : ∀ {i : Nat} {q : Prt}, (qr.drop M)[i]? = some q → ∃ t x, q = .tie t ∧ xs[M + i]? = some x ∧ tieO x = some t := fun {i q} h => by
      rw [List.getElem?_drop] at h
      obtain ⟨x, h1, h2⟩ := get h
      obtain ⟨t, h3, h4⟩ := prt_tie (by omega) (by omega) h2
      exact ⟨t, x, h3, h1, h4⟩
    have eM : mdlOf (.num (many0 (x0 :: x1 :: xs)) :: .num lv :: qr) = ⟨many0 (x0 :: x1 :: xs), lv, (qr.take M).map rowP, (qr.drop M).map tieP⟩ := by
      show (⟨many0 (x0 :: x1 :: xs), lv, (qr.take (many0 (x0 :: x1 :: xs)).toNat).map rowP, (qr.drop (many0 (x0 :: x1 :: xs)).toNat).map tieP⟩ : Mdl) = _
      rw [hM]
    rw [eM] at hw ⊢
    refine ⟨?_, hw, ok_sm hw (fun l hl => ?_) fun t ht => ?_⟩
    · rw [← js, ← es, List.map_append]
      show joinL [10] ((x0 :: x1 :: xs).map tl ++ [[]]) = _
      rw [join_nl]
      unfold modT
      congr 1
      unfold linesT
      rw [List.map_cons, List.map_cons, (head_is n_places h0).1, (head_is n_levels hlv).1]
      congr 2
      have e1 : (xs.take M).map tl = ((qr.take M).map rowP).map (fun l => tl ("weights" : Str) ++ 32 :: rowT l) := by
        refine List.ext_getElem? fun i => ?_
        rw [List.getElem?_map, List.getElem?_map, List.getElem?_map]
        cases hq : (qr.take M)[i]? with
        | none =>
          have := List.getElem?_eq_none_iff.mp hq
          rw [List.length_take] at this
          rw [List.getElem?_eq_none (by rw [List.length_take]; omega)] <;> rfl
        | some q =>
          have il := (List.getElem?_eq_some_iff.mp hq).1
          rw [List.length_take] at il
          obtain ⟨l, x, rfl, h1, h2⟩ := rowsF hq
          rw [List.getElem?_take, if_pos (by omega), h1]
          exact congrArg some (row_is h2).1
      have e2 : (xs.drop M).map tl = ((qr.drop M).map tieP).map tieT := by
        refine List.ext_getElem? fun i => ?_
        rw [List.getElem?_map, List.getElem?_map, List.getElem?_map]
        cases hq : (qr.drop M)[i]? with
        | none =>
          have := List.getElem?_eq_none_iff.mp hq
          rw [List.length_drop] at this
          rw [List.getElem?_eq_none (by rw [List.length_drop]; omega)] <;> rfl
        | some q =>
          obtain ⟨t, x, rfl, h1, h2⟩ := tiesF hq
          rw [List.getElem?_drop, h1]
          exact congrArg some (tie_is h2).1
      show xs.map tl = ((qr.take M).map rowP).map (fun l => tl ("weights" : Str) ++ 32 :: rowT l) ++ ((qr.drop M).map tieP).map tieT
      rw [← e1, ← e2, ← List.map_append, List.take_append_drop]
    · obtain ⟨q, hq, rfl⟩ := List.mem_map.mp hl
      obtain ⟨i, hi, he⟩ := List.mem_iff_getElem.mp hq
      obtain ⟨l, x, rfl, hx, hr⟩ := rowsF (List.getElem?_eq_getElem hi |>.trans (by rw [he]))
      obtain ⟨_, r2, r3⟩ := row_is hr
      exact ⟨r2, fun z hz => (r3 z hz).1⟩
    · obtain ⟨q, hq, rfl⟩ := List.mem_map.mp ht
      obtain ⟨i, hi, he⟩ := List.mem_iff_getElem.mp hq
      obtain ⟨t, x, rfl, hx, hr⟩ := tiesF (List.getElem?_eq_getElem hi |>.trans (by rw [he]))
      obtain ⟨_, r1, r2, r3, r4⟩ := tie_is hr
      exact ⟨r1.1, r2.1, r3, fun l hl => ⟨(r4 l hl).1, fun z hz => ((r4 l hl).2 z hz).1⟩⟩
  · rw [if_neg c] at h
    cases h
end L2
namespace L2
theorem lk_hit {k : PySem.Str} {v : V} {es : List (PySem.Str × V)} : ((k, v) :: es).lookup k = some v := by simp [List.lookup]
end L2
namespace Law
open PySem L2 TL
def TldAt (K : PySem.W.Frag) (C : Addr) (H : Hp) (a : Addr) : OutM → Prop
  | .line n => SqT K H a [.str "line", .int (n : Int)]
  | .part p => SqT K H a [.str "part", partV p]
  | .told m => ∃ q, SqT K H a [.str "told", .ref q] ∧ ModAt K C H q m
section
variable {P : Program} {w : World} {K : PySem.W.Frag} {mg : Str → Option Value} {base : Heap}
def spRd (K : PySem.W.Frag) (C : Addr) : Sp := fun vs H Q _ => ∃ v, vs = [v] ∧ ((∃ t : Str, v = .str t ∧ t.length ≤ 100000 ∧ ∀ a H', Same H H' → TldAt K C H' a (readM (Txt.split t ⟨#[10]⟩)) → Q (.ref a) H') ∨
  (∃ ty, TyX K H v ty ∧ PySem.W.kitOne K ty (.type "str") = some false ∧ ∀ a H', Same H H' → TldAt K C H' a (.line 0) → Q (.ref a) H'))
abbrev nLawRead : List Str := ["_law_text_here", "_law_found", "e", "_law_is_one"]
theorem scLawRead : FnScope nLawRead ["_law_text_here"] (defScope s_law_read) := ⟨rfl, rfl, rfl, by decide +kernel, rfl, by decide +kernel, by decide +kernel⟩
def tbRd (sp : Sp) (W : WX) : TS := tAsg (tTup (tCons (tC (.str "told")) (tCons (tCallS sp (WE W) (tCons (tVar 0) tNil)) tNil))) (gName 1)
theorem part_ty (K : PySem.W.Frag) (H : Hp) (p : Part) : ∃ ty, TyX K H (partV p) ty ∧ PySem.W.kitOne K ty (.type "bool") = some false := by
  cases p with
  | inl s => exact ⟨_, .base (.str s), kit_ty (by decide +kernel)⟩
  | inr n => exact ⟨_, .base (.int _), kit_ty (by decide +kernel)⟩
theorem ok_read {f : Addr} {fd : FuncData} {fcReadM : Addr} {fdcReadM : FuncData} {C BM BL G : Addr} (F : Fun K "_law_read" "_law_read" s_law_read f fd) (T : NmA mg) (S : ModT K mg C) (cReadM : ClX P w K mg base 8 "read_model" fcReadM fdcReadM ["text"] (spReadM K C BM BL)) (eBM : Er1 P w K mg base "BadModel" BM "part") (eBL : Er1 P w K mg base "BadLine" BL "number") (hG : mg "DrawError" = some (.ref G)) (hve : mg "ValueError" = none)
    (x1 : PySem.W.exmOne K (.ref BL) (.ref BL) = some true) (x2 : PySem.W.exmOne K (.ref BM) (.ref BL) = some false) (x3 : PySem.W.exmOne K (.ref BM) (.ref BM) = some true) (k1 : PySem.W.kitOne K (.ref BL) (.ref G) = some true) (k2 : PySem.W.kitOne K (.ref BL) (.type "ValueError") = some true) (k3 : PySem.W.kitOne K (.ref BM) (.ref G) = some true) (k4 : PySem.W.kitOne K (.ref BM) (.type "ValueError") = some true) :
    FnOk P w K mg base CX0 9 f fd ["_law_text_here"] (spRd K C) := by
  refine F.ok scLawRead (fun vs H Q E h => ?_) (fun cdv A' outer s H vs Q E hr h => ?_)
  · obtain ⟨v, rfl, _⟩ := h
    rfl
  · obtain ⟨v, rfl, h⟩ := h
    refine ⟨_, pss_cons (ps_try_manyAs (n := "e") (i := 2) (tb := tbRd (spReadM K C BM BL)) (l := _) (Wout := fun _ _ _ _ => False) rfl rfl scLawRead.nd rfl rfl takes0
        (fun W pn xe tk _ => pss_one (ps_set (i := 1) scLawRead.nd rfl (Or.inl rfl) (pe_tup (pa_cons pe_str (pa_cons (cReadM.callS (hr.mono (by decide)) tk (pa_cons (pv 0) pa_nil)) pa_nil)))))
        (.cons ⟨rfl, by decide, .inl eBL.m⟩ (fun a oe cls d pn hz hf => pss_cons (ps_set (i := 3) scLawRead.nd rfl (Or.inl rfl) (pe_and (pe_callB (call_isS hz hf) (by rfl) T.isi (by decide +kernel) (pa_cons (pv 2) (pa_cons (pe_glob (v := .ref G) (u := .ref G) rfl hG rfl) pa_nil)))
            (pe_and (pe_callB (call_isS hz hf) (by rfl) T.isi (by decide +kernel) (pa_cons (pv 2) (pa_cons (pe_bltn (v := .ty "ValueError") (u := .type "ValueError") (by rfl) hve (by decide +kernel) rfl) pa_nil)))
            (pe_one (pe_not (pe_callB (r := rIsi K) (show CallR _ (.builtin "isinstance") (rIsi K) from call_isi) (by rfl) T.isi (by decide +kernel) (pa_cons (pe_xs hz hf (pv 2)) (pa_cons (pe_bltn (v := .ty "bool") (u := .type "bool") (by rfl) T.bool (by decide +kernel) rfl) pa_nil))))))))
          (pss_one (ps_ret (pe_ifExp (pt_val (pv 3)) (pe_tup (pa_cons pe_str (pa_cons (pe_xs hz hf (pv 2)) pa_nil))) (pe_tup (pa_cons pe_str (pa_cons pe_non pa_nil)))))))
        (.cons ⟨rfl, by decide, .inl eBM.m⟩ (fun a oe cls d pn hz hf => pss_cons (ps_set (i := 3) scLawRead.nd rfl (Or.inl rfl) (pe_and (pe_callB (call_isS hz hf) (by rfl) T.isi (by decide +kernel) (pa_cons (pv 2) (pa_cons (pe_glob (v := .ref G) (u := .ref G) rfl hG rfl) pa_nil)))
            (pe_and (pe_callB (call_isS hz hf) (by rfl) T.isi (by decide +kernel) (pa_cons (pv 2) (pa_cons (pe_bltn (v := .ty "ValueError") (u := .type "ValueError") (by rfl) hve (by decide +kernel) rfl) pa_nil)))
            (pe_one (pe_not (pe_callB (r := rIsi K) (show CallR _ (.builtin "isinstance") (rIsi K) from call_isi) (by rfl) T.isi (by decide +kernel) (pa_cons (pe_xs hz hf (pv 2)) (pa_cons (pe_bltn (v := .ty "bool") (u := .type "bool") (by rfl) T.bool (by decide +kernel) rfl) pa_nil))))))))
          (pss_one (ps_ret (pe_ifExp (pt_val (pv 3)) (pe_tup (pa_cons pe_str (pa_cons (pe_xs hz hf (pv 2)) pa_nil))) (pe_tup (pa_cons pe_str (pa_cons pe_non pa_nil))))))) .nil)))
      (pss_one (ps_ret (pv 1))), ?_⟩
    rcases h with ⟨t, rfl, tl1, k⟩ | ⟨ty, t1, t2, k⟩
    · refine ⟨_, rfl, _, rfl, .inl ⟨t, rfl, by omega, fun n d H1 hr1 s1 hd hx => ?_, fun pt d H1 hr1 s1 hd hx => ?_, fun m q H1 hr1 s1 hq hM => ?_⟩⟩
      · rw [hr1] at k
        refine ⟨true, x1, fun _ a ha => ?_, fun q => nomatch q⟩
        refine ⟨_, rfl, BL, d, _, .ref G, .ref G, true, rfl, rfl, eBL.T, rfl, hx, .own _, k1, _, rfl, iteT ?_⟩
        refine ⟨_, rfl, BL, d, _, .ty "ValueError", .type "ValueError", true, rfl, rfl, eBL.T, rfl, hx, .ty _, k2, _, rfl, iteT ?_⟩
        refine ⟨_, rfl, rfl, BL, d, _, _, rfl, eBL.T, eBL.no, rfl, hx, lk_hit, _, _, _, _, _, rfl, .ty "bool", .base (.int _), (show PySem.W.kitOne K (.type "int") (.type "bool") = some false from kit_ty (by decide +kernel)), _, rfl, ?_⟩
        refine ⟨_, rfl, _, rfl, iteT ?_⟩
        refine ⟨_, rfl, rfl, BL, d, _, _, rfl, eBL.T, eBL.no, rfl, hx, lk_hit, by show 2 ≤ sizeLine; decide, fun r hr2 => ?_⟩
        exact k r _ (s1.trans (Same.new hr2)) (SqT.of upd_same)
      · rw [hr1] at k
        obtain ⟨pty, pt1, pt2⟩ := part_ty K H1 pt
        refine ⟨false, x2, fun q => (nomatch q), fun _ => ⟨true, x3, fun _ a ha => ?_, fun q => nomatch q⟩⟩
        refine ⟨_, rfl, BM, d, _, .ref G, .ref G, true, rfl, rfl, eBM.T, rfl, hx, .own _, k3, _, rfl, iteT ?_⟩
        refine ⟨_, rfl, BM, d, _, .ty "ValueError", .type "ValueError", true, rfl, rfl, eBM.T, rfl, hx, .ty _, k4, _, rfl, iteT ?_⟩
        refine ⟨_, rfl, rfl, BM, d, _, _, rfl, eBM.T, eBM.no, rfl, hx, lk_hit, _, _, _, _, _, rfl, .ty "bool", pt1, pt2, _, rfl, ?_⟩
        refine ⟨_, rfl, _, rfl, iteT ?_⟩
        refine ⟨_, rfl, rfl, BM, d, _, _, rfl, eBM.T, eBM.no, rfl, hx, lk_hit, by show 2 ≤ sizeLine; decide, fun r hr2 => ?_⟩
        exact k r _ (s1.trans (Same.new hr2)) (SqT.of upd_same)
      · rw [hr1] at k
        refine ⟨by show 2 ≤ sizeLine; decide, fun r hr2 => ⟨_, rfl, ?_⟩⟩
        exact k r _ (s1.trans (Same.new hr2)) ⟨q, SqT.of upd_same, hM.same (Same.new hr2)⟩
    · refine ⟨_, rfl, _, rfl, .inr ⟨ty, t1, t2, fun d H1 s1 hd hx => ?_⟩⟩
      refine ⟨true, x1, fun _ a ha => ?_, fun q => nomatch q⟩
      refine ⟨_, rfl, BL, d, _, .ref G, .ref G, true, rfl, rfl, eBL.T, rfl, hx, .own _, k1, _, rfl, iteT ?_⟩
      refine ⟨_, rfl, BL, d, _, .ty "ValueError", .type "ValueError", true, rfl, rfl, eBL.T, rfl, hx, .ty _, k2, _, rfl, iteT ?_⟩
      refine ⟨_, rfl, rfl, BL, d, _, _, rfl, eBL.T, eBL.no, rfl, hx, lk_hit, _, _, _, _, _, rfl, .ty "bool", .base (.int _), (show PySem.W.kitOne K (.type "int") (.type "bool") = some false from kit_ty (by decide +kernel)), _, rfl, ?_⟩
      refine ⟨_, rfl, _, rfl, iteT ?_⟩
      refine ⟨_, rfl, rfl, BL, d, _, _, rfl, eBL.T, eBL.no, rfl, hx, lk_hit, by show 2 ≤ sizeLine; decide, fun r hr2 => ?_⟩
      exact k r _ (s1.trans (Same.new hr2)) (SqT.of upd_same)
end
end Law

namespace Law
open PySem L2
/-! ### a System's own == -/
def rOwS (C : Addr) (sp : Sp) : R2 := fun x y H Q => ∃ a b dx fs dy gs, x = .ref a ∧ y = .ref b ∧ H a = some (.ins C dx fs) ∧ H b = some (.ins C dy gs) ∧ sp [x, y] H Q E0
section
variable {X : Cx}
theorem op_ownS {C f : Addr} {n : Nat} {fd : FuncData} {ps : List Str} {sp : Sp} (F : FnOk X.prog X.w X.K X.mg X.base CX0 n f fd ps sp) (hs : PySem.W.findIn X.K (.ref C) "__eq__" = some (some (.ref f))) (hf : PySem.W.isFn X.K (.ref f) = true) (hb : Binds X.K fd ps [])
    (hr : Room n X.A) (hbl : ∀ vs H Q, sp vs H Q E0 → sp vs H (fun z H' => (∃ b, z = .bl b) ∧ Q z H') E0) : OpR X (compareOp .Eq) (rOwS C sp) := by
  intro pins s σ H x y v u Q I rx ry h
  obtain ⟨a, b, dx, fs, dy, gs, rfl, rfl, ha, hb', q⟩ := h
  cases rx
  cases ry
  obtain ⟨mA, J, _⟩ := ins_get I.hok ha
  obtain ⟨od, J, _⟩ := J.look
  obtain ⟨m, hF⟩ := I.fr
  have q' := hbl _ _ _ q
  have hl := F.len _ _ _ _ q'
  have r2 : Vals [V.ref a, V.ref b] [Value.ref a, Value.ref b] := .cons rfl (.cons rfl .nil)
  have go : wpAny (model X.prog X.w) X.A (call (.ref f) [.ref a, .ref b]) (fun w s' => ∃ z H', Inv X pins σ H' s' ∧ RelV z w ∧ (∃ k, z = .bl k) ∧ Q z H') X.xe s := by
    refine wpAny_call (codeAny_mono (F.run X.A X.stack s H ⟨[.ref a, .ref b], []⟩ [.ref a, .ref b] [.ref a, .ref b] _ E0 hr I.env0 (by
      have := hb s [.ref a, .ref b] I.kIn (by simpa using hl)
      simpa using this) r2 q') fun r s' hq => ?_)
    cases r with
    | error e => exact pass0 pins σ H s e s' I hq
    | ok fl =>
      cases fl with
      | ret w =>
        obtain ⟨z, H', I', rz, ez, qz⟩ := I.after hq
        exact ⟨z, H', I', rz, ez, qz⟩
      | _ => exact hq.elim
  have back : ∀ w s', (∃ z H', Inv X pins σ H' s' ∧ RelV z w ∧ (∃ k, z = .bl k) ∧ Q z H') → PySem.W.CmpBack (EP X pins σ Q) w s' := fun w s' ⟨z, H', I', rz, ⟨k, ez⟩, qz⟩ => by
    subst ez
    cases (show w = Value.bool k from rz)
    exact ⟨.bl k, H', I', rfl, qz⟩
  show wpAny (model X.prog X.w) X.A (richCompare .Eq (.ref a) (.ref b)) (EP X pins σ Q) X.xe s
  obtain ⟨mB, J', _⟩ := ins_get I.hok hb'
  obtain ⟨od', J', _⟩ := J'.look
  exact PySem.W.cmp_K (op := .Eq) (tb := .ref C) hr.units0 hF I.ok.mod.kin J J'.type (by simp [PySem.W.notFirst]) hs hf (wpAny_mono go back fun _ _ x => x)
end
theorem bl_ME {K : PySem.W.Frag} {C : Addr} : ∀ vs H Q, spMEq K C vs H Q E0 → spMEq K C vs H (fun z H' => (∃ b, z = .bl b) ∧ Q z H') E0 := by
  rintro vs H Q ⟨p, q, a, b, e, h1, h2, k⟩
  exact ⟨p, q, a, b, e, h1, h2, ⟨_, rfl⟩, k⟩
end Law
namespace L2
open PySem PySem.Spec PyProof.Rows TL
theorem gT_get {many levels : Int} {ts : List Tie} {i : Nat} {t : Tie} (h : gT many levels ts i = true) (ht : ts[i]? = some t) : tieB many levels t = true ∧ leP t.1 (lastP ts i) = false := by
  unfold gT at h
  rw [ht] at h
  have h : (tieB many levels t && !leP t.1 (lastP ts i)) = true := h
  simp only [Bool.and_eq_true, Bool.not_eq_true'] at h
  exact h
theorem eqM_self (m : Mdl) : Law.eqM m m = true := by
  unfold Law.eqM
  rw [decide_eq_true rfl, decide_eq_true rfl, decide_eq_true rfl, decide_eq_true rfl] <;> rfl
end L2
namespace Law
open PySem L2 TL
def partD : Part → PyData
  | .inl s => .str s
  | .inr n => .int (n : Int)
theorem dp_part {K : PySem.W.Frag} {H : Hp} (p : Part) : Dp K H (partV p) (partD p) := by
  cases p with
  | inl s => exact .str s
  | inr n => exact .int _
theorem eqv_part (p : Part) : PyData.eqv (partD p) (partD p) = true := by
  cases p <;> simp [partD, PyData.eqv]
theorem eqv_two (s : Str) (d : PyData) (h : PyData.eqv d d = true) : PyData.eqv (.tuple [.str s, d]) (.tuple [.str s, d]) = true := by
  simp [PyData.eqv, PyData.eqvAll, h]
theorem shaped_two (s : Str) (hs : PyData.strOk s = true) (d : PyData) (h : d.canLay0 = true ∧ d.depth ≤ 0) : SeqAt.shaped (.tuple [.str s, d]) = true := by
  refine shaped_of (n := 1) ⟨?_, ?_⟩ (by decide)
  · simp [PyData.canLay0, PyData.canLayAll0, h.1, hs]
  · simp only [PyData.depth, PyData.depthAll]
    omega
def POk (p : Part) : Prop := match p with
  | .inl s => PyData.strOk s = true
  | .inr _ => True
theorem lay_part {p : Part} (h : POk p) : (partD p).canLay0 = true ∧ (partD p).depth ≤ 0 := by
  cases p with
  | inl s =>
    have h : PyData.strOk s = true := h
    simp [partD, PyData.canLay0, PyData.depth, h]
  | inr n => simp [partD, PyData.canLay0, PyData.depth]
theorem wrong_pok {m : Mdl} {p : Part} (h : wrongM m = some p) : POk p := by
  unfold wrongM at h
  split at h
  · cases h
    show PyData.strOk ("many" : Str) = true
    decide +kernel
  split at h
  · cases h
    show PyData.strOk ("levels" : Str) = true
    decide +kernel
  split at h
  · cases h
    show PyData.strOk ("weights" : Str) = true
    decide +kernel
  split at h
  · cases h
    trivial
  · split at h
    · cases h
      show PyData.strOk ("crowded" : Str) = true
      decide +kernel
    · cases h
theorem readM_part {ls : List Str} {p : Part} (h : readM ls = .part p) : POk p := by
  unfold readM endM at h
  split at h
  · cases h
  · split at h
    · unfold madeM at h
      split at h
      · rename_i hw
        cases h
        exact wrong_pok hw
      · cases h
    · cases h
theorem s_line : PyData.strOk ("line" : Str) = true := by decide +kernel
theorem s_part : PyData.strOk ("part" : Str) = true := by decide +kernel
section
variable {P : Program} {w : World} {K : PySem.W.Frag} {mg : Str → Option Value} {base : Heap}
def spMInitN (K : PySem.W.Frag) (C : Addr) : Sp := fun vs H Q _ => ∃ (p dx w t : Addr) (m : Mdl), vs = [.ref p, .int m.many, .int m.levels, .ref w, .ref t] ∧ H p = some (.ins C dx []) ∧ RowsAt K H w m.ws ∧ TiesAt K H t m.ts ∧ TabOk m.ws ∧ (∀ t ∈ m.ts, TieOk t) ∧ wrongM m = none ∧
  (∀ H', (∀ b o, b ≠ p → H b = some o → H' b = some o) → H' p = some (.ins C dx (modF m.many m.levels w t)) → Q .non H')
abbrev nModelInitN : List Str := ["self", "many", "levels", "weights", "ties", "last", "number", "tie", "place"]
theorem scModelInitN : FnScope nModelInitN ["self", "many", "levels", "weights", "ties"] (defScope s_Model_init) := ⟨rfl, rfl, rfl, by decide +kernel, rfl, by decide +kernel, by decide +kernel⟩
theorem ok_minitN {f : Addr} {fd : FuncData} {fcWithin : Addr} {fdcWithin : FuncData} {fcTable : Addr} {fdcTable : FuncData} {fcTie : Addr} {fdcTie : FuncData} {fcTiesAt : Addr} {fdcTiesAt : FuncData} {C : Addr} (F : Fun K "__init__" "Model.__init__" s_Model_init f fd) (T : NmA mg) (cWithin : Cl P w K mg base CX0 2 "is_within" fcWithin fdcWithin ["low", "high", "thing"] (spWithin K)) (cTable : Cl P w K mg base CX0 4 "is_table" fcTable fdcTable ["rows", "columns", "thing"] (spTable K)) (cTie : Cl P w K mg base CX0 5 "is_tie" fcTie fdcTie ["many", "levels", "thing"] (spTie K)) (cTiesAt : Cl P w K mg base CX0 1 "ties_at" fcTiesAt fdcTiesAt ["ties", "place"] (spTiesAt K)) (S : ModT K mg C) : FnOk P w K mg base CX0 6 f fd ["self", "many", "levels", "weights", "ties"] (spMInitN K C) := by
  refine F.ok scModelInitN (fun vs H Q E h => ?_) (fun cdv A' outer s H vs Q E hr h => ?_)
  · obtain ⟨p, dx, wa, ta, m, rfl, _⟩ := h
    rfl
  · obtain ⟨p, dx, wa, ta, m, rfl, hp, hW, hT, tw, tt, hwr, kQ⟩ := h
    have hu := hu_of hr
    refine ⟨_, pss_cons (ps_if (pt_not (pt_val (cWithin.call (hr.mono (by decide)) (pa_cons pe_int (pa_cons pe_int (pa_cons (pv 1) pa_nil))))))
        pss_never pss_nil)
      (pss_cons (ps_if (pt_not (pt_val (cWithin.call (hr.mono (by decide)) (pa_cons pe_int (pa_cons pe_int (pa_cons (pv 2) pa_nil))))))
        pss_never pss_nil)
      (pss_cons (ps_if (pt_not (pt_val (cTable.call (hr.mono (by decide)) (pa_cons (pv 1) (pa_cons (pv 2) (pa_cons (pv 3) pa_nil))))))
        pss_never pss_nil)
      (pss_cons (ps_if (pt_not (pt_val (pe_callB call_isi (by rfl) T.isi (by decide +kernel) (pa_cons (pv 4) (pa_cons (pe_bltn (v := .ty "tuple") (u := .type "tuple") (by rfl) T.tuple (by decide +kernel) rfl) pa_nil)))))
        pss_never pss_nil)
      (pss_cons (ps_set (i := 5) scModelInitN.nd rfl (Or.inl rfl) (pe_tup (pa_cons pe_int (pa_cons pe_int pa_nil))))
      (pss_cons (ps_for PassesOwn.never rfl (pi_enumT (by rfl) T.enum (pa_cons (pv 4) pa_nil)) (pg_tup (by rfl) (pgs_cons (pg_name (i := 6) scModelInitN.nd rfl (Or.inl rfl)) (pgs_cons (pg_name (i := 7) scModelInitN.nd rfl (Or.inl rfl)) pgs_nil)))
        (pss_cons (ps_if (PW.pt (pw_or (pt_not (pt_val (cTie.call (hr.mono (by decide)) (pa_cons (pv 1) (pa_cons (pv 2) (pa_cons (pv 7) pa_nil)))))) (pw_or1 (pt_cmpR (op_leT (Nat.lt_of_le_of_lt (Nat.le_add_right _ 64) hr.units)) (pe_slice sl_tupA (pv 7) po_none (po_some pe_int)) (pv 5) (nomark _)))))
          pss_never pss_nil)
        (pss_one (ps_set (i := 5) scModelInitN.nd rfl (Or.inl rfl) (pe_slice sl_tupA (pv 7) po_none (po_some pe_int))))))
      (pss_cons (ps_if (pt_val (pe_callB (cr_any rfl) (by rfl) T.any (by decide +kernel) (pa_cons (pe_lc (own := [("place", 8)]) (g := (gName 8)) (tt := tYes) rfl scModelInitN.nd  (pi_range1 (by rfl) T.range (pa_cons (pv 1) pa_nil)) (blkOk_by (own := [("place", 8)]) (N := nModelInitN) (sc := defScope s_Model_init) (by decide +kernel)) (fun _ _ _ _ _ => (pg_name (i := 8) scModelInitN.nd rfl (Or.inl rfl))) (fun _ _ _ _ _ => pts_nil) (fun _ _ _ _ _ => (pe_cmpR op_gt (cTiesAt.call (hr.mono (by decide)) (pa_cons (pv 4) (pa_cons (pv 8) pa_nil))) pe_int (nomark _)))) pa_nil)))
        pss_never pss_nil)
      (pss_cons (ps_fld (pv 0) (pv 1) rfl)
      (pss_cons (ps_fld (pv 0) (pv 2) rfl)
      (pss_cons (ps_fld (pv 0) (pv 3) rfl)
      (pss_one (ps_fld (pv 0) (pv 4) rfl))))))))))), ?_⟩
    obtain ⟨ts, hTS, hTA⟩ := id hT
    have tl0 : ts.length = m.ts.length := hTA.1
    obtain ⟨c1, c2, c3, c4, c5⟩ := wrong_ok hwr
    have tlen : m.ts.length ≤ 16000000 := Nat.le_trans (ties_few c1.2 c4 fun t h => ⟨(tt t h).1, (tt t h).2.1⟩) (by decide)
    refine ⟨_, rfl, 1, 12, _, rfl, .inl ⟨m.many, rfl, _, rfl, ?_⟩⟩
    rw [decide_eq_true c1.1, decide_eq_true c1.2]
    refine iteF ⟨_, rfl, 1, 4, _, rfl, .inl ⟨m.levels, rfl, _, rfl, ?_⟩⟩
    rw [decide_eq_true c2.1, decide_eq_true c2.2]
    refine iteF ⟨_, rfl, _, rfl, _, rfl, m.many, m.levels, wa, m.ws, rfl, hW, tw, fun H1 s1 => ⟨_, rfl, ?_⟩⟩
    rw [c3]
    have hTS1 := s1.sqT hTS
    refine iteF ⟨_, rfl, _, _, _, _, _, rfl, .ty "tuple", tyx_tup hTS1, kit_tt, _, rfl, iteF ?_⟩
    refine ⟨by show 2 ≤ sizeLine; decide, fun la hla => ?_⟩
    refine new_step hla fun H2 s2 e2 => ?_
    have s12 := s1.trans s2
    refine ⟨_, rfl, ta, ts, rfl, s12.sqT hTS, for_it walk_enumT (fun i σ H' => Same H H' ∧ ∃ (la : Addr) (u v : Option V), SqT K H' la [.int (lastP m.ts i).1, .int (lastP m.ts i).2] ∧ σ = [some (.ref p), some (.int m.many), some (.int m.levels), some (.ref wa), some (.ref ta), some (.ref la), u, v, none]) ⟨s12, la, none, none, SqT.of e2, rfl⟩ (fun i σ H' _ h => h.1.sqT hTS) ?_ ?_⟩
    · rintro i x σ H3 H4 hi ⟨s3, la, u, v, hla, rfl⟩ ⟨t, y, rfl, ht, rfl, hy⟩
      obtain ⟨tie, hti, hA⟩ := hTA.2 i y hy
      have s4 : Same H3 (upd H3 t (.tup [.int (i : Nat), y])) := Same.new ht
      have il := (List.getElem?_eq_some_iff.mp hti).1
      have tok := tt tie (List.mem_of_getElem? hti)
      obtain ⟨g1, g2⟩ := gT_get (c4 i il) hti
      refine ⟨t, _, rfl, SqT.of upd_same, rfl, _, _, rfl, _, _, rfl, rfl, ?_⟩
      refine ⟨_, rfl, _, rfl, _, rfl, m.many, m.levels, y, tie, rfl, (hA.same s3).same s4, tok, fun H5 s5 => ⟨_, rfl, ?_⟩⟩
      have s35 := s4.trans s5
      rw [g1]
      obtain ⟨a, b, rfl, ha, hb⟩ := hA
      have ha5 := (s3.trans s35).sqT ha
      refine iteF ?_
      unfold tNoPart
      refine ⟨_, rfl, 2, rfl, a, _, rfl, ha5, fun z => absurd z.2 (by show ¬ HT.sIx 3 3 (some 2) = 3; decide), fun _ q hq => ?_⟩
      rw [cut2]
      refine new_step hq fun H6 s6 e6 => ?_
      refine ⟨_, rfl, q, la, [tie.1.1, tie.1.2], [(lastP m.ts i).1, (lastP m.ts i).2], rfl, rfl, SqT.of e6, (s35.trans s6).sqT hla, _, rfl, ?_⟩
      rw [lex2]
      have s36 := s35.trans s6
      rw [show leP (tie.1.1, tie.1.2) ((lastP m.ts i).1, (lastP m.ts i).2) = false from g2]
      have ha6 := s6.sqT ha5
      refine iteF ⟨_, rfl, 2, rfl, a, _, rfl, ha6, fun z => absurd z.2 (by show ¬ HT.sIx 3 3 (some 2) = 3; decide), fun _ q2 hq2 => ?_⟩
      rw [cut2]
      refine ⟨(s3.trans s36).trans (Same.new hq2), q2, _, _, ?_, rfl⟩
      have el : lastP m.ts (i + 1) = tie.1 := by
        unfold lastP
        rw [if_neg (Nat.succ_ne_zero i), Nat.add_sub_cancel, hti]
      rw [el]
      exact SqT.of upd_same
    · rintro σ H3 ⟨s3, la, u, v, hla, rfl⟩
      have m0 : 0 ≤ m.many := by omega
      refine ⟨_, rfl, _, rfl, by omega, by omega, fun D hD => ?_⟩
      refine lc_range (lo := 0) (n := m.many.toNat) (fun i H' => Same H3 H' ∧ H' D = some (.lst (((List.range i).map fun p => decide (4 < cntT m.ts (p : Nat))).map V.bl))) ⟨Same.new hD, upd_same⟩ (fun i H4 hi g => ?_) fun H4 g => ?_
      · obtain ⟨s4, h4⟩ := g
        refine ⟨rfl, _, rfl, _, rfl, ta, m.ts, _, rfl, hT.same (s3.trans s4), tlen, fun H5 s5 => ⟨_, _, rfl, rfl, _, s5 _ _ h4, ?_, (s4.trans s5).mut hD, ?_⟩⟩
        · rw [List.length_map, List.length_map, List.length_range]
          exact small1000 (by omega)
        · rw [upd_same, List.range_succ, List.map_append, List.map_append, Int.zero_add]
          have : decide ((4 : Int) < ((cntT m.ts ((i : Nat) : Int) : Nat) : Int)) = decide (4 < cntT m.ts ((i : Nat) : Int)) := decide_eq_decide.mpr (by omega)
          show some (HO.lst (_ ++ [V.bl (decide ((4 : Int) < _))])) = some (HO.lst (_ ++ [V.bl (decide (4 < _))]))
          rw [this]
      · obtain ⟨s4, h4⟩ := g
        refine ⟨D, _, rfl, SqL.of h4, _, rfl, ?_⟩
        rw [any_take]
        change (if crowdB m.many m.ts = true then _ else _)
        have s34 := s3.trans s4
        rw [c5]
        refine iteF ⟨_, rfl, _, rfl, p, C, dx, [], rfl, s34 _ _ hp, S.cl, S.nK, (by show 0 < 1000; decide), _, rfl, _, rfl, p, C, dx, _, rfl, upd_same, S.cl, S.nL, (by show 1 < 1000; decide), _, rfl, _, rfl, p, C, dx, _, rfl, upd_same, S.cl, S.nW, (by show 2 < 1000; decide), _, rfl, _, rfl, p, C, dx, _, rfl, upd_same, S.cl, S.nT, (by show 3 < 1000; decide), ?_⟩
        rw [upd_upd, upd_upd, upd_upd]
        exact kQ _ (fun b o n e => by rw [upd_ne n]; exact s34 b o e) upd_same
theorem sm_ok {m : Mdl} (h : MdlSm m) : TabOk m.ws ∧ ∀ t ∈ m.ts, TieOk t := by
  refine ⟨⟨Nat.le_trans h.wl (by decide), fun l hl => ?_⟩, fun t ht => ?_⟩
  · obtain ⟨a, _, b⟩ := h.wr l hl
    exact ⟨Nat.le_trans a (by decide), fun x hx => (b x hx).1⟩
  · obtain ⟨a, b, c, _, d⟩ := h.tr t ht
    exact ⟨a.1, b.1, Nat.le_trans c (by decide), fun l hl => ⟨Nat.le_trans (d l hl).1 (by decide), fun x hx => ((d l hl).2.2 x hx).1⟩⟩
def spIsRd (K : PySem.W.Frag) : Sp := fun vs H Q _ => ∃ v, vs = [v] ∧ ((∃ t : Str, v = .str t ∧ t.length ≤ 100000) ∨ (∃ ty, (∀ H', Same H H' → TyX K H' v ty) ∧ PySem.W.kitOne K ty (.type "str") = some false)) ∧ ∀ H', Same H H' → Q (.bl true) H'
abbrev nLawIsRead : List Str := ["_law_text_here", "_law_due_here", "_law_told", "_law_one"]
theorem scLawIsRead : FnScope nLawIsRead ["_law_text_here"] (defScope s_law_is_read) := ⟨rfl, rfl, rfl, by decide +kernel, rfl, by decide +kernel, by decide +kernel⟩
theorem ok_is_read {f : Addr} {fd : FuncData} {fcDue : Addr} {fdcDue : FuncData} {fcRd : Addr} {fdcRd : FuncData} {fcModT : Addr} {fdcModT : FuncData} {C fE fgMN : Addr} {fdE fdgMN : FuncData} (F : Fun K "_law_is_read" "_law_is_read" s_law_is_read f fd) (T : NmA mg) (cDue : Cl P w K mg base CX0 4 "_law_due" fcDue fdcDue ["_law_text_here"] (spDue K)) (cRd : Cl P w K mg base CX0 9 "_law_read" fcRd fdcRd ["_law_text_here"] (spRd K C)) (cModT : Cl P w K mg base CX0 2 "model_text" fcModT fdcModT ["model"] (spModT K C)) (S : ModT K mg C) (GE : FnOk P w K mg base CX0 1 fE fdE ["self", "other"] (spMEq K C)) (hsE : PySem.W.findIn K (.ref C) "__eq__" = some (some (.ref fE))) (hfE : PySem.W.isFn K (.ref fE) = true) (BE : Binds K fdE ["self", "other"] []) (MgMN : Mk K C fgMN) (GgMN : FnOk P w K mg base CX0 6 fgMN fdgMN ["self", "many", "levels", "weights", "ties"] (spMInitN K C)) (BgMN : Binds K fdgMN ["self", "many", "levels", "weights", "ties"] []) : FnOk P w K mg base CX0 11 f fd ["_law_text_here"] (spIsRd K) := by
  refine F.ok scLawIsRead (fun vs H Q E h => ?_) (fun cdv A' outer s H vs Q E hr h => ?_)
  · obtain ⟨v, rfl, _⟩ := h
    rfl
  · obtain ⟨v, rfl, hv, k⟩ := h
    have hu := hu_of hr
    refine ⟨_, pss_cons (ps_par (i := 1) (j := 2) (by rfl) scLawIsRead.nd rfl rfl (by decide) rfl rfl (pa_cons (cDue.call (hr.mono (by decide)) (pa_cons (pv 0) pa_nil)) (pa_cons (cRd.call (hr.mono (by decide)) (pa_cons (pv 0) pa_nil)) pa_nil)) (by rfl))
      (pss_cons (ps_if (pt_cmpR op_ne (pe_ix ix_tup (pv 1) pe_int (fun _ _ => rfl)) pe_str (nomark _))
        (pss_one (ps_ret (pe_cmpR (op_eqD hr.units) (pv 2) (pv 1) (nomark _)))) pss_nil)
      (pss_cons (ps_set (i := 3) scLawIsRead.nd rfl (Or.inl rfl) (pe_ix ix_tup (pv 1) pe_int (fun _ _ => rfl)))
      (pss_cons (ps_if (PW.pt (pw_or (pt_cmpR op_ne (pe_ix ix_tup (pv 2) pe_int (fun _ _ => rfl)) pe_str (nomark _)) (pw_or1 (pt_not (pt_cmpR (op_ownS GE hsE hfE BE (hr.mono (by decide)) bl_ME) (pe_ix ix_tup (pv 2) pe_int (fun _ _ => rfl)) (pe_make MgMN GgMN (hr.mono (by decide)) (by rfl) S.mgC BgMN .nil pass0 (pa_cons (pe_dget hu (pv 3) pe_str (fun _ _ => rfl)) (pa_cons (pe_dget hu (pv 3) pe_str (fun _ _ => rfl)) (pa_cons (pe_dget hu (pv 3) pe_str (fun _ _ => rfl)) (pa_cons (pe_dget hu (pv 3) pe_str (fun _ _ => rfl)) pa_nil))))) (nomark _))))))
        (pss_one (ps_ret pe_bl)) pss_nil)
      (pss_one (ps_ret (pe_and (pe_cmpR op_eq (cModT.call (hr.mono (by decide)) (pa_cons (pe_ix ix_tup (pv 2) pe_int (fun _ _ => rfl)) pa_nil)) (pv 0) (nomark _)) (pe_and (pe_cmpR (op_eqD hr.units) (pe_fld (pe_ix ix_tup (pv 2) pe_int (fun _ _ => rfl)) rfl) (pe_dget hu (pv 3) pe_str (fun _ _ => rfl)) (nomark _)) (pe_one (pe_cmpR (op_eqD hr.units) (pe_fld (pe_ix ix_tup (pv 2) pe_int (fun _ _ => rfl)) rfl) (pe_dget hu (pv 3) pe_str (fun _ _ => rfl)) (nomark _)))))))))), ?_⟩
    have nl : decide (("line" : Str) = ("told" : Str)) = false := by decide +kernel
    have np : decide (("part" : Str) = ("told" : Str)) = false := by decide +kernel
    have nt : decide (("told" : Str) = ("told" : Str)) = true := by decide +kernel
    have lineC : ∀ (n : Nat) (a b : Addr) (H2 : Hp), Same H H2 → SqT K H2 a [.str "line", .int (n : Int)] → SqT K H2 b [.str "line", .int (n : Int)] → ∃ d e, Dp K H2 (.ref b) d ∧ Dp K H2 (.ref a) e ∧ SeqAt.shaped d = true ∧ SeqAt.shaped e = true ∧ Q (.bl (PyData.eqv d e)) H2 := fun n a b H2 s ha hb => by
      refine ⟨.tuple [.str "line", .int (n : Int)], .tuple [.str "line", .int (n : Int)], .tup hb (.cons (.str _) (.cons (.int _) .nil)), .tup ha (.cons (.str _) (.cons (.int _) .nil)), shaped_two _ s_line _ (lay_int _), shaped_two _ s_line _ (lay_int _), ?_⟩
      rw [eqv_two _ _ (by simp [PyData.eqv])]
      exact k H2 s
    rcases hv with ⟨t, rfl, tl1⟩ | ⟨ty, t1, t2⟩
    · refine ⟨_, rfl, _, rfl, .inl ⟨t, rfl, tl1, fun a H1 s1 hD => ⟨_, rfl, _, rfl, .inl ⟨t, rfl, tl1, fun b H2 s2 hR => ⟨_, _, rfl, ?_⟩⟩⟩⟩⟩
      have s12 := s1.trans s2
      have ht := fun m (e : readM (Txt.split t ⟨#[10]⟩) = .told m) => readM_told e
      have hp := fun p (e : readM (Txt.split t ⟨#[10]⟩) = .part p) => readM_part e
      generalize readM (Txt.split t ⟨#[10]⟩) = o at hD hR ht hp
      cases o with
      | line n =>
        have hD : SqT K H1 a [.str "line", .int (n : Int)] := hD
        have hR : SqT K H2 b [.str "line", .int (n : Int)] := hR
        have hD2 := s2.sqT hD
        refine ⟨_, rfl, a, _, _, .str "line", rfl, rfl, hD2, atI_nat (j := 0) rfl, rfl, _, rfl, ?_⟩
        rw [dec_str, nl]
        exact iteT ⟨_, rfl, _, rfl, lineC n a b H2 s12 hD2 hR⟩
      | part p =>
        have pk := hp p rfl
        have hD : SqT K H1 a [.str "part", partV p] := hD
        have hR : SqT K H2 b [.str "part", partV p] := hR
        have hD2 := s2.sqT hD
        refine ⟨_, rfl, a, _, _, .str "part", rfl, rfl, hD2, atI_nat (j := 0) rfl, rfl, _, rfl, ?_⟩
        rw [dec_str, np]
        refine iteT ⟨_, rfl, _, rfl, .tuple [.str "part", partD p], .tuple [.str "part", partD p], .tup hR (.cons (.str _) (.cons (dp_part p) .nil)), .tup hD2 (.cons (.str _) (.cons (dp_part p) .nil)), shaped_two _ s_part _ (lay_part pk), shaped_two _ s_part _ (lay_part pk), ?_⟩
        rw [eqv_two _ _ (eqv_part p)]
        exact k H2 s12
      | told m =>
        obtain ⟨d, hD, hd⟩ := hD
        obtain ⟨q, hR, hM⟩ := hR
        obtain ⟨e1, e2, sm⟩ := ht m rfl
        have hD2 := s2.sqT hD
        obtain ⟨w1, t1, hd1, hd2, hd3⟩ := hd.same s2
        refine ⟨_, rfl, a, _, _, .str "told", rfl, rfl, hD2, atI_nat (j := 0) rfl, rfl, _, rfl, ?_⟩
        rw [dec_str, nt]
        refine iteF ⟨_, rfl, a, _, _, .ref d, rfl, rfl, hD2, atI_nat (j := 1) rfl, ?_⟩
        refine ⟨_, rfl, b, _, _, .str "told", rfl, rfl, hR, atI_nat (j := 0) rfl, rfl, _, rfl, ?_⟩
        rw [dec_str, nt]
        refine iteF ⟨_, rfl, b, _, _, .ref q, rfl, rfl, hR, atI_nat (j := 1) rfl, ?_⟩
        refine ⟨_, rfl, d, _, rfl, gd_m hd1, _, rfl, d, _, rfl, gd_l hd1, _, rfl, d, _, rfl, gd_w hd1, _, rfl, d, _, rfl, gd_t hd1, ?_⟩
        intro y dy hy hdy ney
        obtain ⟨ok1, ok2⟩ := sm_ok sm
        have sx : Same H2 (upd (upd H2 dy (.own y)) y (.ins C dy [])) := mk_same0 hy hdy
        refine ⟨y, dy, w1, t1, m, rfl, upd_same, hd2.same sx, hd3.same sx, ok1, ok2, e2, fun H3 k3 h3 => ⟨rfl, ?_⟩⟩
        have s3 : Same H2 H3 := mk_same hy hdy k3
        have hM3 := hM.same s3
        obtain ⟨dx, wq, tq, hq1, hq2, hq3⟩ := id hM3
        have hY : ModAt K C H3 y m := ⟨dy, w1, t1, h3, hd2.same s3, hd3.same s3⟩
        refine ⟨q, y, dx, _, dy, _, rfl, rfl, hq1, h3, q, y, m, m, rfl, hM3, hY, ?_⟩
        rw [eqM_self]
        have hR3 := s3.sqT hR
        have hd13 := s3 _ _ hd1
        refine ⟨_, rfl, iteF ⟨_, rfl, b, _, _, .ref q, rfl, rfl, hR3, atI_nat (j := 1) rfl, q, m, rfl, hM3, sm, fun u H4 s4 hu4 => ?_⟩⟩
        have eu : u = t := ext_tl (hu4.trans e1.symm)
        have hM4 := hM3.same s4
        obtain ⟨dx4, wq4, tq4, hq14, hq24, hq34⟩ := id hM4
        refine ⟨_, rfl, rfl, _, rfl, ?_⟩
        rw [dec_str, decide_eq_true eu]
        have hR4 := s4.sqT hR3
        have hd14 := s4 _ _ hd13
        refine iteT ⟨_, rfl, b, _, _, .ref q, rfl, rfl, hR4, atI_nat (j := 1) rfl, q, C, dx4, _, _, rfl, hq14, S.cl, S.nT, modF_ties _ _ _ _, _, rfl, d, _, rfl, gd_t hd14, tiesD m.ts, tiesD m.ts, dp_ties hq34, dp_ties ((hd3.same s3).same s4), shaped_of (lay_tiesD _) (by decide), shaped_of (lay_tiesD _) (by decide), _, rfl, ?_⟩
        rw [eqv_tiesD, decide_eq_true rfl]
        refine iteT ⟨_, rfl, b, _, _, .ref q, rfl, rfl, hR4, atI_nat (j := 1) rfl, q, C, dx4, _, _, rfl, hq14, S.cl, S.nW, modF_weights _ _ _ _, _, rfl, d, _, rfl, gd_w hd14, tabD m.ws, tabD m.ws, dp_rows hq24, dp_rows ((hd2.same s3).same s4), shaped_of (lay_tabD _) (by decide), shaped_of (lay_tabD _) (by decide), ?_⟩
        rw [eqv_tabD, decide_eq_true rfl]
        exact k H4 ((s12.trans s3).trans s4)
    · refine ⟨_, rfl, _, rfl, .inr ⟨ty, t1 _ (Same.refl H), t2, fun a H1 s1 hD => ⟨_, rfl, _, rfl, .inr ⟨ty, t1 _ s1, t2, fun b H2 s2 hR => ⟨_, _, rfl, ?_⟩⟩⟩⟩⟩
      have hD : SqT K H1 a [.str "line", .int ((0 : Nat) : Int)] := hD
      have hR : SqT K H2 b [.str "line", .int ((0 : Nat) : Int)] := hR
      have hD2 := s2.sqT hD
      refine ⟨_, rfl, a, _, _, .str "line", rfl, rfl, hD2, atI_nat (j := 0) rfl, rfl, _, rfl, ?_⟩
      rw [dec_str, nl]
      exact iteT ⟨_, rfl, _, rfl, lineC 0 a b H2 (s1.trans s2) hD2 hR⟩
end
end Law

namespace L2
open PySem PySem.Spec PyProof.Rows TL
theorem spl_nl : ∀ ps : List (List Nat), (∀ p ∈ ps, 10 ∉ p) → spl [10] 0 [] (ps.flatMap fun l => l ++ [10]) = ps ++ [[]]
  | [], _ => rfl
  | p :: ps, h => by
    have ih := spl_nl ps fun q hq => h q (List.mem_cons_of_mem _ hq)
    rw [List.flatMap_cons, List.append_assoc, spl_part1 (h p List.mem_cons_self), List.nil_append, ih] <;> rfl
theorem lines_free {m : Mdl} {l : List Nat} (h : l ∈ linesT m) : 10 ∉ l := by
  unfold linesT at h
  have nb : ∀ {wd : Str} {r : List Nat}, 10 ∉ tl wd → 10 ∉ r → 10 ∉ tl wd ++ 32 :: r := fun h1 h2 z => by
    rcases List.mem_append.mp z with z | z
    · exact h1 z
    · rcases List.mem_cons.mp z with z | z
      · cases z
      · exact h2 z
  have nn : ∀ n, 10 ∉ numL n := fun n => numL_free (.inl (by decide))
  have nr : ∀ l, 10 ∉ rowT l := fun l => rowT_free l (by decide) (.inl (by decide))
  rcases List.mem_cons.mp h with rfl | h
  · exact nb (by rw [t_places]; decide) (nn _)
  rcases List.mem_cons.mp h with rfl | h
  · exact nb (by rw [t_levels]; decide) (nn _)
  rcases List.mem_append.mp h with h | h
  · obtain ⟨r, _, rfl⟩ := List.mem_map.mp h
    exact nb (by rw [t_weights]; decide) (nr _)
  · obtain ⟨t, _, rfl⟩ := List.mem_map.mp h
    unfold tieT
    intro z
    rcases List.mem_append.mp z with z | z
    · rcases List.mem_append.mp z with z | z
      · refine nb (by rw [t_tie]; decide) (fun z => ?_) z
        rcases List.mem_append.mp z with z | z
        · exact nn _ z
        · rcases List.mem_cons.mp z with z | z
          · cases z
          · exact nn _ z
      · revert z; decide
    · have key : ∀ ps : List (List Int), 10 ∉ joinL [32, 124, 32] (ps.map rowT) := fun ps => by
        induction ps with
        | nil => exact List.not_mem_nil
        | cons p ps ih =>
          cases ps with
          | nil => exact nr p
          | cons q r =>
            intro z
            rcases List.mem_append.mp (show 10 ∈ rowT p ++ ([32, 124, 32] ++ joinL [32, 124, 32] ((q :: r).map rowT)) from z) with z | z
            · exact nr p z
            · rcases List.mem_append.mp z with z | z
              · revert z; decide
              · exact ih z
      exact key _ z
abbrev mkS (l : List Nat) : Str := ⟨l.toArray⟩
theorem text_linesM {m : Mdl} {x : Str} (h : tl x = modT m) : Txt.split x ⟨#[10]⟩ = (linesT m).map mkS ++ [Str.empty] := by
  have hy : tl (⟨#[10]⟩ : Str) = [10] := rfl
  refine map_tl_inj ?_
  rw [split_spl x _ (by rw [hy]; simp) (kind_ok (by simp)), hy, h]
  unfold modT
  rw [spl_nl _ fun p hp => lines_free hp, List.map_append, List.map_map]
  congr 1
  exact (List.map_id _).symm
theorem readM_back {m : Mdl} {x : Str} (h : tl x = modT m) (m0 : 0 ≤ m.many) (m1 : m.many < 10 ^ 12) (l0 : 0 ≤ m.levels) (l1 : m.levels < 10 ^ 12) (hw : (m.ws.length : Int) = m.many) (hr : ∀ l ∈ m.ws, RowSm l) (ht : ∀ t ∈ m.ts, TieSm t) : readM (Txt.split x ⟨#[10]⟩) = madeM m := by
  rw [text_linesM h, readM_by]
  generalize hb : (linesT m).map mkS = body
  have hb' : body = mkS (tl ("places" : Str) ++ 32 :: numL m.many.toNat) :: mkS (tl ("levels" : Str) ++ 32 :: numL m.levels.toNat) :: ((m.ws.map fun l => mkS (tl ("weights" : Str) ++ 32 :: rowT l)) ++ m.ts.map fun t => mkS (tieT t)) := by
    rw [← hb]
    unfold linesT
    rw [List.map_cons, List.map_cons, List.map_append, List.map_map, List.map_map] <;> rfl
  have hm0 : many0 body = m.many := by
    rw [hb']
    show (headW "places" _).getD 0 = _
    rw [head_backW n_places m0 m1] <;> rfl
  have bl : body.length = 2 + m.ws.length + m.ts.length := by
    rw [hb', List.length_cons, List.length_cons, List.length_append, List.length_map, List.length_map]
    omega
  have pe : prts body = (Prt.num m.many :: Prt.num m.levels :: (m.ws.map Prt.row ++ m.ts.map Prt.tie)).map some := by
    refine List.ext_getElem? fun j => ?_
    rw [List.getElem?_map]
    cases hj : body[j]? with
    | none =>
      have := List.getElem?_eq_none_iff.mp hj
      rw [List.getElem?_eq_none (by rw [prts_len]; exact this), List.getElem?_eq_none (by simp only [List.length_cons, List.length_append, List.length_map]; omega)] <;> rfl
    | some y =>
      rw [prts_at hj, hm0]
      rw [hb'] at hj
      cases j with
      | zero =>
        cases hj
        rw [prtO_0, head_backW n_places m0 m1] <;> rfl
      | succ j =>
        cases j with
        | zero =>
          cases hj
          rw [prtO_1, head_backW n_levels l0 l1] <;> rfl
        | succ j =>
          have hj : ((m.ws.map fun l => mkS (tl ("weights" : Str) ++ 32 :: rowT l)) ++ m.ts.map fun t => mkS (tieT t))[j]? = some y := hj
          show some (prtO (j + 2) m.many y) = ((m.ws.map Prt.row ++ m.ts.map Prt.tie)[j]?).map some
          unfold prtO
          rw [if_neg (by omega), if_neg (by omega)]
          by_cases c : j < m.ws.length
          · rw [List.getElem?_append_left (by rw [List.length_map]; exact c), List.getElem?_map, List.getElem?_eq_getElem c] at hj
            cases hj
            rw [if_pos (by omega), List.getElem?_append_left (by rw [List.length_map]; exact c), List.getElem?_map, List.getElem?_eq_getElem c]
            show some ((rowW (mkS _)).map Prt.row) = _
            rw [row_back (hr _ (List.getElem_mem c))] <;> rfl
          · rw [List.getElem?_append_right (by rw [List.length_map]; omega), List.length_map, List.getElem?_map] at hj
            obtain ⟨t, h1, rfl⟩ := Option.map_eq_some_iff.mp hj
            rw [if_neg (by omega), List.getElem?_append_right (by rw [List.length_map]; omega), List.length_map, List.getElem?_map, h1]
            show some ((tieO (mkS _)).map Prt.tie) = _
            rw [tie_back (ht _ (List.mem_of_getElem? h1))] <;> rfl
  unfold endM
  rw [pe, firstNo_somes, fm_somes]
  show (if _ then _ else _) = _
  rw [if_pos ⟨rfl, by rw [hb']; simp, by rw [hm0, bl]; omega⟩]
  congr 1
  have wl : m.many.toNat = (m.ws.map Prt.row).length := by rw [List.length_map]; omega
  show (⟨m.many, m.levels, ((m.ws.map Prt.row ++ m.ts.map Prt.tie).take m.many.toNat).map rowP, ((m.ws.map Prt.row ++ m.ts.map Prt.tie).drop m.many.toNat).map tieP⟩ : Mdl) = m
  rw [wl, List.take_left, List.drop_left, List.map_map, List.map_map]
  have e1 : m.ws.map (rowP ∘ Prt.row) = m.ws := List.map_id _
  have e2 : m.ts.map (tieP ∘ Prt.tie) = m.ts := List.map_id _
  rw [e1, e2]
end L2
namespace Law
open PySem L2 TL
def rJoinK (K : PySem.W.Frag) : V → List V → Hp → VK → Prop := fun x xs H Q => ∃ (a : Str) (p : Addr) (ys : List Str), x = V.str a ∧ xs = [V.ref p] ∧ (SqL K H p (ys.map V.str) ∨ SqT K H p (ys.map V.str)) ∧ (ys.map (·.length)).sum + ys.length * a.length ≤ 16777216 ∧ Q (.str (Txt.join a ys)) H
section
variable {P : Program} {w : World} {K : PySem.W.Frag} {mg : Str → Option Value} {base : Heap}
def spTxt (K : PySem.W.Frag) : Sp := fun vs H Q _ => ∃ (d : Addr) (m : Mdl), vs = [.ref d] ∧ DicAt K H d m ∧ MdlSm m ∧ ∀ t H', Same H H' → tl t = modT m → Q (.str t) H'
abbrev nLawText : List Str := ["_law_one", "_law_lines", "_law_first", "_law_second", "_law_table", "_law_rows", "_law_row", "_law_weight", "_law_number_here", "_law_line_here"]
theorem scLawText : FnScope nLawText ["_law_one"] (defScope s_law_text) := ⟨rfl, rfl, rfl, by decide +kernel, rfl, by decide +kernel, by decide +kernel⟩
theorem ok_text {f : Addr} {fd : FuncData} (F : Fun K "_law_text" "_law_text" s_law_text f fd) (T : NmA mg) : FnOk P w K mg base CX0 1 f fd ["_law_one"] (spTxt K) := by
  refine F.ok scLawText (fun vs H Q E h => ?_) (fun cdv A' outer s H vs Q E hr h => ?_)
  · obtain ⟨d, m, rfl, _⟩ := h
    rfl
  · obtain ⟨d, m, rfl, hD, sm, k⟩ := h
    have hu := hu_of hr
    refine ⟨_, pss_cons (ps_set (i := 1) scLawText.nd rfl (Or.inl rfl) (pe_lst (pa_cons (pe_op op_add_str pe_str (pe_callTy call_str_int (by rfl) T.str (by decide +kernel) (pa_cons (pe_dget hu (pv 0) pe_str (fun _ _ => rfl)) pa_nil))) (pa_cons (pe_op op_add_str pe_str (pe_callTy call_str_int (by rfl) T.str (by decide +kernel) (pa_cons (pe_dget hu (pv 0) pe_str (fun _ _ => rfl)) pa_nil))) pa_nil))))
      (pss_cons (ps_expr (pe_bm PySem.F.plainAttrs_list PySem.F.slot_list_extend PySem.F.type_list_extend mt_extend (pv 1) (pa_cons (pe_lc (own := [("_law_row", 6)]) (g := (gName 6)) (tt := tYes) rfl scLawText.nd  (pi_tup (pe_dget hu (pv 0) pe_str (fun _ _ => rfl))) (blkOk_by (own := [("_law_row", 6)]) (N := nLawText) (sc := defScope s_law_text) (by decide +kernel)) (fun _ _ _ _ _ => (pg_name (i := 6) scLawText.nd rfl (Or.inl rfl))) (fun _ _ _ _ _ => pts_nil) (fun _ _ _ _ _ => (pe_m1 PySem.F.slot_str_join PySem.F.type_str_join (show MtR _ "str.join" (rJoinK K) from mt_join) pe_str (pe_op op_cat (pe_lst (pa_cons pe_str pa_nil)) (pe_lc (own := [("_law_weight", 7)]) (g := (gName 7)) (tt := tYes) rfl scLawText.nd  (show PI _ _ _ (iTup K _) from pi_tup (pv 6)) (blkOk_by (own := [("_law_weight", 7)]) (N := nLawText) (sc := ({ kind := .function, names := [(".0", .local), ("_law_row", .local)], isGenerator := false, isCoroutine := false } : Scope)) (by decide +kernel)) (fun _ _ _ _ _ => (pg_name (i := 7) scLawText.nd rfl (Or.inl rfl))) (fun _ _ _ _ _ => pts_nil) (fun _ _ _ _ _ => (pe_callTy call_str_int (by rfl) T.str (by decide +kernel) (pa_cons (pv 7) pa_nil)))))))) pa_nil)))
      (pss_cons (ps_for PassesOwn.never rfl (pi_tup (pe_dget hu (pv 0) pe_str (fun _ _ => rfl))) (pg_tup (by rfl) (pgs_cons (pg_name (i := 2) scLawText.nd rfl (Or.inl rfl)) (pgs_cons (pg_name (i := 3) scLawText.nd rfl (Or.inl rfl)) (pgs_cons (pg_name (i := 4) scLawText.nd rfl (Or.inl rfl)) pgs_nil))))
        (pss_cons (ps_set (i := 5) scLawText.nd rfl (Or.inl rfl) (pe_m1 PySem.F.slot_str_join PySem.F.type_str_join mt_join pe_str (pe_lc (own := [("_law_row", 6)]) (g := (gName 6)) (tt := tYes) rfl scLawText.nd  (pi_tup (pv 4)) (blkOk_by (own := [("_law_row", 6)]) (N := nLawText) (sc := defScope s_law_text) (by decide +kernel)) (fun _ _ _ _ _ => (pg_name (i := 6) scLawText.nd rfl (Or.inl rfl))) (fun _ _ _ _ _ => pts_nil) (fun _ _ _ _ _ => (pe_m1 PySem.F.slot_str_join PySem.F.type_str_join (show MtR _ "str.join" (rJoinK K) from mt_join) pe_str (pe_lc (own := [("_law_number_here", 8)]) (g := (gName 8)) (tt := tYes) rfl scLawText.nd  (show PI _ _ _ (iTup K _) from pi_tup (pv 6)) (blkOk_by (own := [("_law_number_here", 8)]) (N := nLawText) (sc := ({ kind := .function, names := [(".0", .local), ("_law_row", .local)], isGenerator := false, isCoroutine := false } : Scope)) (by decide +kernel)) (fun _ _ _ _ _ => (pg_name (i := 8) scLawText.nd rfl (Or.inl rfl))) (fun _ _ _ _ _ => pts_nil) (fun _ _ _ _ _ => (pe_callTy call_str_int (by rfl) T.str (by decide +kernel) (pa_cons (pv 8) pa_nil)))))))))
        (pss_one (ps_expr (pe_bm PySem.F.plainAttrs_list PySem.F.slot_list_append PySem.F.type_list_append mt_append (pv 1) (pa_cons (pe_op op_add_str (pe_op op_add_str (pe_op op_add_str (pe_op op_add_str (pe_op op_add_str pe_str (pe_callTy call_str_int (by rfl) T.str (by decide +kernel) (pa_cons (pv 2) pa_nil))) pe_str) (pe_callTy call_str_int (by rfl) T.str (by decide +kernel) (pa_cons (pv 3) pa_nil))) pe_str) (pv 5)) pa_nil))))))
      (pss_one (ps_ret (pe_m1 PySem.F.slot_str_join PySem.F.type_str_join mt_join pe_str (pe_lc (own := [("_law_line_here", 9)]) (g := (gName 9)) (tt := tYes) rfl scLawText.nd  (pi_list (pv 1)) (blkOk_by (own := [("_law_line_here", 9)]) (N := nLawText) (sc := defScope s_law_text) (by decide +kernel)) (fun _ _ _ _ _ => (pg_name (i := 9) scLawText.nd rfl (Or.inl rfl))) (fun _ _ _ _ _ => pts_nil) (fun _ _ _ _ _ => (pe_op op_add_str (pv 9) pe_str)))))))), ?_⟩
    obtain ⟨wa, ta, hd, ⟨ws, hW, hWA⟩, ts, hT, hTA⟩ := id hD
    have wl := hWA.1
    have tl0 := hTA.1
    have c_pl : ("places " : Str).length = 7 := by decide +kernel
    have c_lv : ("levels " : Str).length = 7 := by decide +kernel
    have c_we : ("weights" : Str).length = 7 := by decide +kernel
    have c_nl : ("\n" : Str).length = 1 := by decide +kernel
    have c_sp : (" " : Str).length = 1 := by decide +kernel
    have t_pl : tl ("places " : Str) = tl ("places" : Str) ++ [32] := by decide +kernel
    have t_lv : tl ("levels " : Str) = tl ("levels" : Str) ++ [32] := by decide +kernel
    have m1 := sm.m1
    have l1 := sm.l1
    have m0 := sm.m0
    have l0 := sm.l0
    have n1 : (Str.ofString (toString m.many)).length ≤ 2 := by
      rw [len_tl, tl_str m0]
      exact numP_len m0 (by omega)
    have n2 : (Str.ofString (toString m.levels)).length ≤ 2 := by
      rw [len_tl, tl_str l0]
      exact numP_len l0 (by omega)
    have lg : ∀ n : Int, 0 ≤ n → n ≤ 1000 → n.natAbs.log2 < 1920 := fun n h0 h1 => logn (Nat.lt_of_le_of_lt (show n.natAbs ≤ 1000 by omega) (by decide))
    refine ⟨_, rfl, d, _, rfl, gd_m hd, m.many, rfl, lg _ m0 (by omega), _, _, rfl, rfl, by rw [sizeLine_eq, c_pl]; omega, ?_⟩
    refine ⟨_, rfl, d, _, rfl, gd_l hd, m.levels, rfl, lg _ l0 (by omega), _, _, rfl, rfl, by rw [sizeLine_eq, c_lv]; omega, by show 2 ≤ sizeLine; decide, fun L hL => ?_⟩
    refine new_step hL fun H1 s1 e1 => ?_
    generalize hA0 : ([("places " : Str) ++ Str.ofString (toString m.many), ("levels " : Str) ++ Str.ofString (toString m.levels)] : List Str) = A0
    have e1 : H1 L = some (.lst (A0.map V.str)) := by rw [← hA0]; exact e1
    have a0 : A0.map tl = [tl ("places" : Str) ++ 32 :: numL m.many.toNat, tl ("levels" : Str) ++ 32 :: numL m.levels.toNat] := by
      rw [← hA0, List.map_cons, List.map_cons, List.map_nil, tl_append, tl_append, t_pl, t_lv, tl_str m0, tl_str l0, List.append_assoc, List.append_assoc] <;> rfl
    have al0 : A0.length = 2 := by rw [← hA0] <;> rfl
    refine ⟨_, rfl, .inl ⟨rfl, _, SqL.of e1⟩, _, rfl, d, _, rfl, gd_w (s1 _ _ hd), wa, rfl, ⟨_, s1.sqT hW⟩, fun D hD1 => ?_⟩
    refine lc_tup (K := K) (a := wa) (xs := ws) (fun i H' => Same H1 H' ∧ ∃ ss : List Str, H' D = some (.lst (ss.map V.str)) ∧ ss.map tl = (m.ws.take i).map (fun l => tl ("weights" : Str) ++ 32 :: rowT l)) ⟨Same.new hD1, [], upd_same, rfl⟩ (fun i H' _ g => (s1.trans g.1).sqT hW) (fun i x H2 hi g => ?_) fun H2 g => ?_
    · obtain ⟨s2, ss, g1, g2⟩ := g
      obtain ⟨l, hl, a, rfl, ha⟩ := hWA.2 i x hi
      obtain ⟨r1, r0, r2⟩ := sm.wr l (List.mem_of_getElem? hl)
      have il := (List.getElem?_eq_some_iff.mp hl).1
      have swl := sm.wl
      have sl : ss.length = i := by
        have z := congrArg List.length g2
        rw [List.length_map, List.length_map, List.length_take] at z
        omega
      refine ⟨rfl, ⟨_, rfl⟩, by show 1 ≤ sizeLine; decide, fun A hA => ?_⟩
      refine new_step hA fun H3 s3 e3 => ?_
      have s13 := (s1.trans s2).trans s3
      refine ⟨_, rfl, a, rfl, ⟨_, s13.sqT ha⟩, fun D2 hD2 => ?_⟩
      refine lc_tup (K := K) (a := a) (xs := l.map V.int) (fun j H' => Same H3 H' ∧ H' D2 = some (.lst ((l.take j).map fun c => V.str (Str.ofString (toString c))))) ⟨Same.new hD2, upd_same⟩ (fun j H' _ g => (s13.trans g.1).sqT ha) (fun j y H4 hj g => ?_) fun H4 g => ?_
      · obtain ⟨s4, g4⟩ := g
        rw [List.getElem?_map] at hj
        obtain ⟨c, hc, rfl⟩ := Option.map_eq_some_iff.mp hj
        obtain ⟨c0, c1⟩ := r2 c (List.mem_of_getElem? hc)
        have jl := (List.getElem?_eq_some_iff.mp hc).1
        refine ⟨rfl, _, rfl, c, rfl, lg _ c0 c1, _, g4, ?_, s4.mut hD2, ?_⟩
        · rw [List.length_map, List.length_take]
          exact small1000 (by omega)
        · rw [upd_same, List.take_add_one, hc, List.map_append] <;> rfl
      · obtain ⟨s4, g4⟩ := g
        rw [List.length_map, List.take_length] at g4
        have e4 := s4 _ _ e3
        refine ⟨A, D2, _, _, rfl, rfl, e4, g4, by rw [List.length_map, sizeLine_eq]; show 1 + _ ≤ _; omega, fun p hp => ?_⟩
        refine new_step hp fun H5 s5 e5 => ?_
        have jt : tl (Txt.join (" " : Str) (("weights" : Str) :: l.map fun c => Str.ofString (toString c))) = tl ("weights" : Str) ++ 32 :: rowT l := by
          rw [join_eq, tl_join, one_sp, List.map_cons, List.map_map]
          cases l with
          | nil => exact absurd rfl r0
          | cons b r =>
            show tl ("weights" : Str) ++ ([32] ++ joinL [32] ((b :: r).map (tl ∘ fun c => Str.ofString (toString c)))) = _
            have : (b :: r).map (tl ∘ fun c => Str.ofString (toString c)) = (b :: r).map fun s => numL s.toNat := List.map_congr_left fun c hc => tl_str (r2 c hc).1
            rw [this] <;> rfl
        have sb : ((("weights" : Str) :: l.map fun c => Str.ofString (toString c)).map (·.length)).sum ≤ 7 + l.length * 4 := by
          have z := natsum_le (c := 4) ((l.map fun c => Str.ofString (toString c)).map (·.length)) fun y hy => by
            obtain ⟨q, hq, rfl⟩ := List.mem_map.mp hy
            obtain ⟨c, hc, rfl⟩ := List.mem_map.mp hq
            obtain ⟨a0, a1⟩ := r2 c hc
            rw [len_tl, tl_str a0]
            exact numS_len a0 a1
          rw [List.length_map, List.length_map] at z
          rw [List.map_cons, List.sum_cons, c_we]
          omega
        have s25 := (s3.trans s4).trans s5
        refine ⟨_, p, ("weights" : Str) :: l.map fun c => Str.ofString (toString c), rfl, rfl, .inl (SqL.of (by rw [e5, List.map_cons, List.map_map] <;> rfl)), ?_, _, s25 _ _ g1, by rw [List.length_map, sl]; exact small1000 (by omega), (s2.trans s25).mut hD1, ss ++ [Txt.join (" " : Str) (("weights" : Str) :: l.map fun c => Str.ofString (toString c))], by rw [upd_same, List.map_append] <;> rfl, ?_⟩
        · rw [List.length_cons, List.length_map, c_sp]
          omega
        · rw [List.map_append, g2, List.take_add_one, hl, List.map_append]
          show _ ++ [tl _] = _ ++ [_]
          rw [jt]
    · obtain ⟨s2, ss, g1, g2⟩ := g
      rw [wl, List.take_length] at g2
      have ssl : ss.length = m.ws.length := by
        have z := congrArg List.length g2
        rw [List.length_map, List.length_map] at z
        exact z
      have swl := sm.wl
      have e2 := s2 _ _ e1
      refine ⟨L, D, _, _, rfl, rfl, e2, g1, by rw [List.length_map, List.length_map, al0, ssl, sizeLine_eq]; omega, ?_⟩
      have s3 : Same H (upd H2 L (.lst (A0.map V.str ++ ss.map V.str))) := (s1.trans s2).mut hL
      have e3 : (upd H2 L (.lst (A0.map V.str ++ ss.map V.str))) L = some (.lst ((A0 ++ ss).map V.str)) := by rw [upd_same, List.map_append]
      generalize upd H2 L (.lst (A0.map V.str ++ ss.map V.str)) = H3 at s3 e3 ⊢
      have g3 : (A0 ++ ss).map tl = A0.map tl ++ m.ws.map (fun l => tl ("weights" : Str) ++ 32 :: rowT l) := by rw [List.map_append, g2]
      have sl3 : (A0 ++ ss).length = m.ws.length + 2 := by rw [List.length_append, al0, ssl]; omega
      generalize A0 ++ ss = ss at e3 g3 sl3
      refine ⟨_, rfl, d, _, rfl, gd_t (s3 _ _ hd), ta, rfl, ⟨_, s3.sqT hT⟩, for_tup (K := K) (a := ta) (xs := ts) (fun i σ H' => (Same H H' ∧ ∃ s3 : List Str, H' L = some (.lst (s3.map V.str)) ∧ s3.map tl = ss.map tl ++ (m.ts.take i).map tieT) ∧ ∃ u1 u2 u3 u4 : Option V, σ = [some (.ref d), some (.ref L), u1, u2, u3, u4, none, none, none, none]) ⟨⟨s3, ss, e3, by rw [List.take_zero, List.map_nil, List.append_nil]⟩, _, _, _, _, rfl⟩ (fun i σ H' _ h => h.1.1.sqT hT) ?_ ?_⟩
      · rintro i x σ H3 hi ⟨⟨s3, s3l, g3', g4⟩, u1, u2, u3, u4, rfl⟩
        obtain ⟨t, ht, a, b, rfl, ha, vs, hV, hVA⟩ := hTA.2 i x hi
        obtain ⟨p0, p1, r1, _, r2⟩ := sm.tr t (List.mem_of_getElem? ht)
        have il := (List.getElem?_eq_some_iff.mp ht).1
        have stl := sm.tl
        have sl3' : s3l.length = m.ws.length + 2 + i := by
          have z := congrArg List.length g4
          rw [List.length_map, List.length_append, List.length_map, List.length_map, List.length_take] at z
          omega
        refine ⟨a, _, rfl, s3.sqT ha, rfl, _, _, rfl, _, _, rfl, _, _, rfl, rfl, ?_⟩
        have k1 : (Str.ofString (toString t.1.1)).length ≤ 2 := by
          rw [len_tl, tl_str p0.1]
          exact numP_len p0.1 (by omega)
        have k2 : (Str.ofString (toString t.1.2)).length ≤ 2 := by
          rw [len_tl, tl_str p1.1]
          exact numP_len p1.1 (by omega)
        have c_ti : ("tie " : Str).length = 4 := by decide +kernel
        have c_cs : (": " : Str).length = 2 := by decide +kernel
        have c_ba : (" | " : Str).length = 3 := by decide +kernel
        have t_ti : tl ("tie " : Str) = tl ("tie" : Str) ++ [32] := by decide +kernel
        have t_ba : tl (" | " : Str) = [32, 124, 32] := by decide +kernel
        have hvl := hVA.1
        refine ⟨⟨_, rfl⟩, _, rfl, b, rfl, ⟨_, s3.sqT hV⟩, fun D hD => ?_⟩
        refine lc_tup (K := K) (a := b) (xs := vs) (fun j H' => Same H3 H' ∧ ∃ rs : List Str, H' D = some (.lst (rs.map V.str)) ∧ rs.map tl = (t.2.take j).map rowT) ⟨Same.new hD, [], upd_same, rfl⟩ (fun j H' _ g => (s3.trans g.1).sqT hV) (fun j y H4 hj g => ?_) fun H4 g => ?_
        · obtain ⟨s4, rs, g5, g6⟩ := g
          obtain ⟨l, hl, c, rfl, hc⟩ := hVA.2 j y hj
          obtain ⟨q1, _, q2⟩ := r2 l (List.mem_of_getElem? hl)
          have jl := (List.getElem?_eq_some_iff.mp hl).1
          have rsl : rs.length = j := by
            have z := congrArg List.length g6
            rw [List.length_map, List.length_map, List.length_take] at z
            omega
          have s34 := s3.trans s4
          refine ⟨rfl, ⟨_, rfl⟩, _, rfl, c, rfl, ⟨_, s34.sqT hc⟩, fun D2 hD2 => ?_⟩
          refine lc_tup (K := K) (a := c) (xs := l.map V.int) (fun j H' => Same H4 H' ∧ H' D2 = some (.lst ((l.take j).map fun c => V.str (Str.ofString (toString c))))) ⟨Same.new hD2, upd_same⟩ (fun j H' _ g => (s34.trans g.1).sqT hc) (fun j y H5 hj g => ?_) fun H5 g => ?_
          · obtain ⟨s5, g7⟩ := g
            rw [List.getElem?_map] at hj
            obtain ⟨c, hc, rfl⟩ := Option.map_eq_some_iff.mp hj
            obtain ⟨c0, c1⟩ := q2 c (List.mem_of_getElem? hc)
            have jl := (List.getElem?_eq_some_iff.mp hc).1
            refine ⟨rfl, _, rfl, c, rfl, lg _ c0 c1, _, g7, ?_, s5.mut hD2, ?_⟩
            · rw [List.length_map, List.length_take]
              exact small1000 (by omega)
            · rw [upd_same, List.take_add_one, hc, List.map_append] <;> rfl
          · obtain ⟨s5, g7⟩ := g
            rw [List.length_map, List.take_length] at g7
            have jt : tl (Txt.join (" " : Str) (l.map fun c => Str.ofString (toString c))) = rowT l := by
              rw [join_eq, tl_join, one_sp, List.map_map]
              exact congrArg (joinL [32]) (List.map_congr_left fun c hc => tl_str (q2 c hc).1)
            have sb : ((l.map fun c => Str.ofString (toString c)).map (·.length)).sum ≤ (l.map fun c => Str.ofString (toString c)).length * 4 := by
              have z := natsum_le (c := 4) ((l.map fun c => Str.ofString (toString c)).map (·.length)) fun y hy => by
                obtain ⟨q, hq, rfl⟩ := List.mem_map.mp hy
                obtain ⟨c, hc, rfl⟩ := List.mem_map.mp hq
                obtain ⟨a0, a1⟩ := q2 c hc
                rw [len_tl, tl_str a0]
                exact numS_len a0 a1
              rw [List.length_map (as := l.map _)] at z
              exact z
            rw [List.length_map] at sb
            refine ⟨_, D2, l.map fun c => Str.ofString (toString c), rfl, rfl, .inl (SqL.of (by rw [List.map_map]; exact g7)), ?_, _, s5 _ _ g5, by rw [List.length_map, rsl]; exact small1000 (by omega), (s4.trans s5).mut hD, rs ++ [Txt.join (" " : Str) (l.map fun c => Str.ofString (toString c))], by rw [upd_same, List.map_append] <;> rfl, ?_⟩
            · rw [List.length_map, c_sp]
              omega
            · rw [List.map_append, g6, List.take_add_one, hl, List.map_append]
              show _ ++ [tl _] = _ ++ [rowT l]
              rw [jt]
        · obtain ⟨s4, rs, g5, g6⟩ := g
          rw [hvl, List.take_length] at g6
          have rsl : rs.length = t.2.length := by
            have z := congrArg List.length g6
            rw [List.length_map, List.length_map] at z
            exact z
          have jt : tl (Txt.join (" | " : Str) rs) = joinL [32, 124, 32] (t.2.map rowT) := by
            rw [join_eq, tl_join, t_ba, g6]
          have jl := rowsT_len (t := t.2) ⟨r1, fun l hl => ⟨(r2 l hl).1, (r2 l hl).2.2⟩⟩
          have jlen : (Txt.join (" | " : Str) rs).length ≤ 92 := by rw [len_tl, jt]; exact jl
          have sb : (rs.map (·.length)).sum ≤ rs.length * 20 := by
            have z := natsum_le (c := 20) (rs.map (·.length)) fun y hy => by
              obtain ⟨u, hu6, rfl⟩ := List.mem_map.mp hy
              have : tl u ∈ t.2.map rowT := by rw [← g6]; exact List.mem_map.mpr ⟨u, hu6, rfl⟩
              obtain ⟨l, hl, e⟩ := List.mem_map.mp this
              rw [len_tl, ← e]
              exact rowT_len ⟨(r2 l hl).1, (r2 l hl).2.2⟩
            rw [List.length_map] at z
            exact z
          refine ⟨_, D, rs, rfl, rfl, .inl (SqL.of g5), by rw [c_ba]; omega, ?_⟩
          have g3b := s4 _ _ g3'
          refine ⟨_, rfl, .inl ⟨rfl, _, SqL.of g3b⟩, _, rfl, t.1.1, rfl, lg _ p0.1 (by omega), _, _, rfl, rfl, by rw [sizeLine_eq, c_ti]; omega, _, _, rfl, rfl, by rw [sizeLine_eq, Str.length_append, c_ti, c_sp]; omega, _, rfl, t.1.2, rfl, lg _ p1.1 (by omega), _, _, rfl, rfl, by rw [sizeLine_eq, Str.length_append, Str.length_append, c_ti, c_sp]; omega, _, _, rfl, rfl, by rw [sizeLine_eq, Str.length_append, Str.length_append, Str.length_append, c_ti, c_sp, c_cs]; omega, _, rfl, _, _, rfl, rfl, ?_, L, _, _, rfl, rfl, g3b, by rw [List.length_map, sl3']; exact small1000 (by omega), ⟨(s3.trans s4).mut hL, s3l ++ [("tie " : Str) ++ Str.ofString (toString t.1.1) ++ (" " : Str) ++ Str.ofString (toString t.1.2) ++ (": " : Str) ++ Txt.join (" | " : Str) rs], ?_, ?_⟩, _, _, _, _, rfl⟩
          · rw [Str.length_append, Str.length_append, Str.length_append, Str.length_append, c_ti, c_sp, c_cs, sizeLine_eq]
            omega
          · rw [upd_same, List.map_append] <;> rfl
          · rw [List.map_append, g4, List.take_add_one, ht]
            simp only [Option.toList, List.map_append, List.map_cons, List.map_nil, List.append_assoc]
            congr 3
            rw [tl_append, tl_append, tl_append, tl_append, tl_append, jt, t_ti, tl_str p0.1, tl_str p1.1, one_sp, cs_is]
            unfold tieT
            simp only [List.append_assoc, List.cons_append, List.nil_append]
            rfl
      · rintro σ H3 ⟨⟨s3, s3l, g3', g4⟩, u1, u2, u3, u4, rfl⟩
        rw [tl0, List.take_length, g3, a0] at g4
        have g4 : s3l.map tl = linesT m := by
          rw [g4]
          unfold linesT
          simp only [List.cons_append, List.nil_append, List.append_assoc]
        have sb : ∀ s ∈ s3l, s.length ≤ 103 := fun s hs => by
          have : tl s ∈ linesT m := by rw [← g4]; exact List.mem_map.mpr ⟨s, hs, rfl⟩
          rw [len_tl]
          exact line_len sm this
        have sl3 : s3l.length = 2 + (m.ws.length + m.ts.length) := by
          have z := congrArg List.length g4
          unfold linesT at z
          rw [List.length_map, List.length_cons, List.length_cons, List.length_append, List.length_map, List.length_map] at z
          omega
        have stl := sm.tl
        refine ⟨⟨_, rfl⟩, _, rfl, L, rfl, ⟨_, SqL.of g3'⟩, fun D hD => ?_⟩
        refine lc_list (K := K) (a := L) (xs := s3l.map V.str) (fun j H' => Same H3 H' ∧ H' D = some (.lst ((s3l.take j).map fun s => V.str (s ++ ("\n" : Str))))) ⟨Same.new hD, upd_same⟩ (fun j H' _ g => SqL.of (g.1 _ _ g3')) (fun j y H4 hj g => ?_) fun H4 g => ?_
        · obtain ⟨s4, g5⟩ := g
          rw [List.getElem?_map] at hj
          obtain ⟨c, hc, rfl⟩ := Option.map_eq_some_iff.mp hj
          have cl := sb c (List.mem_of_getElem? hc)
          have jl := (List.getElem?_eq_some_iff.mp hc).1
          refine ⟨rfl, _, rfl, _, _, rfl, rfl, by rw [sizeLine_eq, c_nl]; omega, _, g5, ?_, s4.mut hD, ?_⟩
          · rw [List.length_map, List.length_take]
            exact small1000 (by omega)
          · rw [upd_same, List.take_add_one, hc, List.map_append] <;> rfl
        · obtain ⟨s4, g5⟩ := g
          rw [List.length_map, List.take_length] at g5
          have sz : ((s3l.map fun s => s ++ ("\n" : Str)).map (·.length)).sum ≤ (s3l.map fun s => s ++ ("\n" : Str)).length * 104 := by
            have z := natsum_le (c := 104) ((s3l.map fun s => s ++ ("\n" : Str)).map (·.length)) fun y hy => by
              obtain ⟨q, hq, rfl⟩ := List.mem_map.mp hy
              obtain ⟨c, hc, rfl⟩ := List.mem_map.mp hq
              have := sb c hc
              rw [Str.length_append, c_nl]
              omega
            rw [List.length_map (as := s3l.map _)] at z
            exact z
          rw [List.length_map] at sz
          refine ⟨_, D, s3l.map fun s => s ++ ("\n" : Str), rfl, rfl, .inl (SqL.of (by rw [List.map_map]; exact g5)), ?_, k _ H4 (s3.trans s4) ?_⟩
          · have c0 : ("" : Str).length = 0 := by decide +kernel
            rw [c0]
            show _ ≤ 16777216
            omega
          · have t0 : tl ("" : Str) = [] := by decide +kernel
            rw [join_eq, tl_join, t0, joinL_nil, List.map_map]
            have : (tl ∘ fun s : Str => s ++ ("\n" : Str)) = (fun l => l ++ [10]) ∘ tl := by
              funext s
              show tl (s ++ ("\n" : Str)) = tl s ++ [10]
              rw [tl_append, one_nl]
            rw [this, ← List.map_map, g4]
            unfold modT
            rw [List.flatMap_def]
end
end Law

namespace L2
open PySem PySem.Spec PyProof.Rows TL
def rTupOf (K : PySem.W.Frag) : List V → Hp → VK → Prop := fun xs H Q => ∃ p ys, xs = [.ref p] ∧ ((SqL K H p ys ∧ ∀ l, H l = none → Q (.ref l) (upd H l (.tup ys))) ∨ (SqT K H p ys ∧ Q (.ref p) H))
/-- a list of ties in the making, all of them right -/
structure TsOk (many levels : Int) (ts : List Tie) : Prop where
  g : ∀ j, j < ts.length → gT many levels ts j = true
  n : ∀ t ∈ ts, 0 ≤ t.1.1 ∧ 0 ≤ t.1.2 ∧ t.2 ≠ [] ∧ ∀ l ∈ t.2, l ≠ [] ∧ ∀ x ∈ l, 0 ≤ x
theorem TsOk.nil {many levels : Int} : TsOk many levels [] := ⟨fun j hj => absurd hj (Nat.not_lt_zero _), fun t ht => absurd ht List.not_mem_nil⟩
theorem lastP_app {ts : List Tie} {t : Tie} {j : Nat} (hj : j ≤ ts.length) : lastP (ts ++ [t]) j = lastP ts j := by
  unfold lastP
  by_cases c : j = 0
  · rw [if_pos c, if_pos c]
  · rw [if_neg c, if_neg c, List.getElem?_append_left (by omega)]
theorem TsOk.snoc {many levels : Int} {ts : List Tie} {t : Tie} (h : TsOk many levels ts) (hb : tieB many levels t = true) (hn : 0 ≤ t.1.1 ∧ 0 ≤ t.1.2 ∧ t.2 ≠ [] ∧ ∀ l ∈ t.2, l ≠ [] ∧ ∀ x ∈ l, 0 ≤ x) (hl : ∀ t' ∈ ts, t'.1.1 < t.1.1 ∨ (t'.1.1 = t.1.1 ∧ t'.1.2 < t.1.2)) : TsOk many levels (ts ++ [t]) := by
  refine ⟨fun j hj => ?_, fun u hu => ?_⟩
  · rw [List.length_append] at hj
    have hj : j < ts.length + 1 := hj
    by_cases c : j < ts.length
    · have g := h.g j c
      unfold gT at g ⊢
      rw [List.getElem?_append_left c, lastP_app (by omega)]
      exact g
    · have e : j = ts.length := by omega
      subst e
      unfold gT
      rw [List.getElem?_append_right (Nat.le_refl _), Nat.sub_self, lastP_app (Nat.le_refl _)]
      show (tieB many levels t && !leP t.1 (lastP ts ts.length)) = true
      rw [hb, Bool.true_and]
      have : leP t.1 (lastP ts ts.length) = false := by
        unfold lastP
        by_cases z : ts.length = 0
        · rw [if_pos z]
          unfold tieB at hb
          simp only [Bool.and_eq_true, decide_eq_true_eq] at hb
          exact leP_0 hn.1 hb.2.1
        · rw [if_neg z, List.getElem?_eq_getElem (show ts.length - 1 < ts.length by omega)]
          show leP t.1 (ts[ts.length - 1]).1 = false
          have := hl _ (List.getElem_mem (show ts.length - 1 < ts.length by omega))
          unfold leP
          rcases this with q | ⟨q1, q2⟩
          · rw [if_neg (by omega)]
            exact decide_eq_false (by omega)
          · rw [if_pos q1.symm]
            exact decide_eq_false (by omega)
      rw [this] <;> rfl
  · rcases List.mem_append.mp hu with hu | hu
    · exact h.n u hu
    · rw [List.mem_singleton.mp hu]
      exact hn
theorem cnt_app (ts : List Tie) (t : Tie) (p : Int) : cntT (ts ++ [t]) p = cntT ts p + if p = t.1.1 ∨ p = t.1.2 then 1 else 0 := by
  have h : (ts ++ [t])[ts.length]? = some t := by rw [List.getElem?_append_right (Nat.le_refl _), Nat.sub_self] <;> rfl
  have z := cnt_snoc h p
  rw [List.take_of_length_le (by rw [List.length_append]; exact Nat.le_refl _), List.take_left] at z
  exact z
theorem made_ok {m : Mdl} (c1 : 1 ≤ m.many ∧ m.many ≤ 12) (c2 : 1 ≤ m.levels ∧ m.levels ≤ 4) (c3 : tabB m.many m.levels m.ws = true) (c4 : TsOk m.many m.levels m.ts) (c5 : ∀ p : Nat, p < m.many.toNat → cntT m.ts (p : Int) ≤ 4) : wrongM m = none := by
  unfold wrongM
  rw [if_neg (fun z => z c1), if_neg (fun z => z c2), if_neg (by rw [c3]; exact Bool.noConfusion)]
  have bm : badT m.many m.levels m.ts = none := rng_none c4.g
  rw [bm]
  show (if crowdB m.many m.ts = true then _ else _) = _
  have : crowdB m.many m.ts = false := by
    unfold crowdB
    refine List.any_eq_false.mpr fun p hp => ?_
    have := c5 p (List.mem_range.mp hp)
    intro z
    have := of_decide_eq_true z
    omega
  rw [if_neg (by rw [this]; exact Bool.noConfusion)]
end L2
namespace Law
open PySem L2
theorem HandAt.dk {H : Hp} {p : Addr} (h : HandAt H p) : ∃ ks, H p = some (.dK ks) := by
  obtain ⟨ca, cells, a, g, s, t, hp, _⟩ := h
  exact ⟨_, hp⟩
theorem HandAt.same {H H' : Hp} {p : Addr} (s : Same H H') (h : HandAt H p) : HandAt H' p := by
  obtain ⟨ca, cells, a, g, s0, t, hp, hc, r⟩ := h
  exact ⟨ca, cells, a, g, s0, t, s _ _ hp, s _ _ hc, r⟩
theorem Stp.pre {p : Addr} {H H1 H2 : Hp} (s : Same H H1) (t : Stp p H1 H2) : Stp p H H2 := ⟨fun b o n e => t.keep b o n (s b o e), fun c ⟨a, g, s0, u, h⟩ => t.cell c ⟨a, g, s0, u, s _ _ h⟩, t.hand⟩
theorem Stp.post {p : Addr} {H H1 H2 : Hp} (t : Stp p H H1) (s : Same H1 H2) : Stp p H H2 := ⟨fun b o n e => s _ _ (t.keep b o n e), fun c hc => by
  obtain ⟨a, g, s0, u, h⟩ := t.cell c hc
  exact ⟨a, g, s0, u, s _ _ h⟩, t.hand.same s⟩
theorem Stp.of {p : Addr} {H H' : Hp} (h : HandAt H p) (s : Same H H') : Stp p H H' := (Stp.refl h).post s
theorem ne_hand {H : Hp} {p D : Addr} (h : HandAt H p) (hD : H D = none) : D ≠ p := fun z => by
  obtain ⟨ks, hp⟩ := h.dk
  rw [z, hp] at hD
  cases hD
theorem rowAt_stp {K : PySem.W.Frag} {p : Addr} {H H' : Hp} {v : V} {l : List Int} (S : Stp p H H') (hh : HandAt H p) (h : RowAt K H v l) : RowAt K H' v l := by
  obtain ⟨a, h1, h2⟩ := h
  exact ⟨a, h1, S.sqT hh h2⟩
theorem rowsAt_stp {K : PySem.W.Frag} {p : Addr} {H H' : Hp} {a : Addr} {t : List (List Int)} (S : Stp p H H') (hh : HandAt H p) (h : RowsAt K H a t) : RowsAt K H' a t := by
  obtain ⟨vs, h1, h2⟩ := h
  exact ⟨vs, S.sqT hh h1, h2.mono fun _ _ => rowAt_stp S hh⟩
theorem tieAt_stp {K : PySem.W.Frag} {p : Addr} {H H' : Hp} {v : V} {t : Tie} (S : Stp p H H') (hh : HandAt H p) (h : TieAt K H v t) : TieAt K H' v t := by
  obtain ⟨a, b, h1, h2, h3⟩ := h
  exact ⟨a, b, h1, S.sqT hh h2, rowsAt_stp S hh h3⟩
theorem rowOk_tab {lv : Int} {t : List (List Int)} {rows : Int} (hl : (t.length : Int) = rows) (h : ∀ l ∈ t, (l.length : Int) = lv ∧ ∀ x ∈ l, 0 ≤ x ∧ x ≤ 1000) : tabB rows lv t = true := by
  unfold tabB
  rw [decide_eq_true hl, Bool.true_and, List.all_eq_true]
  intro l hm
  obtain ⟨a, b⟩ := h l hm
  rw [decide_eq_true a, Bool.true_and, List.all_eq_true]
  exact fun x hx => decide_eq_true (b x hx).2
theorem some_pick {i : Nat} {x : V} (h : ([.int 0, .int 1, .int 1, .int 9, .int 10, .int 1000] : List V)[i]? = some x) : ∃ n : Int, x = .int n ∧ 0 ≤ n ∧ n ≤ 1000 := by
  have m := List.mem_of_getElem? h
  simp only [List.mem_cons, List.not_mem_nil, or_false] at m
  rcases m with rfl | rfl | rfl | rfl | rfl | rfl <;> exact ⟨_, rfl, by decide, by decide⟩
theorem mrgIf {c : TT} {a b : TE} {σ : L2.St} {H : Hp} {Q : VK} (R : V → Hp → Prop) (h : ∀ Q' : VK, (∀ x H1, R x H1 → Q' x H1) → tIf c a b σ H Q') (key : ∀ x H1, R x H1 → Q x H1) : tIf c a b σ H Q := h Q key
end Law
namespace Law
open PySem L2 TL
section
variable {P : Program} {w : World} {K : PySem.W.Frag} {mg : Str → Option Value} {base : Heap}
def spBegun (K : PySem.W.Frag) : Sp := fun vs H Q _ => ∃ p : Addr, vs = [.ref p] ∧ HandAt H p ∧ ∀ (d : Addr) (m : Mdl) (H' : Hp), Stp p H H' → DicAt K H' d m → MdlSm m → wrongM m = none → Q (.ref d) H'
abbrev nLawBegun : List Str := ["_law_hand_here", "_law_many", "_law_levels", "_law_some", "_law_weights", "_law_ties", "_law_places", "_law_first", "_law_second", "_law_table", "_law_place", "_law_value", "_law_row"]
theorem scLawBegun : FnScope nLawBegun ["_law_hand_here"] (defScope s_law_begun) := ⟨rfl, rfl, rfl, by decide +kernel, rfl, by decide +kernel, by decide +kernel⟩
theorem ok_begun {f : Addr} {fd : FuncData} {fA : Addr} {fdA : FuncData} {fD : Addr} {fdD : FuncData} (F : Fun K "_law_begun" "_law_begun" s_law_begun f fd) (T : NmA mg) (A : Cl P w K mg base CX0 2 "_law_any" fA fdA ["_law_hand_here", "_law_things"] (spAny K)) (D : Cl P w K mg base CX0 1 "_law_draw" fD fdD ["_law_hand_here", "_law_many"] spDraw) : FnOk P w K mg base CX0 3 f fd ["_law_hand_here"] (spBegun K) := by
  refine F.ok scLawBegun (fun vs H Q E h => ?_) (fun cdv A' outer s H vs Q E hr h => ?_)
  · obtain ⟨p, rfl, _⟩ := h
    rfl
  · obtain ⟨p, rfl, hH, k⟩ := h
    have hu := hu_of hr
    refine ⟨_, pss_cons (ps_asg (pe_tup (pa_cons (A.call (hr.mono (by decide)) (pa_cons (pv 0) (pa_cons (pe_lst (pa_cons pe_int (pa_cons pe_int (pa_cons pe_int (pa_cons pe_int (pa_cons pe_int (pa_cons (pe_ifExp (pt_cmpR op_eq (D.call (hr.mono (by decide)) (pa_cons (pv 0) (pa_cons pe_int pa_nil))) pe_int (nomark _)) pe_int pe_int) pa_nil))))))) pa_nil))) (pa_cons (pe_op op_add pe_int (D.call (hr.mono (by decide)) (pa_cons (pv 0) (pa_cons pe_int pa_nil)))) pa_nil))) (pg_tup (by rfl) (pgs_cons (pg_name (i := 1) scLawBegun.nd rfl (Or.inl rfl)) (pgs_cons (pg_name (i := 2) scLawBegun.nd rfl (Or.inr rfl)) pgs_nil))))
      (pss_cons (ps_set (i := 3) scLawBegun.nd rfl (Or.inr rfl) (pe_lst (pa_cons pe_int (pa_cons pe_int (pa_cons pe_int (pa_cons pe_int (pa_cons pe_int (pa_cons pe_int pa_nil))))))))
      (pss_cons (ps_set (i := 4) scLawBegun.nd rfl (Or.inl rfl) (pe_callTy call_tuple_of (by rfl) T.tuple (by decide +kernel) (pa_cons (pe_lc (own := [("_law_place", 10)]) (g := (gName 10)) (tt := tYes) rfl scLawBegun.nd  (pi_range1 (by rfl) T.range (pa_cons (pv 1) pa_nil)) (blkOk_by (own := [("_law_place", 10)]) (N := nLawBegun) (sc := defScope s_law_begun) (by decide +kernel)) (fun _ _ _ _ _ => (pg_name (i := 10) scLawBegun.nd rfl (Or.inl rfl))) (fun _ _ _ _ _ => pts_nil) (fun _ _ _ _ _ => (pe_callTy (r := rTupOf K) (show CallR _ (.type "tuple") (rTupOf K) from call_tuple_of) (by rfl) T.tuple (by decide +kernel) (pa_cons (pe_lc (own := [("_law_value", 11)]) (g := (gName 11)) (tt := tYes) rfl scLawBegun.nd  (pi_range1 (by rfl) T.range (pa_cons (pv 2) pa_nil)) (blkOk_by (own := [("_law_value", 11)]) (N := nLawBegun) (sc := ({ kind := .function, names := [(".0", .local), ("_law_place", .local), ("tuple", .globalImplicit), ("range", .globalImplicit), ("_law_hand_here", .cell), ("_law_levels", .cell), ("_law_some", .cell)], isGenerator := false, isCoroutine := false } : Scope)) (by decide +kernel)) (fun _ _ _ _ _ => (pg_name (i := 11) scLawBegun.nd rfl (Or.inl rfl))) (fun _ _ _ _ _ => pts_nil) (fun _ _ _ _ _ => (A.call (hr.mono (by decide)) (pa_cons (pv 0) (pa_cons (pv 3) pa_nil))))) pa_nil)))) pa_nil)))
      (pss_cons (ps_par (i := 5) (j := 6) (by rfl) scLawBegun.nd rfl rfl (by decide) rfl rfl (pa_cons (pe_lst pa_nil) (pa_cons (pe_op op_rep (pe_lst (pa_cons pe_int pa_nil)) (pv 1)) pa_nil)) (by rfl))
      (pss_cons (ps_for PassesOwn.never rfl (pi_range1 (by rfl) T.range (pa_cons (pv 1) pa_nil)) (pg_name (i := 7) scLawBegun.nd rfl (Or.inl rfl))
        (pss_one (ps_for PassesOwn.never rfl (pi_range2 (by rfl) T.range (pa_cons (pe_op op_add (pv 7) pe_int) (pa_cons (pv 1) pa_nil))) (pg_name (i := 8) scLawBegun.nd rfl (Or.inl rfl))
          (pss_one (ps_if (PW.pt (pw_and (pt_cmpR op_eq (D.call (hr.mono (by decide)) (pa_cons (pv 0) (pa_cons pe_int pa_nil))) pe_int (nomark _)) (pw_and (pt_cmpR op_lt (pe_ix ix_list (pv 6) (pv 7) (fun _ _ => rfl)) pe_int (nomark _)) (pw_and1 (pt_cmpR op_lt (pe_ix ix_list (pv 6) (pv 8) (fun _ _ => rfl)) pe_int (nomark _))))))
            (pss_cons (ps_asg (pe_tup (pa_cons (pe_op op_add (pe_ix ix_list (pv 6) (pv 7) (fun _ _ => rfl)) pe_int) (pa_cons (pe_op op_add (pe_ix ix_list (pv 6) (pv 8) (fun _ _ => rfl)) pe_int) pa_nil))) (pg_tup (by rfl) (pgs_cons (pg_sub (pv 6) (pv 7) set_list) (pgs_cons (pg_sub (pv 6) (pv 8) set_list) pgs_nil))))
            (pss_cons (ps_setLc (i := 9) (own := [("_law_row", 12)]) (g := (gName 12)) (tt := tYes) (by rfl) scLawBegun.nd rfl rfl (sw_true rfl rfl rfl (by decide +kernel)) (pi_range1 (by rfl) T.range (pa_cons (pv 2) pa_nil)) (blkOk_by (own := [("_law_row", 12)]) (N := nLawBegun) (sc := defScope s_law_begun) (by decide +kernel)) (fun _ _ _ _ _ => (pg_name (i := 12) scLawBegun.nd rfl (Or.inl rfl))) (fun _ _ _ _ _ => pts_nil) (fun _ _ _ _ _ => (pe_callTy (r := rTupOf K) (show CallR _ (.type "tuple") (rTupOf K) from call_tuple_of) (by rfl) T.tuple (by decide +kernel) (pa_cons (pe_lc (own := [("_law_value", 11)]) (g := (gName 11)) (tt := tYes) rfl scLawBegun.nd  (pi_range1 (by rfl) T.range (pa_cons (pv 2) pa_nil)) (blkOk_by (own := [("_law_value", 11)]) (N := nLawBegun) (sc := ({ kind := .function, names := [(".0", .local), ("_law_row", .local), ("tuple", .globalImplicit), ("range", .globalImplicit), ("_law_hand_here", .cell), ("_law_levels", .cell), ("_law_some", .cell)], isGenerator := false, isCoroutine := false } : Scope)) (by decide +kernel)) (fun _ _ _ _ _ => (pg_name (i := 11) scLawBegun.nd rfl (Or.inl rfl))) (fun _ _ _ _ _ => pts_nil) (fun _ _ _ _ _ => (A.call (hr.mono (by decide)) (pa_cons (pv 0) (pa_cons (pv 3) pa_nil))))) pa_nil))))
            (pss_one (ps_expr (pe_bm PySem.F.plainAttrs_list PySem.F.slot_list_append PySem.F.type_list_append mt_append (pv 5) (pa_cons (pe_tup (pa_cons (pv 7) (pa_cons (pv 8) (pa_cons (pe_callTy call_tuple_of (by rfl) T.tuple (by decide +kernel) (pa_cons (pv 9) pa_nil)) pa_nil)))) pa_nil)))))) pss_nil)))))
      (pss_one (ps_ret (pe_disp (pps_cons pe_str (pv 1) (pps_cons pe_str (pv 2) (pps_cons pe_str (pv 4) (pps_cons pe_str (pe_callTy call_tuple_of (by rfl) T.tuple (by decide +kernel) (pa_cons (pv 5) pa_nil)) pps_nil)))) (by rfl) (by rfl) (fun z => by cases z) (by decide)))))))), ?_⟩
    refine ⟨_, rfl, mrgIf (fun v H' => ∃ n : Int, v = .int n ∧ (1 ≤ n ∧ n ≤ 12) ∧ Stp p H H') (fun Q' key => ?_) ?_⟩
    · refine ⟨_, rfl, p, 8, rfl, by decide, by decide, hH, fun d H1 d0 d1 S => ⟨rfl, _, rfl, ite2 (fun _ => ?_) (fun _ => ?_)⟩⟩
      · exact key _ _ ⟨12, rfl, ⟨by decide, by decide⟩, S⟩
      · exact key _ _ ⟨3, rfl, ⟨by decide, by decide⟩, S⟩
    rintro v H1 ⟨n6, rfl, ⟨n61, n612⟩, S1⟩
    refine ⟨by show 6 ≤ sizeLine; decide, fun L0 hL0 => ?_⟩
    refine new_step hL0 fun H2 s2 e2 => ?_
    refine ⟨p, L0, _, rfl, .inl (SqL.of e2), by show 0 < 6; decide, by show 6 < 1073741824; decide, S1.hand.same s2, fun i x H3 hx S3 => ?_⟩
    obtain ⟨many, rfl, m1, m12⟩ : ∃ n : Int, x = .int n ∧ 1 ≤ n ∧ n ≤ 12 := by
      have m := List.mem_of_getElem? hx
      simp only [List.mem_cons, List.not_mem_nil, or_false] at m
      rcases m with rfl | rfl | rfl | rfl | rfl | rfl
      · exact ⟨_, rfl, by decide, by decide⟩
      · exact ⟨_, rfl, by decide, by decide⟩
      · exact ⟨_, rfl, by decide, by decide⟩
      · exact ⟨_, rfl, by decide, by decide⟩
      · exact ⟨_, rfl, by decide, by decide⟩
      · exact ⟨_, rfl, n61, n612⟩
    refine ⟨_, rfl, p, 4, rfl, by decide, by decide, S3.hand, fun d H4 d0 d1 S4 => ⟨_, _, rfl, rfl, by show 2 ≤ sizeLine; decide, fun q hq => ?_⟩⟩
    refine new_step hq fun H5 s5 e5 => ?_
    refine ⟨q, _, rfl, SqT.of e5, rfl, _, _, rfl, _, _, rfl, rfl, ?_⟩
    have l1 : 1 ≤ (1 + d) := by omega
    have l4 : (1 + d) ≤ 4 := by omega
    have S05 : Stp p H H5 := ((S1.trans (S3.pre s2)).trans S4).post s5
    refine ⟨by show 6 ≤ sizeLine; decide, fun S hS => ?_⟩
    refine new_step hS fun H6 s6 e6 => ?_
    have S06 := S05.post s6
    have hh6 := S06.hand
    have Sp : S ≠ p := ne_hand S05.hand hS
    clear e5 hq hL0 e2 hx
    refine ⟨_, rfl, _, rfl, by omega, by omega, fun D hD => ?_⟩
    have Dp0 : D ≠ p := ne_hand hh6 hD
    refine lc_range (lo := 0) (n := many.toNat) (fun i H' => Stp p H6 H' ∧ ∃ (acc : List V) (ws : List (List Int)), H' D = some (.lst acc) ∧ AllIn (RowAt K H') acc ws ∧ ws.length = i ∧ ∀ l ∈ ws, (l.length : Int) = (1 + d) ∧ ∀ x ∈ l, 0 ≤ x ∧ x ≤ 1000) ⟨Stp.of hh6 (Same.new hD), [], [], upd_same, AllIn.nil, rfl, fun l hl => absurd hl List.not_mem_nil⟩ (fun i H7 hi g => ?_) fun H7 g => ?_
    · obtain ⟨S7, acc, ws, g1, g2, g3, g4⟩ := g
      refine ⟨rfl, _, rfl, _, rfl, by omega, by omega, fun D2 hD2 => ?_⟩
      have hh7 := S7.hand
      have D2p : D2 ≠ p := ne_hand hh7 hD2
      have e67 := S7.keep _ _ Sp e6
      refine lc_range (lo := 0) (n := (1 + d).toNat) (fun j H' => Stp p H7 H' ∧ ∃ l : List Int, H' D2 = some (.lst (l.map V.int)) ∧ l.length = j ∧ ∀ x ∈ l, 0 ≤ x ∧ x ≤ 1000) ⟨Stp.of hh7 (Same.new hD2), [], upd_same, rfl, fun x hx => absurd hx List.not_mem_nil⟩ (fun j H8 hj g => ?_) fun H8 g => ?_
      · obtain ⟨S8, l, f1, f2, f3⟩ := g
        refine ⟨rfl, _, rfl, _, rfl, p, S, _, rfl, .inl (SqL.of (S8.keep _ _ Sp e67)), by show 0 < 6; decide, by show 6 < 1073741824; decide, S8.hand, fun i' x H9 hx S9 => ?_⟩
        obtain ⟨n, rfl, n0, n1⟩ := some_pick hx
        refine ⟨_, S9.keep _ _ D2p f1, ?_, (S8.trans S9).mut hh7 hD2, l ++ [n], ?_, by rw [List.length_append, f2] <;> rfl, fun y hy => ?_⟩
        · rw [List.length_map, f2]
          exact small1000 (by omega)
        · rw [upd_same, List.map_append] <;> rfl
        · rcases List.mem_append.mp hy with hy | hy
          · exact f3 y hy
          · rw [List.mem_singleton.mp hy]
            exact ⟨n0, n1⟩
      · obtain ⟨S8, l, f1, f2, f3⟩ := g
        refine ⟨D2, _, rfl, .inl ⟨SqL.of f1, fun T hT => ?_⟩⟩
        refine new_step hT fun H9 s9 e9 => ?_
        have S79 := S8.post s9
        have g19 := S79.keep _ _ Dp0 g1
        refine ⟨acc, g19, by rw [g2.1, g3]; exact small1000 (by omega), (S7.trans S79).mut hh6 hD, _, ws ++ [l], upd_same, ?_, by rw [List.length_append, g3] <;> rfl, fun l' hl' => ?_⟩
        · exact AllIn.snoc (g2.mono fun _ _ h => (rowAt_stp S79 hh7 h).upd g19) (RowAt.upd g19 ⟨T, rfl, SqT.of e9⟩)
        · rcases List.mem_append.mp hl' with h | h
          · exact g4 l' h
          · rw [List.mem_singleton.mp h]
            exact ⟨by omega, f3⟩
    · obtain ⟨S7, acc, ws, g1, g2, g3, g4⟩ := g
      refine ⟨D, _, rfl, .inl ⟨SqL.of g1, fun W hW => ?_⟩⟩
      refine new_step hW fun H8 s8 e8 => ?_
      have S68 := S7.post s8
      have hh8 := S68.hand
      have rW : RowsAt K H8 W ws := ⟨acc, SqT.of e8, g2.mono fun _ _ h => h.same s8⟩
      have e68 := S68.keep _ _ Sp e6
      refine ⟨by show 0 ≤ sizeLine; decide, fun T hT => ?_⟩
      refine new_step hT fun H9 s9 e9 => ?_
      refine ⟨by show 1 ≤ sizeLine; decide, fun Z hZ => ?_⟩
      refine new_step hZ fun H10 s10 e10 => ?_
      refine ⟨_, rfl, Z, many, [.int 0], rfl, rfl, e10, by omega, by omega, by show 1 * _ ≤ _; rw [sizeLine_eq]; omega, fun L hL => ?_⟩
      refine new_step hL fun H11 s11 e11 => ?_
      rw [rep_rng] at e11
      refine ⟨_, _, rfl, ?_⟩
      have s811 := (s9.trans s10).trans s11
      have eT : H11 T = some (.lst []) := (s10.trans s11) _ _ e9
      have hh11 := hh8.same s811
      have Tp : T ≠ p := ne_hand hh8 hT
      have Lp : L ≠ p := ne_hand (hh8.same (s9.trans s10)) hL
      have LT : L ≠ T := fun z => by rw [z, s10 _ _ e9] at hL; cases hL
      have rW11 := rW.same s811
      have e611 := s811 _ _ e68
      have hT8 : H8 T = none := hT
      have hL8 : H8 L = none := (s9.trans s10).free hL
      have S8b : Stp p H8 H11 := Stp.of hh8 s811
      generalize hM : many.toNat = M at e11
      have mM : many = (M : Int) := by omega
      refine ⟨_, rfl, _, rfl, by omega, by omega, ?_⟩
      rw [hM]
      have cond : ∀ (many : Int) (H' : Hp) (i : Nat) (bnd : Tie → Prop), True := fun _ _ _ _ => trivial
      refine for_range (lo := 0) (n := M) (fun i σ H' => (Stp p H8 H' ∧ ∃ (acc : List V) (ts : List Tie), H' T = some (.lst acc) ∧ AllIn (TieAt K H') acc ts ∧ TsOk many (1 + d) ts ∧ (∀ t ∈ ts, t.1.1 < (i : Int)) ∧ H' L = some (.lst ((List.range M).map fun q => V.int ((cntT ts (q : Nat) : Nat) : Int))) ∧ (∀ q : Nat, cntT ts (q : Int) ≤ 4)) ∧ ∃ u1 u2 u3 : Option V, σ = [some (.ref p), some (.int many), some (.int (1 + d)), some (.ref S), some (.ref W), some (.ref T), some (.ref L), u1, u2, u3, none, none, none]) ⟨⟨S8b, [], [], eT, AllIn.nil, TsOk.nil, fun t ht => absurd ht List.not_mem_nil, e11, fun q => Nat.zero_le _⟩, _, _, _, rfl⟩ ?_ ?_
      · rintro i σ H12 hi ⟨⟨S12, acc, ts, t1, t2, t3, t4, t5, t6⟩, u1, u2, u3, rfl⟩
        rw [Int.zero_add]
        refine ⟨_, rfl, _, _, rfl, rfl, _, rfl, _, _, rfl, ⟨by omega, by omega, by omega, by omega⟩, ?_⟩
        have en : (many - ((i : Int) + 1)).toNat = M - (i + 1) := by omega
        rw [en]
        refine for_range (lo := (i : Int) + 1) (n := M - (i + 1)) (fun j σ H' => (Stp p H8 H' ∧ ∃ (acc : List V) (ts : List Tie), H' T = some (.lst acc) ∧ AllIn (TieAt K H') acc ts ∧ TsOk many (1 + d) ts ∧ (∀ t ∈ ts, t.1.1 < (i : Int) ∨ (t.1.1 = (i : Int) ∧ t.1.2 < (i : Int) + 1 + (j : Int))) ∧ H' L = some (.lst ((List.range M).map fun q => V.int ((cntT ts (q : Nat) : Nat) : Int))) ∧ (∀ q : Nat, cntT ts (q : Int) ≤ 4)) ∧ ∃ u2 u3 : Option V, σ = [some (.ref p), some (.int many), some (.int (1 + d)), some (.ref S), some (.ref W), some (.ref T), some (.ref L), some (.int (i : Nat)), u2, u3, none, none, none]) ⟨⟨S12, acc, ts, t1, t2, t3, fun t ht => .inl (t4 t ht), t5, t6⟩, _, _, rfl⟩ ?_ ?_
        · rintro j σ H13 hj ⟨⟨S13, acc, ts, t1, t2, t3, t4, t5, t6⟩, u2, u3, rfl⟩
          generalize hsec : (i : Int) + 1 + (j : Int) = sec at t4 ⊢
          obtain ⟨nb, rfl⟩ : ∃ nb : Nat, sec = (nb : Int) := ⟨i + 1 + j, by omega⟩
          have ib : i < nb := by omega
          have bM : nb < M := by omega
          have skip : ∀ H', Stp p H13 H' → (Stp p H8 H' ∧ ∃ (acc : List V) (ts : List Tie), H' T = some (.lst acc) ∧ AllIn (TieAt K H') acc ts ∧ TsOk many (1 + d) ts ∧ (∀ t ∈ ts, t.1.1 < (i : Int) ∨ (t.1.1 = (i : Int) ∧ t.1.2 < (i : Int) + 1 + ((j + 1 : Nat) : Int))) ∧ H' L = some (.lst ((List.range M).map fun q => V.int ((cntT ts (q : Nat) : Nat) : Int))) ∧ (∀ q : Nat, cntT ts (q : Int) ≤ 4)) := fun H' S' =>
            ⟨S13.trans S', acc, ts, S'.keep _ _ Tp t1, t2.mono fun _ _ => tieAt_stp S' S13.hand, t3, fun t ht => by rcases t4 t ht with h | ⟨h, h2⟩ <;> omega, S'.keep _ _ Lp t5, t6⟩
          refine ⟨_, rfl, p, 3, rfl, by decide, by decide, S13.hand, fun e H14 _ _ S14 => ⟨rfl, _, rfl, ite2 (fun _ => ?_) (fun _ => ⟨skip H14 S14, _, _, rfl⟩)⟩⟩
          have L14 := S14.keep _ _ Lp t5
          have at1 : ((List.range M).map fun q => V.int ((cntT ts (q : Nat) : Nat) : Int))[i]? = some (V.int ((cntT ts (i : Nat) : Nat) : Int)) := by rw [List.getElem?_map, List.getElem?_range hi] <;> rfl
          have at2 : ((List.range M).map fun q => V.int ((cntT ts (q : Nat) : Nat) : Int))[nb]? = some (V.int ((cntT ts (nb : Nat) : Nat) : Int)) := by rw [List.getElem?_map, List.getElem?_range bM] <;> rfl
          refine ⟨_, rfl, _, rfl, L, _, _, _, rfl, rfl, SqL.of L14, atI_nat at1, _, _, rfl, rfl, _, rfl, ite2 (fun c1 => ?_) (fun _ => ⟨skip H14 S14, _, _, rfl⟩)⟩
          refine ⟨_, rfl, _, rfl, L, _, _, _, rfl, rfl, SqL.of L14, atI_nat at2, _, _, rfl, rfl, _, rfl, ite2 (fun c2 => ?_) (fun _ => ⟨skip H14 S14, _, _, rfl⟩)⟩
          have c1 := of_decide_eq_true c1
          have c2 := of_decide_eq_true c2
          refine ⟨_, rfl, _, rfl, L, _, _, _, rfl, rfl, SqL.of L14, atI_nat at1, _, _, rfl, rfl, _, rfl, _, rfl, L, _, _, _, rfl, rfl, SqL.of L14, atI_nat at2, _, _, rfl, rfl, by show 2 ≤ sizeLine; decide, fun q hq => ?_⟩
          have ix : ∀ (xs : List V) (n : Nat), xs.length = M → n < M → ixN xs.length (n : Int) = some n := fun xs n h1 h2 => Evl.ixN_nat (by omega)
          have g7 := (Same.new (o := .tup [.int (((cntT ts (i : Nat) : Nat) : Int) + 1), .int (((cntT ts (nb : Nat) : Nat) : Int) + 1)]) hq) _ _ L14
          refine ⟨q, _, rfl, SqT.of upd_same, rfl, _, _, rfl, ⟨_, rfl, _, rfl, L, _, _, i, rfl, rfl, g7, ix _ _ (by rw [List.length_map, List.length_range]) hi, _, _, rfl, ⟨_, rfl, _, rfl, L, _, _, nb, rfl, rfl, upd_same, ix _ _ (by rw [List.length_set, List.length_map, List.length_range]) bM, rfl, ?_⟩⟩⟩
          rw [upd_upd]
          have sq : Same H14 (upd H14 q (.tup [.int (((cntT ts (i : Nat) : Nat) : Int) + 1), .int (((cntT ts (nb : Nat) : Nat) : Int) + 1)])) := Same.new hq
          have eT14 := S14.keep _ _ Tp t1
          have t214 : AllIn (TieAt K H14) acc ts := t2.mono fun _ _ => tieAt_stp S14 S13.hand
          have pl : (((List.range M).map fun q => V.int ((cntT ts (q : Nat) : Nat) : Int)).set i (.int (((cntT ts (i : Nat) : Nat) : Int) + 1))).set nb (.int (((cntT ts (nb : Nat) : Nat) : Int) + 1)) = (List.range M).map fun q => V.int ((cntT ts (q : Nat) + (if (q : Int) = (i : Int) ∨ (q : Int) = (nb : Int) then 1 else 0) : Nat) : Int) := by
            rw [set_rng, set_rng]
            refine List.map_congr_left fun r _ => ?_
            show (if r = nb then _ else if r = i then _ else _) = V.int _
            by_cases e1 : r = nb
            · subst e1
              rw [if_pos rfl, if_pos (.inr rfl)] <;> rfl
            · by_cases e2 : r = i
              · subst e2
                rw [if_neg e1, if_pos rfl, if_pos (.inl rfl)] <;> rfl
              · rw [if_neg e1, if_neg e2, if_neg (by rintro (z | z) <;> omega)] <;> rfl
          rw [pl]
          obtain ⟨H15, hH15⟩ : ∃ G, G = upd (upd H14 q (.tup [.int (((cntT ts (i : Nat) : Nat) : Int) + 1), .int (((cntT ts (nb : Nat) : Nat) : Int) + 1)])) L (.lst ((List.range M).map fun q => V.int ((cntT ts (q : Nat) + (if (q : Int) = (i : Int) ∨ (q : Int) = (nb : Int) then 1 else 0) : Nat) : Int))) := ⟨_, rfl⟩
          have S815 : Stp p H8 H15 := by rw [hH15]; exact ((S13.trans S14).post sq).mut hh8 hL8
          have eT15 : H15 T = some (.lst acc) := by rw [hH15, upd_ne (Ne.symm LT)]; exact sq _ _ eT14
          have eL15 : H15 L = some (.lst ((List.range M).map fun q => V.int ((cntT ts (q : Nat) + (if (q : Int) = (i : Int) ∨ (q : Int) = (nb : Int) then 1 else 0) : Nat) : Int))) := by rw [hH15]; exact upd_same
          have t215 : AllIn (TieAt K H15) acc ts := by
            rw [hH15]
            exact t214.mono fun _ _ h => (h.same sq).upd (sq _ _ L14)
          rw [← hH15]
          clear hH15 pl g7
          have hh15 := S815.hand
          have eS15 := S815.keep _ _ Sp e68
          refine ⟨_, rfl, _, rfl, by omega, by omega, fun D3 hD3 => ?_⟩
          have D3p : D3 ≠ p := ne_hand hh15 hD3
          refine lc_range (lo := 0) (n := (1 + d).toNat) (fun i' H' => Stp p H15 H' ∧ ∃ (ac : List V) (tb : List (List Int)), H' D3 = some (.lst ac) ∧ AllIn (RowAt K H') ac tb ∧ tb.length = i' ∧ ∀ l ∈ tb, (l.length : Int) = (1 + d) ∧ ∀ x ∈ l, 0 ≤ x ∧ x ≤ 1000) ⟨Stp.of hh15 (Same.new hD3), [], [], upd_same, AllIn.nil, rfl, fun l hl => absurd hl List.not_mem_nil⟩ (fun i' H7 hi' g => ?_) fun H7 g => ?_
          · obtain ⟨S7, ac, tb, g1, g2, g3, g4⟩ := g
            refine ⟨rfl, _, rfl, _, rfl, by omega, by omega, fun D2 hD2 => ?_⟩
            have hh7 := S7.hand
            have D2p : D2 ≠ p := ne_hand hh7 hD2
            have e67 := S7.keep _ _ Sp eS15
            refine lc_range (lo := 0) (n := (1 + d).toNat) (fun j H' => Stp p H7 H' ∧ ∃ l : List Int, H' D2 = some (.lst (l.map V.int)) ∧ l.length = j ∧ ∀ x ∈ l, 0 ≤ x ∧ x ≤ 1000) ⟨Stp.of hh7 (Same.new hD2), [], upd_same, rfl, fun x hx => absurd hx List.not_mem_nil⟩ (fun j H8 hj g => ?_) fun H8 g => ?_
            · obtain ⟨S8, l, f1, f2, f3⟩ := g
              refine ⟨rfl, _, rfl, _, rfl, p, S, _, rfl, .inl (SqL.of (S8.keep _ _ Sp e67)), by show 0 < 6; decide, by show 6 < 1073741824; decide, S8.hand, fun i' x H9 hx S9 => ?_⟩
              obtain ⟨n, rfl, n0, n1⟩ := some_pick hx
              refine ⟨_, S9.keep _ _ D2p f1, ?_, (S8.trans S9).mut hh7 hD2, l ++ [n], ?_, by rw [List.length_append, f2] <;> rfl, fun y hy => ?_⟩
              · rw [List.length_map, f2]
                exact small1000 (by omega)
              · rw [upd_same, List.map_append] <;> rfl
              · rcases List.mem_append.mp hy with hy | hy
                · exact f3 y hy
                · rw [List.mem_singleton.mp hy]
                  exact ⟨n0, n1⟩
            · obtain ⟨S8, l, f1, f2, f3⟩ := g
              refine ⟨D2, _, rfl, .inl ⟨SqL.of f1, fun T hT => ?_⟩⟩
              refine new_step hT fun H9 s9 e9 => ?_
              have S79 := S8.post s9
              have g19 := S79.keep _ _ D3p g1
              refine ⟨ac, g19, by rw [g2.1, g3]; exact small1000 (by omega), (S7.trans S79).mut hh15 hD3, _, tb ++ [l], upd_same, ?_, by rw [List.length_append, g3] <;> rfl, fun l' hl' => ?_⟩
              · exact AllIn.snoc (g2.mono fun _ _ h => (rowAt_stp S79 hh7 h).upd g19) (RowAt.upd g19 ⟨T, rfl, SqT.of e9⟩)
              · rcases List.mem_append.mp hl' with h | h
                · exact g4 l' h
                · rw [List.mem_singleton.mp h]
                  exact ⟨by omega, f3⟩
          · obtain ⟨S7, ac, tb, g1, g2, g3, g4⟩ := g
            have eT7 := S7.keep _ _ Tp eT15
            have eL7 := S7.keep _ _ Lp eL15
            have t27 : AllIn (TieAt K H7) acc ts := t215.mono fun _ _ => tieAt_stp S7 hh15
            have S87 := S815.trans S7
            refine ⟨_, rfl, .inl ⟨rfl, _, SqL.of eT7⟩, _, rfl, _, rfl, _, rfl, D3, _, rfl, .inl ⟨SqL.of g1, fun B hB => ?_⟩⟩
            refine new_step hB fun H16 s16 e16 => ?_
            refine ⟨by show 3 ≤ sizeLine; decide, fun A hA => ?_⟩
            refine new_step hA fun H17 s17 e17 => ?_
            have s717 := s16.trans s17
            have eT17 := s717 _ _ eT7
            have few : ts.length ≤ 144 := ties_few m12 t3.g fun t h => ⟨(t3.n t h).1, (t3.n t h).2.1⟩
            have tnew : TieAt K H17 (.ref A) (((i : Int), (nb : Int)), tb) := ⟨A, B, rfl, SqT.of e17, ac, SqT.of (s17 _ _ e16), g2.mono fun _ _ h => h.same s717⟩
            have cnt : ∀ r : Nat, cntT (ts ++ [(((i : Int), (nb : Int)), tb)]) (r : Int) = cntT ts (r : Int) + (if (r : Int) = (i : Int) ∨ (r : Int) = (nb : Int) then 1 else 0) := fun r => cnt_app ts _ _
            have tbt : tabB (1 + d) (1 + d) tb = true := rowOk_tab (by rw [g3]; omega) g4
            have tb0 : ∀ l ∈ tb, l ≠ [] ∧ ∀ x ∈ l, 0 ≤ x := fun l hl => by
              obtain ⟨a, b⟩ := g4 l hl
              refine ⟨fun z => ?_, fun x hx => (b x hx).1⟩
              rw [z] at a
              have : ((0 : Nat) : Int) = 1 + d := a
              omega
            refine ⟨T, acc, _, rfl, rfl, eT17, by rw [t27.1, sizeLine_eq]; omega, ⟨?_, acc ++ [.ref A], ts ++ [(((i : Int), (nb : Int)), tb)], upd_same, ?_, ?_, ?_, ?_, ?_⟩, _, _, rfl⟩
            · exact (S87.post s717).mut hh8 hT8
            · exact AllIn.snoc (t27.mono fun _ _ h => (h.same s717).upd eT17) (tnew.upd eT17)
            · refine t3.snoc ?_ ⟨by show (0 : Int) ≤ (i : Int); omega, by show (0 : Int) ≤ (nb : Int); omega, fun z => ?_, tb0⟩ fun t ht => ?_
              · unfold tieB
                rw [tbt]
                show (decide ((nb : Int) < many) && (decide ((i : Int) < (nb : Int)) && true)) = true
                rw [decide_eq_true (show (nb : Int) < many by omega), decide_eq_true (show (i : Int) < (nb : Int) by omega)] <;> rfl
              · have z : tb = [] := z
                rw [z] at g3
                have : 0 = (1 + d).toNat := g3
                omega
              · rcases t4 t ht with h | ⟨h, h2⟩
                · exact .inl h
                · exact .inr ⟨h, h2⟩
            · intro t ht
              rcases List.mem_append.mp ht with h | h
              · rcases t4 t h with h | ⟨h, h2⟩ <;> omega
              · rw [List.mem_singleton.mp h]
                refine .inr ⟨rfl, ?_⟩
                show (nb : Int) < _
                omega
            · rw [upd_ne LT, s717 _ _ eL7]
              exact congrArg (fun l => some (HO.lst l)) (List.map_congr_left fun r _ => by rw [cnt r])
            · intro r
              rw [cnt r]
              have := t6 r
              by_cases c : (r : Int) = (i : Int) ∨ (r : Int) = (nb : Int)
              · rw [if_pos c]
                rcases c with c | c
                · rw [c]
                  omega
                · rw [c]
                  omega
              · rw [if_neg c]
                omega
        · rintro σ H13 ⟨⟨S13, acc, ts, t1, t2, t3, t4, t5, t6⟩, u2, u3, rfl⟩
          exact ⟨⟨S13, acc, ts, t1, t2, t3, fun t ht => by rcases t4 t ht with h | ⟨h, _⟩ <;> omega, t5, t6⟩, _, _, _, rfl⟩
      · rintro σ H12 ⟨⟨S12, acc, ts, t1, t2, t3, t4, t5, t6⟩, u1, u2, u3, rfl⟩
        have rW12 := rowsAt_stp S12 hh8 rW
        intro dp hdp
        have sd : Same H12 (upd H12 dp (.dK [])) := Same.new hdp
        refine ⟨_, rfl, _, rfl, _, rfl, _, rfl, T, _, rfl, .inl ⟨SqL.of (sd _ _ t1), fun T' hT' => ?_⟩⟩
        refine new_step hT' fun H13 s13 e13 => ?_
        have hdp13 : H13 dp = some (.dK []) := s13 _ _ upd_same
        refine ⟨hdp13, mdK many (1 + d) W T', rfl, (show 4 ≤ 15 by decide), ?_⟩
        rw [merge_app (mdK many (1 + d) W T') [] (md_keys _ _ _ _)]
        have wl : (ws.length : Int) = many := by rw [g3]; omega
        have wr : wrongM ⟨many, 1 + d, ws, ts⟩ = none := made_ok ⟨m1, m12⟩ ⟨l1, l4⟩ (rowOk_tab wl g4) t3 fun q _ => t6 q
        have s12d : Same H12 (upd H13 dp (.dK (mdK many (1 + d) W T'))) := (sd.trans s13).mut hdp
        refine k dp ⟨many, 1 + d, ws, ts⟩ _ ?_ ?_ (ok_sm wr (fun l hl => ?_) fun t ht => t3.n t ht) wr
        · exact ((S06.trans S68).trans S12).post s12d
        · exact ⟨W, T', upd_same, rW12.same s12d, acc, SqT.of (by rw [upd_ne (fun z => by rw [z, hdp13] at e13; cases e13)]; exact e13), t2.mono fun _ _ h => h.same s12d⟩
        · obtain ⟨a, b⟩ := g4 l hl
          refine ⟨fun z => ?_, fun x hx => (b x hx).1⟩
          rw [z] at a
          have : ((0 : Nat) : Int) = 1 + d := a
          omega
end
end Law

namespace L2
open PySem PySem.Spec PyProof.Rows TL
/-- the signs of the lines, each with its line feed -/
def szL (l : List Str) : Nat := (l.map fun x => x.length + 1).sum
theorem szL_app (a b : List Str) : szL (a ++ b) = szL a + szL b := by unfold szL; rw [List.map_append, List.sum_append]
theorem szL_one (x : Str) : szL [x] = x.length + 1 := by simp [szL]
theorem szL_cut (l : List Str) (i : Nat) : szL (l.take i) + szL (l.drop i) = szL l := by rw [← szL_app, List.take_append_drop]
theorem szL_drop (l : List Str) (i : Nat) : szL (l.drop i) ≤ szL l := by
  have := szL_cut l i
  omega
theorem szL_take (l : List Str) (i : Nat) : szL (l.take i) ≤ szL l := by
  have := szL_cut l i
  omega
theorem szL_gap (l : List Str) (i j : Nat) : szL (l.take i) + szL (l.drop (i + j)) ≤ szL l := by
  have := szL_cut l i
  have := szL_drop (l.drop i) j
  rw [List.drop_drop] at this
  omega
theorem szL_get {l : List Str} {i : Nat} {x : Str} (h : l[i]? = some x) : szL (l.take i) + (x.length + 1) + szL (l.drop (i + 1)) = szL l := by
  have hi := (List.getElem?_eq_some_iff.mp h).1
  have e : l.drop i = x :: l.drop (i + 1) := by
    rw [List.drop_eq_getElem_cons hi]
    congr 1
    exact (List.getElem?_eq_some_iff.mp h).2
  have := szL_cut l i
  rw [e, show x :: l.drop (i + 1) = [x] ++ l.drop (i + 1) from rfl, szL_app, szL_one] at this
  omega
theorem szL_mem {l : List Str} {x : Str} (h : x ∈ l) : x.length + 1 ≤ szL l := by
  obtain ⟨i, hi⟩ := List.getElem?_of_mem h
  have := szL_get hi
  omega
theorem szL_set (l : List Str) (i : Nat) (v : Str) : szL (l.set i v) ≤ szL l + (v.length + 1) := by
  by_cases hi : i < l.length
  · have e : l.set i v = l.take i ++ [v] ++ l.drop (i + 1) := by rw [List.set_eq_take_append_cons_drop, if_pos hi, List.append_assoc] <;> rfl
    rw [e, szL_app, szL_app, szL_one]
    have := szL_gap l i 1
    omega
  · rw [List.set_eq_of_length_le (by omega)]
    omega
theorem szL_len : ∀ l : List Str, l.length ≤ szL l
  | [] => Nat.zero_le _
  | x :: l => by
    have := szL_len l
    rw [show x :: l = [x] ++ l from rfl, szL_app, szL_one, List.length_append]
    show 1 + _ ≤ _
    omega
theorem join_sz (s : Nat) : ∀ l : List Str, (joinL [s] (l.map tl)).length ≤ szL l
  | [] => Nat.zero_le _
  | [x] => by rw [szL_one, len_tl] <;> exact Nat.le_succ _
  | x :: y :: r => by
    have ih := join_sz s (y :: r)
    rw [show x :: y :: r = [x] ++ (y :: r) from rfl, szL_app, szL_one, List.map_append]
    show (tl x ++ ([s] ++ joinL [s] ((y :: r).map tl))).length ≤ _
    rw [List.length_append, List.length_append, len_tl x]
    show _ + (1 + _) ≤ _
    omega
theorem split_sz (x : Str) {c : Nat} (hc : c < 256) : szL (Txt.split x (⟨#[c]⟩ : Str)) = x.length + 1 := by
  have hy : tl (⟨#[c]⟩ : Str) = [c] := rfl
  have e := split_spl x (⟨#[c]⟩ : Str) (by rw [hy]; simp) (kind_ok (by simp [hc]))
  rw [hy] at e
  have j : joinL [c] (spl [c] 0 [] (tl x)) = tl x := by rw [join_spl, List.nil_append]
  have key : ∀ ps : List Str, ps ≠ [] → szL ps = (joinL [c] (ps.map tl)).length + 1 := fun ps => by
    induction ps with
    | nil => exact fun h => absurd rfl h
    | cons p ps ih =>
      intro _
      cases ps with
      | nil => rw [szL_one, len_tl] <;> rfl
      | cons q r =>
        rw [show p :: q :: r = [p] ++ (q :: r) from rfl, szL_app, szL_one, ih (by simp), List.map_append]
        show _ = (tl p ++ ([c] ++ joinL [c] ((q :: r).map tl))).length + 1
        rw [List.length_append, List.length_append, len_tl p]
        show _ = _ + (1 + _) + 1
        omega
  rw [key _ (split_ne hc), e, j, ← len_tl]
theorem sum_sz : ∀ l : List Str, (l.map (·.length)).sum + l.length = szL l
  | [] => rfl
  | x :: l => by
    have := sum_sz l
    rw [show x :: l = [x] ++ l from rfl, szL_app, szL_one, List.map_append, List.sum_append, List.length_append]
    simp
    omega
theorem cut_toS (xs : List Str) (n : Nat) : cutV (xs.map V.str) none (some (n : Int)) = (xs.take n).map V.str := by
  unfold cutV
  show ((xs.map V.str).drop 0).take (HT.sIx (xs.map V.str).length (xs.map V.str).length (some (n : Int)) - 0) = _
  rw [HT.sIx_nat, List.drop_zero, Nat.sub_zero, List.map_take, List.length_map]
  rcases Nat.le_total n xs.length with h | h
  · rw [Nat.min_eq_left h]
  · rw [Nat.min_eq_right h, List.take_of_length_le (by rw [List.length_map]; exact Nat.le_refl _), List.take_of_length_le (by rw [List.length_map]; exact h)]
theorem cut_fromS (xs : List Str) (n : Nat) : cutV (xs.map V.str) (some (n : Int)) none = (xs.drop n).map V.str := by
  unfold cutV
  show ((xs.map V.str).drop (HT.sIx (xs.map V.str).length 0 (some (n : Int)))).take ((xs.map V.str).length - HT.sIx (xs.map V.str).length 0 (some (n : Int))) = _
  rw [HT.sIx_nat, List.map_drop, List.length_map]
  rw [List.take_of_length_le (by rw [List.length_drop, List.length_map]; omega)]
  rcases Nat.le_total n xs.length with h | h
  · rw [Nat.min_eq_left h]
  · rw [Nat.min_eq_right h, List.drop_of_length_le (by rw [List.length_map]; exact Nat.le_refl _), List.drop_of_length_le (by rw [List.length_map]; exact h)]
end L2
namespace Law
open PySem L2 TL
def od1 : List Str := ["", " ", "places 2", "places 0", "places 13", "levels 0", "levels 5", "levels 1", "weights", "weights 1", "weights 1 1"]
def od2 : List Str := ["weights 1001 1", "weights 01 1", "weights 1  1", "weights -1 1", "tie 0 1: 1 1 | 1 1", "tie 1 0: 1 1 | 1 1"]
def od3 : List Str := ["tie 0 0: 1 | 1", "tie 0 5: 1 1 | 1 1", "tie 0 1:1 1 | 1 1", "tie 0 1: 1 1|1 1", "tie 0 1 2: 1 1", "tie 0: 1"]
def od4 : List Str := ["tie 0 1: 1 1 | 1 1 | 1 1", "tie 0 1: 1001 1 | 1 1", "tie 0 1: ", "tie 0 1: 1 1 |", "Places 2", "weights 1000000000000 1"]
theorem od_len : ∀ o ∈ od1 ++ od2 ++ od3 ++ od4, o.length ≤ 30 := by decide +kernel
theorem cut_midS (xs : List Str) (n k : Nat) : ∃ ys : List Str, cutV (xs.map V.str) (some (n : Int)) (some ((n + k : Nat) : Int)) = ys.map V.str ∧ szL ys ≤ szL (xs.drop n) := by
  unfold cutV
  refine ⟨(xs.drop (HT.sIx (xs.map V.str).length 0 (some (n : Int)))).take (HT.sIx (xs.map V.str).length (xs.map V.str).length (some ((n + k : Nat) : Int)) - HT.sIx (xs.map V.str).length 0 (some (n : Int))), by rw [List.map_take, List.map_drop], ?_⟩
  refine Nat.le_trans (szL_take _ _) ?_
  rw [HT.sIx_nat, List.length_map]
  rcases Nat.le_total n xs.length with h | h
  · rw [Nat.min_eq_left h]
    exact Nat.le_refl _
  · rw [Nat.min_eq_right h, List.drop_of_length_le (Nat.le_refl _), List.drop_of_length_le h]
    exact Nat.le_refl _
section
variable {P : Program} {w : World} {K : PySem.W.Frag} {mg : Str → Option Value} {base : Heap}
def spBent (K : PySem.W.Frag) : Sp := fun vs H Q _ => ∃ (p L : Addr) (ls : List Str), vs = [.ref p, .ref L] ∧ HandAt H p ∧ H L = some (.lst (ls.map V.str)) ∧ 0 < ls.length ∧ szL ls ≤ 200000 ∧ ∀ (q : Addr) (ys : List Str) H', Stp p H H' → H' q = some (.lst (ys.map V.str)) → szL ys ≤ 2 * szL ls + 100 → Q (.ref q) H'
abbrev nLawBent : List Str := ["_law_hand_here", "_law_lines", "_law_at", "_law_to", "_law_kind", "_law_odd", "_law_line_here", "_law_signs", "_law_here", "_law_sign", "_law_some"]
theorem scLawBent : FnScope nLawBent ["_law_hand_here", "_law_lines"] (defScope s_law_bent) := ⟨rfl, rfl, rfl, by decide +kernel, rfl, by decide +kernel, by decide +kernel⟩
theorem ok_bent {f : Addr} {fd : FuncData} {fD : Addr} {fdD : FuncData} {fA : Addr} {fdA : FuncData} (F : Fun K "_law_bent" "_law_bent" s_law_bent f fd) (T : NmA mg) (D : Cl P w K mg base CX0 1 "_law_draw" fD fdD ["_law_hand_here", "_law_many"] spDraw) (A : Cl P w K mg base CX0 2 "_law_any" fA fdA ["_law_hand_here", "_law_things"] (spAny K)) : FnOk P w K mg base CX0 3 f fd ["_law_hand_here", "_law_lines"] (spBent K) := by
  refine F.ok scLawBent (fun vs H Q E h => ?_) (fun cdv A' outer s H vs Q E hr h => ?_)
  · obtain ⟨p, L, ls, rfl, _⟩ := h
    rfl
  · obtain ⟨p, L, ls, rfl, hH, e0, ll, lz, k⟩ := h
    have hu := hu_of hr
    refine ⟨_, pss_cons (ps_par3 (i := 2) (j := 3) (l := 4) (by rfl) scLawBent.nd rfl rfl rfl (by decide) (by decide) (by decide) rfl rfl rfl (pa_cons (D.call (hr.mono (by decide)) (pa_cons (pv 0) (pa_cons (pe_callB call_len_seq (by rfl) T.len PySem.boot_len (pa_cons (pv 1) pa_nil)) pa_nil))) (pa_cons (D.call (hr.mono (by decide)) (pa_cons (pv 0) (pa_cons (pe_callB call_len_seq (by rfl) T.len PySem.boot_len (pa_cons (pv 1) pa_nil)) pa_nil))) (pa_cons (D.call (hr.mono (by decide)) (pa_cons (pv 0) (pa_cons pe_int pa_nil))) pa_nil))) (by rfl))
      (pss_cons (ps_set (i := 5) scLawBent.nd rfl (Or.inl rfl) (pe_lst (pa_cons pe_str (pa_cons pe_str (pa_cons pe_str (pa_cons pe_str (pa_cons pe_str (pa_cons pe_str (pa_cons pe_str (pa_cons pe_str (pa_cons pe_str (pa_cons pe_str (pa_cons pe_str pa_nil)))))))))))))
      (pss_cons (ps_expr (pe_bm PySem.F.plainAttrs_list PySem.F.slot_list_extend PySem.F.type_list_extend mt_extend (pv 5) (pa_cons (pe_lst (pa_cons pe_str (pa_cons pe_str (pa_cons pe_str (pa_cons pe_str (pa_cons pe_str (pa_cons pe_str pa_nil))))))) pa_nil)))
      (pss_cons (ps_expr (pe_bm PySem.F.plainAttrs_list PySem.F.slot_list_extend PySem.F.type_list_extend mt_extend (pv 5) (pa_cons (pe_lst (pa_cons pe_str (pa_cons pe_str (pa_cons pe_str (pa_cons pe_str (pa_cons pe_str (pa_cons pe_str pa_nil))))))) pa_nil)))
      (pss_cons (ps_expr (pe_bm PySem.F.plainAttrs_list PySem.F.slot_list_extend PySem.F.type_list_extend mt_extend (pv 5) (pa_cons (pe_lst (pa_cons pe_str (pa_cons pe_str (pa_cons pe_str (pa_cons pe_str (pa_cons pe_str (pa_cons pe_str pa_nil))))))) pa_nil)))
      (pss_cons (ps_par (i := 6) (j := 7) (by rfl) scLawBent.nd rfl rfl (by decide) rfl rfl (pa_cons (pe_ix ix_list (pv 1) (pv 2) (fun _ _ => rfl)) (pa_cons pe_str pa_nil)) (by rfl))
      (pss_cons (ps_par (i := 8) (j := 9) (by rfl) scLawBent.nd rfl rfl (by decide) rfl rfl (pa_cons (D.call (hr.mono (by decide)) (pa_cons (pv 0) (pa_cons (pe_op op_add (pe_callB call_len_str (by rfl) T.len PySem.boot_len (pa_cons (pv 6) pa_nil)) pe_int) pa_nil))) (pa_cons (pe_ix ix_str (pv 7) (D.call (hr.mono (by decide)) (pa_cons (pv 0) (pa_cons (pe_callB call_len_str (by rfl) T.len PySem.boot_len (pa_cons (pv 7) pa_nil)) pa_nil))) (fun _ _ => rfl)) pa_nil)) (by rfl))
      (pss_cons (ps_set (i := 10) scLawBent.nd rfl (Or.inl rfl) (pe_lst (pa_cons (pe_op op_add_str (pe_op op_add_str (pe_slice sl_str (pv 6) po_none (po_some (pv 8))) (pv 9)) (pe_slice sl_str (pv 6) (po_some (pv 8)) po_none)) (pa_cons (pe_op op_add_str (pe_slice sl_str (pv 6) po_none (po_some (pv 8))) (pe_slice sl_str (pv 6) (po_some (pe_op op_add (pv 8) pe_int)) po_none)) (pa_cons (pe_op op_add_str (pe_op op_add_str (pe_slice sl_str (pv 6) po_none (po_some (pv 8))) (pv 9)) (pe_slice sl_str (pv 6) (po_some (pe_op op_add (pv 8) pe_int)) po_none)) pa_nil)))))
      (pss_cons (ps_if (pt_cmpR op_eq (pv 4) pe_int (nomark _))
        (pss_one (ps_ret (pe_op op_cat (pe_slice sl_list (pv 1) po_none (po_some (pv 2))) (pe_slice sl_list (pv 1) (po_some (pe_op op_add (pv 2) pe_int)) po_none)))) pss_nil)
      (pss_cons (ps_if (pt_cmpR op_eq (pv 4) pe_int (nomark _))
        (pss_one (ps_ret (pe_op op_cat (pe_op op_cat (pe_slice sl_list (pv 1) po_none (po_some (pv 2))) (pe_slice sl_list (pv 1) (po_some (pv 3)) (po_some (pe_op op_add (pv 3) pe_int)))) (pe_slice sl_list (pv 1) (po_some (pv 2)) po_none)))) pss_nil)
      (pss_cons (ps_if (pt_cmpR op_eq (pv 4) pe_int (nomark _))
        (pss_one (ps_ret (pe_op op_cat (pe_op op_cat (pe_slice sl_list (pv 1) po_none (po_some (pv 2))) (pe_slice sl_list (pv 1) (po_some (pe_op op_add (pv 2) pe_int)) po_none)) (pe_slice sl_list (pv 1) (po_some (pv 2)) (po_some (pe_op op_add (pv 2) pe_int)))))) pss_nil)
      (pss_cons (ps_if (pt_cmpR op_lt (pv 4) pe_int (nomark _))
        (pss_one (ps_ret (pe_op op_cat (pe_op op_cat (pe_slice sl_list (pv 1) po_none (po_some (pv 2))) (pe_lst (pa_cons (A.call (hr.mono (by decide)) (pa_cons (pv 0) (pa_cons (pv 5) pa_nil))) pa_nil))) (pe_slice sl_list (pv 1) (po_some (pe_op op_add (pv 2) (pe_callTy call_int1 (by rfl) T.int (by decide +kernel) (pa_cons (pe_cmpR op_lt (pv 4) pe_int (nomark _)) pa_nil)))) po_none)))) pss_nil)
      (pss_one (ps_ret (pe_op op_cat (pe_op op_cat (pe_slice sl_list (pv 1) po_none (po_some (pv 2))) (pe_lst (pa_cons (pe_ix ix_list (pv 10) (pe_op op_sub (pv 4) pe_int) (fun _ _ => rfl)) pa_nil))) (pe_slice sl_list (pv 1) (po_some (pe_op op_add (pv 2) pe_int)) po_none))))))))))))))), ?_⟩
    have hu2 := hu
    unfold tNoPart
    obtain ⟨ks, hp⟩ := hH.dk
    have Lp : L ≠ p := fun z => by rw [z, hp] at e0; cases e0
    have lm : (ls.map V.str).length = ls.length := List.length_map _
    have lsz := szL_len ls
    refine ⟨_, rfl, _, rfl, L, _, rfl, .inl (SqL.of e0), p, _, rfl, by omega, by omega, hH, fun d H1 d0 d1 S1 => ?_⟩
    have e1 := S1.keep _ _ Lp e0
    refine ⟨_, rfl, _, rfl, L, _, rfl, .inl (SqL.of e1), p, _, rfl, by omega, by omega, S1.hand, fun d' H2 d0' d1' S2 => ?_⟩
    have e2 := S2.keep _ _ Lp e1
    refine ⟨_, rfl, p, 9, rfl, by decide, by decide, S2.hand, fun kd H3 k0 k1 S3 => ⟨_, _, _, rfl, ?_⟩⟩
    have e3 := S3.keep _ _ Lp e2
    have S03 := (S1.trans S2).trans S3
    obtain ⟨a, rfl⟩ := Int.eq_ofNat_of_zero_le d0
    obtain ⟨b, rfl⟩ := Int.eq_ofNat_of_zero_le d0'
    obtain ⟨kn, rfl⟩ := Int.eq_ofNat_of_zero_le k0
    have al : a < ls.length := by omega
    have bl : b < ls.length := by omega
    clear S1 S2 S3 e1 e2
    refine ⟨by show 11 ≤ sizeLine; decide, fun O hO => ?_⟩
    have Op : O ≠ p := ne_hand S03.hand hO
    have LO : L ≠ O := ne_of_none e3 hO
    refine new_step hO fun H4 s4 o4 => ?_
    have o4 : H4 O = some (.lst (od1.map V.str)) := o4
    refine ⟨_, rfl, .inl ⟨rfl, _, SqL.of o4⟩, by show 6 ≤ sizeLine; decide, fun X2 hX2 => ?_⟩
    refine new_step hX2 fun G2 t2 x2 => ?_
    refine ⟨O, X2, _, _, rfl, rfl, t2 _ _ o4, x2, by show 17 ≤ sizeLine; decide, ?_⟩
    have s5 : Same H3 (upd G2 O (.lst ((od1 ++ od2).map V.str))) := (s4.trans t2).mut hO
    have o5 : (upd G2 O (.lst ((od1 ++ od2).map V.str))) O = some (.lst ((od1 ++ od2).map V.str)) := upd_same
    change tSeq _ _ _ _ (upd G2 O (.lst ((od1 ++ od2).map V.str)))
    generalize upd G2 O (.lst ((od1 ++ od2).map V.str)) = H5 at s5 o5 ⊢
    refine ⟨_, rfl, .inl ⟨rfl, _, SqL.of o5⟩, by show 6 ≤ sizeLine; decide, fun X3 hX3 => ?_⟩
    refine new_step hX3 fun G3 t3 x3 => ?_
    refine ⟨O, X3, _, _, rfl, rfl, t3 _ _ o5, x3, by show 23 ≤ sizeLine; decide, ?_⟩
    have s6 : Same H3 (upd G3 O (.lst ((od1 ++ od2 ++ od3).map V.str))) := (s5.trans t3).mut hO
    have o6 : (upd G3 O (.lst ((od1 ++ od2 ++ od3).map V.str))) O = some (.lst ((od1 ++ od2 ++ od3).map V.str)) := upd_same
    change tSeq _ _ _ _ (upd G3 O (.lst ((od1 ++ od2 ++ od3).map V.str)))
    generalize upd G3 O (.lst ((od1 ++ od2 ++ od3).map V.str)) = H6 at s6 o6 ⊢
    refine ⟨_, rfl, .inl ⟨rfl, _, SqL.of o6⟩, by show 6 ≤ sizeLine; decide, fun X4 hX4 => ?_⟩
    refine new_step hX4 fun G4 t4 x4 => ?_
    refine ⟨O, X4, _, _, rfl, rfl, t4 _ _ o6, x4, by show 29 ≤ sizeLine; decide, ?_⟩
    have s7 : Same H3 (upd G4 O (.lst ((od1 ++ od2 ++ od3 ++ od4).map V.str))) := (s6.trans t4).mut hO
    have o7 : (upd G4 O (.lst ((od1 ++ od2 ++ od3 ++ od4).map V.str))) O = some (.lst ((od1 ++ od2 ++ od3 ++ od4).map V.str)) := upd_same
    change tSeq _ _ _ _ (upd G4 O (.lst ((od1 ++ od2 ++ od3 ++ od4).map V.str)))
    generalize upd G4 O (.lst ((od1 ++ od2 ++ od3 ++ od4).map V.str)) = H7 at s7 o7 ⊢
    clear s4 s5 s6 o4 o5 o6
    have oll : ∀ o ∈ od1 ++ od2 ++ od3 ++ od4, o.length ≤ 30 := od_len
    have olen : (od1 ++ od2 ++ od3 ++ od4).length = 29 := rfl
    generalize od1 ++ od2 ++ od3 ++ od4 = os at o7 oll olen
    have e7 := s7 _ _ e3
    have S07 := S03.post s7
    have ha : ls[a]? = some ls[a] := List.getElem?_eq_getElem al
    have lnm : ls[a].length + 1 ≤ szL ls := szL_mem (List.getElem_mem al)
    have gap := szL_get ha
    generalize hln : ls[a] = ln at ha lnm gap
    have lnz : ln.length ≤ sizeLine := by rw [sizeLine_eq]; omega
    refine ⟨_, rfl, _, rfl, L, _, _, .str ln, rfl, rfl, SqL.of e7, atI_nat (by rw [List.getElem?_map, ha] <;> rfl), _, _, rfl, ?_⟩
    refine ⟨_, rfl, _, rfl, ln, rfl, lnz, _, _, rfl, rfl, p, _, rfl, by omega, by omega, S07.hand, fun h H8 h0 h1 S8 => ?_⟩
    obtain ⟨hh, rfl⟩ := Int.eq_ofNat_of_zero_le h0
    have sgl : ("0123456789 :|tielvwp\n-+" : Str).length = 23 := by decide +kernel
    generalize ("0123456789 :|tielvwp\n-+" : Str) = sgs at sgl ⊢
    have sgz : sgs.length ≤ sizeLine := by rw [sizeLine_eq]; omega
    refine ⟨_, rfl, _, rfl, _, rfl, sgs, rfl, sgz, p, _, rfl, by omega, by omega, S8.hand, fun g H9 g0 g1 S9 => ?_⟩
    obtain ⟨gg, rfl⟩ := Int.eq_ofNat_of_zero_le g0
    have gl : gg < sgs.cps.toList.length := by
      have : sgs.cps.toList.length = 23 := by rw [← sgl] <;> exact (len_tl sgs).symm
      omega
    refine ⟨sgs, _, _, rfl, rfl, sgz, atI_nat (List.getElem?_eq_getElem gl), _, _, rfl, ?_⟩
    have sg1 : (⟨#[sgs.cps.toList[gg]]⟩ : Str).length = 1 := rfl
    generalize (⟨#[sgs.cps.toList[gg]]⟩ : Str) = sg at sg1 ⊢
    have S09 := S07.trans (S8.trans S9)
    have e9 := (S8.trans S9).keep _ _ Lp e7
    have o9 := (S8.trans S9).keep _ _ Op o7
    have fz : ∀ n : Nat, n ≤ 1000000 → n ≤ sizeLine := fun n hn => by rw [sizeLine_eq]; omega
    have ap : ∀ x y : Str, (x ++ y).length = x.length + y.length := Str.length_append
    have slen : ∀ l : List Str, (l.map V.str).length ≤ szL l := fun l => by rw [List.length_map]; exact szL_len l
    have tk := fun i => szL_take ls i
    have dr := fun i => szL_drop ls i
    have c1 : (cutS ln none (some (hh : Int))).length + (cutS ln (some (hh : Int)) none).length = ln.length := by
      rw [len_tl, len_tl (cutS ln (some (hh : Int)) none), tl_cutS_to, tl_cutS_from, len_tl ln, List.length_take, List.length_drop]
      omega
    have c2 : (cutS ln none (some (hh : Int))).length + (cutS ln (some ((hh : Int) + 1)) none).length ≤ ln.length := by
      have e : ((hh : Int) + 1) = ((hh + 1 : Nat) : Int) := by rw [Int.natCast_add] <;> rfl
      rw [e, len_tl, len_tl (cutS ln (some ((hh + 1 : Nat) : Int)) none), tl_cutS_to, tl_cutS_from, len_tl ln, List.length_take, List.length_drop]
      omega
    have a1 : ((a : Int) + 1) = ((a + 1 : Nat) : Int) := by rw [Int.natCast_add] <;> rfl
    have b1 : ((b : Int) + 1) = ((b + 1 : Nat) : Int) := by rw [Int.natCast_add] <;> rfl
    refine ⟨_, rfl, _, rfl, _, rfl, ln, rfl, lnz, _, rfl, _, _, rfl, rfl, fz _ (by omega), _, rfl, _, rfl, _, rfl, ln, rfl, lnz, _, _, rfl, rfl, fz _ (by rw [ap]; omega), ?_⟩
    refine ⟨_, rfl, _, rfl, _, rfl, ln, rfl, lnz, _, rfl, _, rfl, _, _, rfl, rfl, _, rfl, ln, rfl, lnz, _, _, rfl, rfl, fz _ (by omega), ?_⟩
    refine ⟨_, rfl, _, rfl, _, rfl, ln, rfl, lnz, _, rfl, _, _, rfl, rfl, fz _ (by omega), _, rfl, _, rfl, _, _, rfl, rfl, _, rfl, ln, rfl, lnz, _, _, rfl, rfl, fz _ (by rw [ap]; omega), by show 3 ≤ sizeLine; decide, fun C hC => ?_⟩
    refine new_step hC fun H10 s10 e10 => ?_
    have Cp : C ≠ p := ne_hand S09.hand hC
    have S010 := S09.post s10
    have eL := s10 _ _ e9
    have eO := s10 _ _ o9
    refine ⟨_, rfl, rfl, _, rfl, ?_⟩
    by_cases q0 : kn = 0
    · rw [decide_eq_true (show V.int (kn : Int) = V.int 0 by rw [q0] <;> rfl)]
      refine iteT ⟨_, rfl, _, rfl, (a : Int), rfl, L, _, rfl, SqL.of eL, fun p1 hp1 => ?_⟩
      rw [cut_toS]
      refine new_step hp1 fun G1 r1 f1 => ?_
      refine ⟨_, rfl, _, rfl, _, _, rfl, rfl, _, rfl, L, _, rfl, SqL.of (r1 _ _ eL), fun p4 hp4 => ?_⟩
      rw [a1, cut_fromS]
      refine new_step hp4 fun G2 r2 f2 => ?_
      have l1 := slen (ls.take a)
      have l2 := tk a
      have l3 := slen (ls.drop (a + 1))
      have l4 := dr (a + 1)
      refine ⟨p1, p4, _, _, rfl, rfl, r2 _ _ f1, f2, fz _ (by omega), fun p5 hp5 => ?_⟩
      refine k p5 (ls.take a ++ ls.drop (a + 1)) _ (S010.post ((r1.trans r2).trans (Same.new hp5))) (by rw [upd_same, List.map_append]) ?_
      rw [szL_app]
      omega
    rw [decide_eq_false (show ¬ V.int (kn : Int) = V.int 0 from fun z => q0 (by have := V.int.inj z; omega))]
    refine iteF ⟨_, rfl, rfl, _, rfl, ?_⟩
    by_cases q1 : kn = 1
    · rw [decide_eq_true (show V.int (kn : Int) = V.int 1 by rw [q1] <;> rfl)]
      refine iteT ⟨_, rfl, _, rfl, (a : Int), rfl, L, _, rfl, SqL.of eL, fun p1 hp1 => ?_⟩
      rw [cut_toS]
      refine new_step hp1 fun G1 r1 f1 => ?_
      refine ⟨_, rfl, _, rfl, _, rfl, _, rfl, _, _, rfl, rfl, _, rfl, L, _, rfl, SqL.of (r1 _ _ eL), fun p2 hp2 => ?_⟩
      obtain ⟨ys, ey, ysz⟩ := cut_midS ls b 1
      rw [b1, ey]
      refine new_step hp2 fun G2 r2 f2 => ?_
      have l1 := slen (ls.take a)
      have l2 := tk a
      have l3 := slen ys
      have l4 := dr b
      refine ⟨p1, p2, _, _, rfl, rfl, r2 _ _ f1, f2, fz _ (by omega), fun p3 hp3 => ?_⟩
      refine new_step hp3 fun G3 r3 f3 => ?_
      refine ⟨_, rfl, _, rfl, (a : Int), rfl, L, _, rfl, SqL.of (((r1.trans r2).trans r3) _ _ eL), fun p4 hp4 => ?_⟩
      rw [cut_fromS]
      refine new_step hp4 fun G4 r4 f4 => ?_
      have l5 := slen (ls.drop a)
      have l6 := dr a
      have l7 := szL_cut ls a
      refine ⟨p3, p4, _, _, rfl, rfl, r4 _ _ f3, f4, fz _ (by rw [List.length_append]; omega), fun p5 hp5 => ?_⟩
      refine k p5 (ls.take a ++ ys ++ ls.drop a) _ (S010.post ((((r1.trans r2).trans r3).trans r4).trans (Same.new hp5))) (by rw [upd_same, List.map_append, List.map_append]) ?_
      rw [szL_app, szL_app]
      omega
    rw [decide_eq_false (show ¬ V.int (kn : Int) = V.int 1 from fun z => q1 (by have := V.int.inj z; omega))]
    refine iteF ⟨_, rfl, rfl, _, rfl, ?_⟩
    by_cases q2 : kn = 2
    · rw [decide_eq_true (show V.int (kn : Int) = V.int 2 by rw [q2] <;> rfl)]
      refine iteT ⟨_, rfl, _, rfl, (a : Int), rfl, L, _, rfl, SqL.of eL, fun p1 hp1 => ?_⟩
      rw [cut_toS]
      refine new_step hp1 fun G1 r1 f1 => ?_
      refine ⟨_, rfl, _, rfl, _, _, rfl, rfl, _, rfl, L, _, rfl, SqL.of (r1 _ _ eL), fun p2 hp2 => ?_⟩
      rw [a1, cut_fromS]
      refine new_step hp2 fun G2 r2 f2 => ?_
      have l1 := slen (ls.take a)
      have l2 := tk a
      have l3 := slen (ls.drop (a + 1))
      have l4 := dr (a + 1)
      refine ⟨p1, p2, _, _, rfl, rfl, r2 _ _ f1, f2, fz _ (by omega), fun p3 hp3 => ?_⟩
      refine new_step hp3 fun G3 r3 f3 => ?_
      refine ⟨_, rfl, _, rfl, (a : Int), rfl, _, rfl, _, _, rfl, rfl, _, rfl, L, _, rfl, SqL.of (((r1.trans r2).trans r3) _ _ eL), fun p4 hp4 => ?_⟩
      obtain ⟨ys, ey, ysz⟩ := cut_midS ls a 1
      rw [a1, ey]
      refine new_step hp4 fun G4 r4 f4 => ?_
      have l5 := slen ys
      have l6 := dr a
      have l7 := szL_gap ls a 1
      refine ⟨p3, p4, _, _, rfl, rfl, r4 _ _ f3, f4, fz _ (by rw [List.length_append]; omega), fun p5 hp5 => ?_⟩
      refine k p5 (ls.take a ++ ls.drop (a + 1) ++ ys) _ (S010.post ((((r1.trans r2).trans r3).trans r4).trans (Same.new hp5))) (by rw [upd_same, List.map_append, List.map_append]) ?_
      rw [szL_app, szL_app]
      omega
    rw [decide_eq_false (show ¬ V.int (kn : Int) = V.int 2 from fun z => q2 (by have := V.int.inj z; omega))]
    refine iteF ⟨_, rfl, _, _, rfl, rfl, _, rfl, ?_⟩
    by_cases q6 : kn < 6
    · rw [decide_eq_true (show (kn : Int) < 6 by omega)]
      refine iteT ⟨_, rfl, _, rfl, (a : Int), rfl, L, _, rfl, SqL.of eL, fun p1 hp1 => ?_⟩
      rw [cut_toS]
      refine new_step hp1 fun G1 r1 f1 => ?_
      have p1p : p1 ≠ p := ne_hand S010.hand hp1
      have lo : (os.map V.str).length = 29 := by rw [List.length_map]; exact olen
      refine ⟨_, rfl, _, rfl, p, O, _, rfl, .inl (SqL.of (r1 _ _ eO)), by rw [lo]; decide, by rw [lo]; decide, S010.hand.same r1, fun i x G2 hx S11 => ?_⟩
      obtain ⟨z, hz, rfl⟩ : ∃ z ∈ os, x = .str z := by
        rw [List.getElem?_map] at hx
        obtain ⟨z, h1, h2⟩ := Option.map_eq_some_iff.mp hx
        exact ⟨z, List.mem_of_getElem? h1, h2.symm⟩
      have zl := oll z hz
      refine ⟨by show 1 ≤ sizeLine; decide, fun p2 hp2 => ?_⟩
      refine new_step hp2 fun G3 r3 f3 => ?_
      have f1' := r3 _ _ (S11.keep _ _ p1p f1)
      have eL' := r3 _ _ (S11.keep _ _ Lp (r1 _ _ eL))
      have SA := ((S010.post r1).trans S11).post r3
      have l1 := slen (ls.take a)
      have l2 := tk a
      refine ⟨p1, p2, _, _, rfl, rfl, f1', f3, fz _ (by show _ + 1 ≤ _; omega), fun p3 hp3 => ?_⟩
      refine new_step hp3 fun G4 r4 f4 => ?_
      refine ⟨_, rfl, _, rfl, _, rfl, _, _, rfl, rfl, .inr ⟨decide ((kn : Int) < 5), rfl, _, _, rfl, rfl, _, rfl, L, _, rfl, SqL.of (r4 _ _ eL'), fun p4 hp4 => ?_⟩⟩
      obtain ⟨j, hj, ej⟩ : ∃ j : Nat, j ≤ 1 ∧ (a : Int) + (if decide ((kn : Int) < 5) = true then (1 : Int) else 0) = ((a + j : Nat) : Int) := by
        by_cases c : (kn : Int) < 5
        · exact ⟨1, Nat.le_refl _, by rw [if_pos (decide_eq_true c)] <;> rfl⟩
        · exact ⟨0, Nat.zero_le _, by rw [if_neg (fun z => c (of_decide_eq_true z))] <;> rfl⟩
      rw [ej, cut_fromS]
      refine new_step hp4 fun G5 r5 f5 => ?_
      have l3 := slen (ls.drop (a + j))
      have l4 := dr (a + j)
      have l5 := szL_gap ls a j
      refine ⟨p3, p4, _, _, rfl, rfl, r5 _ _ f4, f5, fz _ (by rw [List.length_append]; show _ + 1 + _ ≤ _; omega), fun p5 hp5 => ?_⟩
      refine k p5 (ls.take a ++ [z] ++ ls.drop (a + j)) _ (SA.post ((r4.trans r5).trans (Same.new hp5))) (by rw [upd_same, List.map_append, List.map_append] <;> rfl) ?_
      rw [szL_app, szL_app, szL_one]
      omega
    · rw [decide_eq_false (show ¬ (kn : Int) < 6 by omega)]
      obtain ⟨kk, rfl⟩ : ∃ kk, kn = kk + 6 := ⟨kn - 6, by omega⟩
      have kk3 : kk < 3 := by omega
      have pick : ∃ z : Str, atI [V.str (cutS ln none (some (hh : Int)) ++ sg ++ cutS ln (some (hh : Int)) none), .str (cutS ln none (some (hh : Int)) ++ cutS ln (some ((hh : Int) + 1)) none), .str (cutS ln none (some (hh : Int)) ++ sg ++ cutS ln (some ((hh : Int) + 1)) none)] (((kk + 6 : Nat) : Int) - 6) = some (.str z) ∧ z.length ≤ ln.length + 1 := by
        rw [show ((kk + 6 : Nat) : Int) - 6 = ((kk : Nat) : Int) by omega]
        match kk, kk3 with
        | 0, _ => exact ⟨_, atI_nat (j := 0) rfl, by rw [ap, ap]; omega⟩
        | 1, _ => exact ⟨_, atI_nat (j := 1) rfl, by rw [ap]; omega⟩
        | 2, _ => exact ⟨_, atI_nat (j := 2) rfl, by rw [ap, ap]; omega⟩
      obtain ⟨z, hz1, hz2⟩ := pick
      refine iteF ⟨_, rfl, _, rfl, (a : Int), rfl, L, _, rfl, SqL.of eL, fun p1 hp1 => ?_⟩
      rw [cut_toS]
      refine new_step hp1 fun G1 r1 f1 => ?_
      refine ⟨_, rfl, _, rfl, _, _, rfl, rfl, C, _, _, .str z, rfl, rfl, SqL.of (r1 _ _ e10), hz1, by show 1 ≤ sizeLine; decide, fun p2 hp2 => ?_⟩
      refine new_step hp2 fun G2 r2 f2 => ?_
      have l1 := slen (ls.take a)
      have l2 := tk a
      refine ⟨p1, p2, _, _, rfl, rfl, r2 _ _ f1, f2, fz _ (by show _ + 1 ≤ _; omega), fun p3 hp3 => ?_⟩
      refine new_step hp3 fun G3 r3 f3 => ?_
      refine ⟨_, rfl, _, rfl, _, _, rfl, rfl, _, rfl, L, _, rfl, SqL.of (((r1.trans r2).trans r3) _ _ eL), fun p4 hp4 => ?_⟩
      rw [a1, cut_fromS]
      refine new_step hp4 fun G4 r4 f4 => ?_
      have l3 := slen (ls.drop (a + 1))
      have l4 := dr (a + 1)
      refine ⟨p3, p4, _, _, rfl, rfl, r4 _ _ f3, f4, fz _ (by rw [List.length_append]; show _ + 1 + _ ≤ _; omega), fun p5 hp5 => ?_⟩
      refine k p5 (ls.take a ++ [z] ++ ls.drop (a + 1)) _ (S010.post ((((r1.trans r2).trans r3).trans r4).trans (Same.new hp5))) (by rw [upd_same, List.map_append, List.map_append] <;> rfl) ?_
      rw [szL_app, szL_app, szL_one]
      omega
end
end Law

namespace L2
open PySem PySem.Spec PyProof.Rows TL
theorem modT_len {m : Mdl} (sm : MdlSm m) : (modT m).length ≤ 16432 := by
  unfold modT
  have key : ∀ ps : List (List Nat), (∀ p ∈ ps, p.length ≤ 103) → (ps.flatMap fun l => l ++ [10]).length ≤ ps.length * 104 := fun ps => by
    induction ps with
    | nil => exact fun _ => Nat.zero_le _
    | cons p ps ih =>
      intro h
      have a := ih fun q hq => h q (List.mem_cons_of_mem _ hq)
      have b := h p List.mem_cons_self
      rw [List.flatMap_cons, List.length_append, List.length_append]
      show p.length + 1 + _ ≤ (ps.length + 1) * 104
      omega
  have z := key (linesT m) fun l hl => Law.line_len sm hl
  have n : (linesT m).length = 2 + (m.ws.length + m.ts.length) := by
    unfold linesT
    rw [List.length_cons, List.length_cons, List.length_append, List.length_map, List.length_map]
    omega
  have := sm.wl
  have := sm.tl
  omega
theorem cut_last {ls : List Str} : cutV (ls.map V.str) none (some (-1)) = ls.dropLast.map V.str := by
  unfold cutV
  show ((ls.map V.str).drop 0).take (HT.sIx (ls.map V.str).length (ls.map V.str).length (some (-1)) - 0) = _
  have e : HT.sIx (ls.map V.str).length (ls.map V.str).length (some (-1)) = ls.length - 1 := by
    rw [List.length_map]
    unfold HT.sIx
    simp only
    split <;> omega
  rw [e, List.drop_zero, Nat.sub_zero, ← List.map_take, List.dropLast_eq_take]
theorem szL_dropLast (ls : List Str) : szL ls.dropLast ≤ szL ls := by
  rw [List.dropLast_eq_take]
  exact szL_take _ _
end L2
namespace Law
open PySem L2 TL
theorem stp_mod {K : PySem.W.Frag} {C p : Addr} {H H' : Hp} {y : Addr} {m : Mdl} (hh : HandAt H p) (s : Stp p H H') (h : ModAt K C H y m) : ModAt K C H' y m := by
  obtain ⟨dx, wa, ta, h1, h2, vs, h3, h4⟩ := h
  have n : y ≠ p := ne_of h1 hh.dk.choose_spec (by intro z; cases z)
  exact ⟨dx, wa, ta, s.keep _ _ n h1, rowsAt_stp s hh h2, vs, s.sqT hh h3, h4.mono fun _ _ => tieAt_stp s hh⟩
/-- what may be asked to be read -/
def Good (K : PySem.W.Frag) (H : Hp) (x : V) : Prop := (∃ t : Str, x = .str t ∧ t.length ≤ 100000) ∨ (∃ ty, (∀ H', Same H H' → TyX K H' x ty) ∧ PySem.W.kitOne K ty (.type "str") = some false)
theorem good_lst {K : PySem.W.Frag} {H : Hp} {a : Addr} {xs : List V} (h : H a = some (.lst xs)) : Good K H (.ref a) := .inr ⟨_, fun _ s => .base (.lst (s _ _ h)), kit_ty (by decide +kernel)⟩
theorem good_tup {K : PySem.W.Frag} {H : Hp} {a : Addr} {xs : List V} (h : H a = some (.tup xs)) : Good K H (.ref a) := .inr ⟨_, fun _ s => tyx_tup (SqT.of (s _ _ h)), kit_ty (by decide +kernel)⟩
theorem good_dic {K : PySem.W.Frag} {H : Hp} {a : Addr} {ks : List (Key × V)} (h : H a = some (.dK ks)) : Good K H (.ref a) := .inr ⟨_, fun _ s => .base (.dK (s _ _ h)), kit_ty (by decide +kernel)⟩
section
variable {P : Program} {w : World} {K : PySem.W.Frag} {mg : Str → Option Value} {base : Heap}
def spLaw (K : PySem.W.Frag) : Sp := fun vs H Q _ => ∃ (a : Addr) (ns : List Int), vs = [.ref a] ∧ SqL K H a (ns.map V.int) ∧ ns.length ≤ 63 ∧ ∀ H', Q (.bl true) H'
abbrev nLaw : List Str := ["_law_script", "_law_hand_here", "_law_turn", "_law_one", "_law_model", "_law_text_here", "_law_again", "_law_lines", "_law_bent_here", "_law_other", "_law_cut", "_law_things", "_law_line_here"]
theorem scLaw : FnScope nLaw ["_law_script"] (defScope s_law) := ⟨rfl, rfl, rfl, by decide +kernel, rfl, by decide +kernel, by decide +kernel⟩
theorem ok_law {f : Addr} {fd : FuncData} {fcHand : Addr} {fdcHand : FuncData} {fcBegun : Addr} {fdcBegun : FuncData} {fgMN : Addr} {fdgMN : FuncData} {fcTxt : Addr} {fdcTxt : FuncData} {fcIsRd : Addr} {fdcIsRd : FuncData} {fcModT : Addr} {fdcModT : FuncData} {fA : Addr} {fdA : FuncData} {fcBent : Addr} {fdcBent : FuncData} {fD : Addr} {fdD : FuncData} {C BM BL fE fR : Addr} {fdE fdR : FuncData} (F : Fun K "law" "law" s_law f fd) (T : NmA mg) (cHand : Cl P w K mg base CX0 1 "_law_hand" fcHand fdcHand ["_law_script"] (spHand K)) (cBegun : Cl P w K mg base CX0 3 "_law_begun" fcBegun fdcBegun ["_law_hand_here"] (spBegun K)) (MgMN : Mk K C fgMN) (GgMN : FnOk P w K mg base CX0 6 fgMN fdgMN ["self", "many", "levels", "weights", "ties"] (spMInitN K C)) (BgMN : Binds K fdgMN ["self", "many", "levels", "weights", "ties"] []) (YgMN : ModT K mg C) (cTxt : Cl P w K mg base CX0 1 "_law_text" fcTxt fdcTxt ["_law_one"] (spTxt K)) (cIsRd : Cl P w K mg base CX0 11 "_law_is_read" fcIsRd fdcIsRd ["_law_text_here"] (spIsRd K)) (cModT : Cl P w K mg base CX0 2 "model_text" fcModT fdcModT ["model"] (spModT K C)) (A : Cl P w K mg base CX0 2 "_law_any" fA fdA ["_law_hand_here", "_law_things"] (spAny K)) (cBent : Cl P w K mg base CX0 3 "_law_bent" fcBent fdcBent ["_law_hand_here", "_law_lines"] (spBent K)) (D : Cl P w K mg base CX0 1 "_law_draw" fD fdD ["_law_hand_here", "_law_many"] spDraw) (cReadM : ClX P w K mg base 8 "read_model" fR fdR ["text"] (spReadM K C BM BL)) (GE : FnOk P w K mg base CX0 1 fE fdE ["self", "other"] (spMEq K C)) (hsE : PySem.W.findIn K (.ref C) "__eq__" = some (some (.ref fE))) (hfE : PySem.W.isFn K (.ref fE) = true) (BE : Binds K fdE ["self", "other"] []) (kS : PySem.W.kitOne K (.ref C) (.type "str") = some false) : FnOk P w K mg base CX0 12 f fd ["_law_script"] (spLaw K) := by
  refine F.ok scLaw (fun vs H Q E h => ?_) (fun cdv A' outer s H vs Q E hr h => ?_)
  · obtain ⟨a, ns, rfl, _⟩ := h
    rfl
  · obtain ⟨a, ns, rfl, hN, h63, k⟩ := h
    have hu := hu_of hr
    refine ⟨_, pss_cons (ps_set (i := 1) scLaw.nd rfl (Or.inl rfl) (cHand.call (hr.mono (by decide)) (pa_cons (pv 0) pa_nil)))
      (pss_cons (ps_for PassesOwn.never rfl (pi_range1 (by rfl) T.range (pa_cons pe_int pa_nil)) (pg_name (i := 2) scLaw.nd rfl (Or.inl rfl))
        (pss_cons (ps_set (i := 3) scLaw.nd rfl (Or.inl rfl) (cBegun.call (hr.mono (by decide)) (pa_cons (pv 1) pa_nil)))
        (pss_cons (ps_par (i := 4) (j := 5) (by rfl) scLaw.nd rfl rfl (by decide) rfl rfl (pa_cons (pe_make MgMN GgMN (hr.mono (by decide)) (by rfl) YgMN.mgC BgMN .nil pass0 (pa_cons (pe_dget hu (pv 3) pe_str (fun _ _ => rfl)) (pa_cons (pe_dget hu (pv 3) pe_str (fun _ _ => rfl)) (pa_cons (pe_dget hu (pv 3) pe_str (fun _ _ => rfl)) (pa_cons (pe_dget hu (pv 3) pe_str (fun _ _ => rfl)) pa_nil))))) (pa_cons (cTxt.call (hr.mono (by decide)) (pa_cons (pv 3) pa_nil)) pa_nil)) (by rfl))
        (pss_cons (ps_if (PW.pt (pw_or (pt_cmpR op_ne (cModT.call (hr.mono (by decide)) (pa_cons (pv 4) pa_nil)) (pv 5) (nomark _)) (pw_or (pt_not (pt_cmpR (op_ownS GE hsE hfE BE (hr.mono (by decide)) bl_ME) (cReadM.callS (hr.mono (by decide)) takes0 (pa_cons (pv 5) pa_nil)) (pv 4) (nomark _))) (pw_or1 (pt_not (pt_val (cIsRd.call (hr.mono (by decide)) (pa_cons (pv 5) pa_nil))))))))
          (pss_one (ps_ret pe_bl)) pss_nil)
        (pss_one (ps_for PassesOwn.never rfl (pi_range1 (by rfl) T.range (pa_cons pe_int pa_nil)) (pg_name (i := 6) scLaw.nd rfl (Or.inl rfl))
          (pss_cons (ps_set (i := 7) scLaw.nd rfl (Or.inl rfl) (pe_slice sl_list (pe_m1 PySem.F.slot_str_split PySem.F.type_str_split mt_split (pv 5) pe_str) po_none (po_some (pe_un un_neg pe_int))))
          (pss_cons (ps_for PassesOwn.never rfl (pi_range1 (by rfl) T.range (pa_cons (A.call (hr.mono (by decide)) (pa_cons (pv 1) (pa_cons (pe_lst (pa_cons pe_int (pa_cons pe_int (pa_cons pe_int (pa_cons pe_int pa_nil))))) pa_nil))) pa_nil)) (pg_name (i := 8) scLaw.nd rfl (Or.inl rfl))
            (pss_one (ps_set (i := 7) scLaw.nd rfl (Or.inl rfl) (pe_ifExp (pt_cmpR op_gt (pe_callB call_len_seq (by rfl) T.len PySem.boot_len (pa_cons (pv 7) pa_nil)) pe_int (nomark _)) (cBent.call (hr.mono (by decide)) (pa_cons (pv 1) (pa_cons (pv 7) pa_nil))) (pe_lst (pa_cons pe_str pa_nil))))))
          (pss_cons (ps_set (i := 9) scLaw.nd rfl (Or.inl rfl) (pe_m1 PySem.F.slot_str_join PySem.F.type_str_join mt_join pe_str (pe_lc (own := [("_law_line_here", 12)]) (g := (gName 12)) (tt := tYes) rfl scLaw.nd  (pi_list (pv 7)) (blkOk_by (own := [("_law_line_here", 12)]) (N := nLaw) (sc := defScope s_law) (by decide +kernel)) (fun _ _ _ _ _ => (pg_name (i := 12) scLaw.nd rfl (Or.inl rfl))) (fun _ _ _ _ _ => pts_nil) (fun _ _ _ _ _ => (pe_op op_add_str (pv 12) pe_str)))))
          (pss_cons (ps_set (i := 10) scLaw.nd rfl (Or.inl rfl) (pe_slice sl_str (pv 5) po_none (po_some (D.call (hr.mono (by decide)) (pa_cons (pv 1) (pa_cons (pe_op op_add (pe_callB call_len_str (by rfl) T.len PySem.boot_len (pa_cons (pv 5) pa_nil)) pe_int) pa_nil))))))
          (pss_one (ps_if (pt_not (pt_val (cIsRd.call (hr.mono (by decide)) (pa_cons (A.call (hr.mono (by decide)) (pa_cons (pv 1) (pa_cons (pe_op op_cat (pe_op op_rep (pe_lst (pa_cons (pv 9) pa_nil)) pe_int) (pe_lst (pa_cons (pv 10) (pa_cons (pe_op op_add_str (pv 5) pe_str) (pa_cons (pe_op op_add_str (pv 5) pe_str) (pa_cons (pe_slice sl_str (pv 5) po_none (po_some (pe_un un_neg pe_int))) (pa_cons (pe_op op_add_str (pv 5) (pv 5)) pa_nil))))))) pa_nil))) pa_nil))))
            (pss_one (ps_ret pe_bl)) pss_nil))))))))))))
      (pss_cons (ps_set (i := 11) scLaw.nd rfl (Or.inl rfl) (pe_lst (pa_cons pe_non (pa_cons pe_int (pa_cons pe_bl (pa_cons (pe_lst (pa_cons pe_str pa_nil)) (pa_cons (pe_tup (pa_cons pe_str pa_nil)) (pa_cons pe_dnewK (pa_cons (pv 4) (pa_cons (pe_tup pa_nil) (pa_cons (pe_lst pa_nil) (pa_cons pe_str pa_nil))))))))))))
      (pss_one (ps_ret (pe_and (cIsRd.call (hr.mono (by decide)) (pa_cons (A.call (hr.mono (by decide)) (pa_cons (pv 1) (pa_cons (pv 11) pa_nil))) pa_nil)) (pe_one (cIsRd.call (hr.mono (by decide)) (pa_cons pe_str pa_nil)))))))), ?_⟩
    refine ⟨_, rfl, a, ns, rfl, hN, h63, fun p H1 hp s1 hH1 => ?_⟩
    refine ⟨2, rfl, by decide, by decide, ?_⟩
    refine for_range (lo := 0) (n := 2) (fun i σ H' => Stp p H1 H' ∧ ∃ u2 u3 u4 u5 u6 u7 u8 u9 u10 : Option V, (0 < i → ∃ y m, u4 = some (.ref y) ∧ ModAt K C H' y m) ∧ σ = [some (.ref a), some (.ref p), u2, u3, u4, u5, u6, u7, u8, u9, u10, none, none]) ⟨Stp.refl hH1, _, _, _, _, _, _, _, _, _, fun z => absurd z (Nat.lt_irrefl 0), rfl⟩ ?_ ?_
    · rintro i σ H2 hi ⟨S2, u2, u3, u4, u5, u6, u7, u8, u9, u10, _, rfl⟩
      refine ⟨_, rfl, p, rfl, S2.hand, fun d m H3 S3 hD sm wr => ?_⟩
      obtain ⟨w1, t1, hd1, hd2, hd3⟩ := id hD
      refine ⟨_, rfl, d, _, rfl, gd_m hd1, _, rfl, d, _, rfl, gd_l hd1, _, rfl, d, _, rfl, gd_w hd1, _, rfl, d, _, rfl, gd_t hd1, ?_⟩
      intro y dy hy hdy ney
      obtain ⟨ok1, ok2⟩ := sm_ok sm
      have sx : Same H3 (upd (upd H3 dy (.own y)) y (.ins C dy [])) := mk_same0 hy hdy
      refine ⟨y, dy, w1, t1, m, rfl, upd_same, hd2.same sx, hd3.same sx, ok1, ok2, wr, fun H4 k4 h4 => ⟨rfl, _, rfl, d, m, rfl, hD.same (mk_same hy hdy k4), sm, fun t H5 s5 ht => ⟨_, _, rfl, ?_⟩⟩⟩
      have s4 : Same H3 H4 := mk_same hy hdy k4
      have s35 := s4.trans s5
      have Sy : ModAt K C H5 y m := ⟨dy, w1, t1, s5 _ _ h4, hd2.same s35, hd3.same s35⟩
      have S15 := (S2.trans S3).post s35
      have tl1 : t.length ≤ 16432 := by rw [len_tl, ht]; exact modT_len sm
      obtain ⟨c1, c2, c3, _, _⟩ := wrong_ok wr
      have g12 : (12 : Int) < 10 ^ 12 := by decide
      have g10 : (1000 : Int) < 10 ^ 12 := by decide
      have rS : ∀ l : List Int, l ≠ [] → (∀ x ∈ l, 0 ≤ x ∧ x ≤ 1000) → RowSm l := fun l r0 r1 => ⟨r0, fun x hx => ⟨(r1 x hx).1, Int.lt_of_le_of_lt (r1 x hx).2 g10⟩⟩
      have hrd : readM (Txt.split t ⟨#[10]⟩) = .told m := by
        rw [readM_back ht (by omega) (by omega) (by omega) (by omega) (tab_rows c3).1 (fun l hl => rS l (sm.wr l hl).2.1 (sm.wr l hl).2.2) fun u hu => ?_]
        · unfold madeM
          rw [wr]
        · obtain ⟨r0, r1, _, r2, r3⟩ := sm.tr u hu
          exact ⟨⟨r0.1, by omega⟩, ⟨r1.1, by omega⟩, r2, fun l hl => rS l (r3 l hl).2.1 (r3 l hl).2.2⟩
      refine ⟨_, rfl, y, m, rfl, Sy, sm, fun tx H6 s6 htx => ?_⟩
      refine ⟨_, rfl, rfl, _, rfl, ?_⟩
      rw [dec_str, decide_eq_true (show tx = t from ext_tl (htx.trans ht.symm))]
      refine iteF ⟨_, rfl, .str t, rfl, .inl ⟨t, rfl, by omega, fun n' d' H' hr' => ?_, fun pt d' H' hr' => ?_, fun m' q H7 hr' s7 hq hS => ?_⟩⟩
      · rw [hrd] at hr'
        cases hr'
      · rw [hrd] at hr'
        cases hr'
      rw [hrd] at hr'
      cases hr'
      have Sy7 := (Sy.same s6).same s7
      obtain ⟨dq, wq, tq, hq1, _⟩ := id hS
      obtain ⟨dy7, wy7, ty7, hy1, _⟩ := id Sy7
      refine ⟨_, rfl, q, y, dq, _, dy7, _, rfl, rfl, hq1, hy1, q, y, m, m, rfl, hS, Sy7, _, rfl, ?_⟩
      rw [eqM_self]
      refine iteF ⟨_, rfl, .str t, rfl, .inl ⟨t, rfl, by omega⟩, fun H8 s8 => ⟨_, rfl, iteF ?_⟩⟩
      have s58 := (s6.trans s7).trans s8
      have S18 := S15.post s58
      have Sy8 := Sy.same s58
      have hh1 := hH1
      clear hq1 hy1 hS hq s6 s7 s8 Sy7 htx
      refine ⟨6, rfl, by decide, by decide, ?_⟩
      refine for_range (lo := 0) (n := 6) (fun j σ H' => (Stp p H1 H' ∧ ModAt K C H' y m) ∧ ∃ u6 u7 u8 u9 u10 : Option V, σ = [some (.ref a), some (.ref p), some (.int (0 + (i : Int))), some (.ref d), some (.ref y), some (.str t), u6, u7, u8, u9, u10, none, none]) ⟨⟨S18, Sy8⟩, _, _, _, _, _, rfl⟩ ?_ ?_
      · rintro j σ H9 hj ⟨⟨S9, M9⟩, v6, v7, v8, v9, v10, rfl⟩
        have tz : t.length ≤ sizeLine := by rw [sizeLine_eq]; omega
        have fz : ∀ k : Nat, k ≤ 1000000 → k ≤ sizeLine := fun k hk => by rw [sizeLine_eq]; omega
        have ap : ∀ x y : Str, (x ++ y).length = x.length + y.length := Str.length_append
        have hz := split_sz t (c := 10) (by decide)
        have lz := szL_len (Txt.split t (⟨#[10]⟩ : Str))
        rw [← nl_is] at hz lz
        unfold tNoPart
        refine ⟨_, rfl, ⟨_, rfl⟩, t, _, rfl, rfl, by decide +kernel, by rw [sizeLine_eq]; omega, fun L0 hL0 => ?_⟩
        refine new_step hL0 fun H10 s10 e10 => ?_
        generalize Txt.split t ("\n" : Str) = ls at hz lz e10
        refine ⟨_, rfl, _, rfl, L0, _, rfl, SqL.of e10, fun L1 hL1 => ?_⟩
        rw [cut_last]
        refine new_step hL1 fun H11 s11 e11 => ?_
        have bz := szL_dropLast ls
        generalize ls.dropLast = ys0 at e11 bz
        have S11 : Stp p H9 H11 := Stp.of S9.hand (s10.trans s11)
        refine ⟨_, rfl, by show 4 ≤ sizeLine; decide, fun X hX => ?_⟩
        refine new_step hX fun H12 s12 e12 => ?_
        refine ⟨p, X, _, rfl, .inl (SqL.of e12), by show 0 < 4; decide, by show 4 < 1073741824; decide, S11.hand.same s12, fun ii x H13 hx S13 => ?_⟩
        obtain ⟨nn, rfl, nn1, nn2⟩ : ∃ nn : Nat, x = .int (nn : Int) ∧ 1 ≤ nn ∧ nn ≤ 2 := by
          have mm := List.mem_of_getElem? hx
          simp only [List.mem_cons, List.not_mem_nil, or_false] at mm
          rcases mm with rfl | rfl | rfl | rfl
          · exact ⟨1, rfl, by decide, by decide⟩
          · exact ⟨1, rfl, by decide, by decide⟩
          · exact ⟨1, rfl, by decide, by decide⟩
          · exact ⟨2, rfl, by decide, by decide⟩
        have L1p : L1 ≠ p := ne_hand (S9.hand.same s10) hL1
        have S913 : Stp p H9 H13 := S11.trans (S13.pre s12)
        have e13 := S13.keep _ _ L1p (s12 _ _ e11)
        refine ⟨_, rfl, by omega, by omega, ?_⟩
        rw [Int.toNat_natCast]
        refine for_range (lo := 0) (n := nn) (fun i' σ H' => (Stp p H9 H' ∧ ∃ (L : Addr) (ys : List Str), H' L = some (.lst (ys.map V.str)) ∧ (i' = 0 → szL ys ≤ 16433) ∧ (i' = 1 → szL ys ≤ 33000) ∧ (i' = 2 → szL ys ≤ 66200) ∧ (∃ u8 : Option V, σ = [some (.ref a), some (.ref p), some (.int (0 + (i : Int))), some (.ref d), some (.ref y), some (.str t), some (.int (0 + (j : Int))), some (.ref L), u8, v9, v10, none, none]))) ⟨S913, L1, ys0, e13, fun _ => by omega, fun z => (by cases z), fun z => (by cases z), _, rfl⟩ ?_ ?_
        · rintro i' σ H14 hi' ⟨S14, L, ys, eL, b0, b1, _, u8, rfl⟩
          have yz : szL ys ≤ 33000 := by
            have : i' = 0 ∨ i' = 1 := by omega
            rcases this with h | h
            · exact Nat.le_trans (b0 h) (by decide)
            · exact b1 h
          refine mrgIf (fun v H' => Stp p H14 H' ∧ ∃ (L' : Addr) (ys' : List Str), v = .ref L' ∧ H' L' = some (.lst (ys'.map V.str)) ∧ szL ys' ≤ 2 * szL ys + 100) (fun Q' key => ?_) ?_
          · refine ⟨_, rfl, L, _, rfl, .inl (SqL.of eL), _, _, rfl, rfl, _, rfl, ?_⟩
            rw [List.length_map]
            by_cases c : 0 < ys.length
            · rw [decide_eq_true (show ((ys.length : Nat) : Int) > 0 by omega)]
              exact iteT ⟨_, rfl, _, rfl, p, L, ys, rfl, S14.hand, eL, c, by omega, fun q ys' H' S' e' z' => key _ _ ⟨S', q, ys', rfl, e', z'⟩⟩
            · rw [decide_eq_false (show ¬ ((ys.length : Nat) : Int) > 0 by omega)]
              refine iteF ⟨by show 1 ≤ sizeLine; decide, fun q hq => key _ _ ⟨Stp.of S14.hand (Same.new hq), q, [("places 1" : Str)], rfl, upd_same, ?_⟩⟩
              have : szL [("places 1" : Str)] = 9 := by decide +kernel
              omega
          rintro v H15' ⟨S15', L', ys', rfl, e15, z15⟩
          refine ⟨S14.trans S15', L', ys', e15, fun z => absurd z (Nat.succ_ne_zero _), fun z => ?_, fun z => ?_, _, rfl⟩
          · have := b0 (by omega)
            omega
          · have := b1 (by omega)
            omega
        · rintro σ H14 ⟨S14, L, ys, eL, b0, b1, b2, u8, rfl⟩
          have yz : szL ys ≤ 66200 := by
            have : nn = 1 ∨ nn = 2 := by omega
            rcases this with h | h
            · exact Nat.le_trans (b1 h) (by decide)
            · exact b2 h
          clear b0 b1 b2
          have c_nl : ("\n" : Str).length = 1 := by decide +kernel
          have c_sp : (" " : Str).length = 1 := by decide +kernel
          have c_em : ("" : Str).length = 0 := by decide +kernel
          have ylen := szL_len ys
          refine ⟨⟨_, rfl⟩, _, rfl, L, rfl, ⟨_, SqL.of eL⟩, fun D hD => ?_⟩
          refine lc_list (K := K) (a := L) (xs := ys.map V.str) (fun j H' => Same H14 H' ∧ H' D = some (.lst ((ys.take j).map fun s => V.str (s ++ ("\n" : Str))))) ⟨Same.new hD, upd_same⟩ (fun j H' _ g => SqL.of (g.1 _ _ eL)) (fun j y H15 hj g => ?_) fun H15 g => ?_
          · obtain ⟨s15, g5⟩ := g
            rw [List.getElem?_map] at hj
            obtain ⟨c, hc, rfl⟩ := Option.map_eq_some_iff.mp hj
            have cl := szL_mem (List.mem_of_getElem? hc)
            have jl := (List.getElem?_eq_some_iff.mp hc).1
            refine ⟨rfl, _, rfl, _, _, rfl, rfl, by rw [c_nl]; exact fz _ (by omega), _, g5, ?_, s15.mut hD, ?_⟩
            · rw [List.length_map, List.length_take, sizeLine_eq]
              omega
            · rw [upd_same, List.take_add_one, hc, List.map_append] <;> rfl
          · obtain ⟨s15, g5⟩ := g
            rw [List.length_map, List.take_length] at g5
            have sz : ((ys.map fun s => s ++ ("\n" : Str)).map (·.length)).sum = szL ys := by
              rw [List.map_map]
              unfold szL
              congr 1
              exact List.map_congr_left fun s _ => by show (s ++ ("\n" : Str)).length = _; rw [ap, c_nl]
            have oth : (Txt.join ("" : Str) (ys.map fun s => s ++ ("\n" : Str))).length = szL ys := by
              have t0 : tl ("" : Str) = [] := by decide +kernel
              rw [len_tl, join_eq, tl_join, t0, joinL_nil, List.map_map, List.length_flatten, List.map_map]
              unfold szL
              congr 1
              exact List.map_congr_left fun s _ => by show (tl (s ++ ("\n" : Str))).length = _; rw [← len_tl, ap, c_nl]
            refine ⟨_, D, ys.map fun s => s ++ ("\n" : Str), rfl, rfl, .inl (SqL.of (by rw [List.map_map]; exact g5)), by rw [sz, c_em]; omega, ?_⟩
            generalize Txt.join ("" : Str) (ys.map fun s => s ++ ("\n" : Str)) = other at oth
            have S915 := S14.post s15
            refine ⟨_, rfl, _, rfl, _, rfl, t, rfl, tz, _, _, rfl, rfl, p, _, rfl, by omega, by omega, S915.hand, fun h H16 h0 h1 S16 => ?_⟩
            obtain ⟨hh, rfl⟩ := Int.eq_ofNat_of_zero_le h0
            refine ⟨_, rfl, t, rfl, tz, ?_⟩
            have cutl : (cutS t none (some (hh : Int))).length ≤ t.length := cutS_length _ _ _
            have cutl2 : (cutS t none (some (-1))).length ≤ t.length := cutS_length _ _ _
            refine ⟨_, rfl, _, rfl, by show 1 ≤ sizeLine; decide, fun A hA => ?_⟩
            refine new_step hA fun H17 s17 e17 => ?_
            refine ⟨A, 8, [.str other], rfl, rfl, e17, by decide, by decide, by show 1 * 8 ≤ _; decide, fun B hB => ?_⟩
            refine new_step hB fun H18 s18 e18 => ?_
            refine ⟨_, rfl, _, rfl, _, _, rfl, rfl, by rw [c_nl]; exact fz _ (by omega), _, rfl, _, _, rfl, rfl, by rw [c_sp]; exact fz _ (by omega), _, rfl, _, rfl, _, rfl, t, rfl, tz, _, rfl, _, rfl, _, _, rfl, rfl, fz _ (by omega), by show 5 ≤ sizeLine; decide, fun C' hC => ?_⟩
            refine new_step hC fun H19 s19 e19 => ?_
            refine ⟨B, C', _, _, rfl, rfl, s19 _ _ e18, e19, by show 8 + 5 ≤ _; decide, fun G hG => ?_⟩
            refine new_step hG fun H20 s20 e20 => ?_
            have s1620 := ((s17.trans s18).trans s19).trans s20
            refine ⟨p, G, _, rfl, .inl (SqL.of e20), by show 0 < 13; decide, by show 13 < 1073741824; decide, S16.hand.same s1620, fun ii x H21 hx S21 => ?_⟩
            obtain ⟨z, rfl, zl⟩ : ∃ z : Str, x = .str z ∧ z.length ≤ 100000 := by
              have mm := List.mem_of_getElem? hx
              have mm : x ∈ [V.str other, .str other, .str other, .str other, .str other, .str other, .str other, .str other, .str (cutS t none (some (hh : Int))), .str (t ++ ("\n" : Str)), .str (t ++ (" " : Str)), .str (cutS t none (some (-1))), .str (t ++ t)] := mm
              simp only [List.mem_cons, List.not_mem_nil, or_false] at mm
              rcases mm with rfl | rfl | rfl | rfl | rfl | rfl | rfl | rfl | rfl | rfl | rfl | rfl | rfl
              · exact ⟨_, rfl, by omega⟩
              · exact ⟨_, rfl, by omega⟩
              · exact ⟨_, rfl, by omega⟩
              · exact ⟨_, rfl, by omega⟩
              · exact ⟨_, rfl, by omega⟩
              · exact ⟨_, rfl, by omega⟩
              · exact ⟨_, rfl, by omega⟩
              · exact ⟨_, rfl, by omega⟩
              · exact ⟨_, rfl, by omega⟩
              · exact ⟨_, rfl, by rw [ap, c_nl]; omega⟩
              · exact ⟨_, rfl, by rw [ap, c_sp]; omega⟩
              · exact ⟨_, rfl, by omega⟩
              · exact ⟨_, rfl, by rw [ap]; omega⟩
            refine ⟨_, rfl, .inl ⟨z, rfl, zl⟩, fun H22 s22 => ⟨_, rfl, iteF ?_⟩⟩
            have S922 := ((S915.trans S16).trans (S21.pre s1620)).post s22
            exact ⟨⟨S9.trans S922, stp_mod S9.hand S922 M9⟩, _, _, _, _, _, rfl⟩
      · rintro σ H9 ⟨⟨S9, M9⟩, v6, v7, v8, v9, v10, rfl⟩
        exact ⟨S9, _, _, _, _, _, _, _, _, _, fun _ => ⟨y, m, rfl, M9⟩, rfl⟩
    · rintro σ H2 ⟨S2, u2, u3, u4, u5, u6, u7, u8, u9, u10, h4, rfl⟩
      obtain ⟨y, m, rfl, M2⟩ := h4 (by decide)
      have hh2 := S2.hand
      refine ⟨by show 1 ≤ sizeLine; decide, fun A1 n1 => ?_⟩
      refine new_step n1 fun G1 r1 f1 => ?_
      refine ⟨by show 1 ≤ sizeLine; decide, fun A2 n2 => ?_⟩
      refine new_step n2 fun G2 r2 f2 => ?_
      intro A3 n3
      refine new_step n3 fun G3 r3 f3 => ?_
      refine ⟨_, rfl, by show 0 ≤ sizeLine; decide, fun A4 n4 => ?_⟩
      refine new_step n4 fun G4 r4 f4 => ?_
      refine ⟨by show 0 ≤ sizeLine; decide, fun A5 n5 => ?_⟩
      refine new_step n5 fun G5 r5 f5 => ?_
      refine ⟨by show 10 ≤ sizeLine; decide, fun X nX => ?_⟩
      refine new_step nX fun G6 r6 f6 => ?_
      have r26 : Same H2 G6 := ((((r1.trans r2).trans r3).trans r4).trans r5).trans r6
      have hh6 := hh2.same r26
      refine ⟨_, rfl, _, rfl, p, X, _, rfl, .inl (SqL.of f6), by show 0 < 10; decide, by show 10 < 1073741824; decide, hh6, fun ii x G7 hx S7 => ?_⟩
      have M7 : ModAt K C G7 y m := stp_mod hh6 S7 (M2.same r26)
      have kp : ∀ {A : Addr} {G : Hp} {o : HO}, A ≠ p → Same G G6 → G A = some o → G7 A = some o := fun n s e => S7.keep _ _ n (s _ _ e)
      have gd : Good K G7 x := by
        have mm := List.mem_of_getElem? hx
        have mm : x ∈ [V.non, .int 0, .bl true, .ref A1, .ref A2, .ref A3, .ref y, .ref A4, .ref A5, .str ("" : Str)] := mm
        simp only [List.mem_cons, List.not_mem_nil, or_false] at mm
        rcases mm with rfl | rfl | rfl | rfl | rfl | rfl | rfl | rfl | rfl | rfl
        · exact .inr ⟨_, fun _ _ => .base .non, kit_ty (by decide +kernel)⟩
        · exact .inr ⟨_, fun _ _ => .base (.int _), kit_ty (by decide +kernel)⟩
        · exact .inr ⟨_, fun _ _ => .base (.bl _), kit_ty (by decide +kernel)⟩
        · exact good_lst (kp (ne_hand hh2 n1) ((((r2.trans r3).trans r4).trans r5).trans r6) f1)
        · exact good_tup (kp (ne_hand (hh2.same r1) n2) (((r3.trans r4).trans r5).trans r6) f2)
        · exact good_dic (kp (ne_hand (hh2.same (r1.trans r2)) n3) ((r4.trans r5).trans r6) f3)
        · exact .inr ⟨_, fun _ s => (M7.same s).ty YgMN, kS⟩
        · exact good_tup (kp (ne_hand (hh2.same ((r1.trans r2).trans r3)) n4) (r5.trans r6) f4)
        · exact good_lst (kp (ne_hand (hh2.same (((r1.trans r2).trans r3).trans r4)) n5) r6 f5)
        · exact .inl ⟨_, rfl, by decide +kernel⟩
      refine ⟨x, rfl, gd, fun G8 s8 => ⟨_, rfl, iteT ?_⟩⟩
      refine ⟨.str "places 1\nlevels 1\nweights 0\n", rfl, .inl ⟨_, rfl, by decide +kernel⟩, fun G9 s9 => k G9⟩
end
end Law

set_option maxHeartbeats 0
namespace Law
open PySem PySem.Spec PyProof.Rows L2
theorem ba3 {a b : Bool} (h : (a && b) = true) : a = true ∧ b = true := Bool.and_eq_true_iff.mp h
theorem optT_ok {o : Option Bool} (h : optT o = true) : o = some true := by
  cases o with
  | none => cases h
  | some b =>
    cases b with
    | true => rfl
    | false => cases h
section
variable {P : Program} {w : World} {K : PySem.W.Frag} {h : Heap} {mg : Str → Option Value} {base : Heap}
theorem facts {f : Addr} (tr : P.given.tree = none) (X : K.In h) (G : h.Ns mainGlobals mg) (hfa : mg ("law" : Str) = some (.ref f)) (c : He.SaysD fas fns K) (e : exK K = true) :
    ∃ fd : FuncData, (∀ (s : Shared) (v : Value), BindsTo s fd ⟨[v], []⟩ [("_law_script", v)]) ∧ ∀ base : Heap, K.In base → base.Ns mainGlobals mg → FnOk P w K mg base CX0 12 f fd ["_law_script"] (spLaw K) := by
  have eL := hfa.symm.trans (He.glo_ok X G (c.fact 32 (f := .glo "law") rfl))
  cases eL
  obtain ⟨e1, e⟩ := ba3 e
  obtain ⟨v1, e⟩ := ba3 e
  obtain ⟨v2, e⟩ := ba3 e
  obtain ⟨i1, e⟩ := ba3 e
  obtain ⟨i2, e⟩ := ba3 e
  obtain ⟨w1, e⟩ := ba3 e
  obtain ⟨w2, e⟩ := ba3 e
  obtain ⟨w3, e⟩ := ba3 e
  obtain ⟨w4, w5⟩ := ba3 e
  obtain ⟨x1, x2⟩ := ba3 e1
  obtain ⟨x2, x3⟩ := ba3 x2
  obtain ⟨x3, x4⟩ := ba3 x3
  obtain ⟨ia1, ia2⟩ := ba3 i1
  obtain ⟨ib1, ib2⟩ := ba3 i2
  have T : NmA mg := ⟨He.free_ok X G (c.fact 34 (f := .free "abs") rfl), He.free_ok X G (c.fact 35 (f := .free "all") rfl), He.free_ok X G (c.fact 36 (f := .free "any") rfl), He.free_ok X G (c.fact 37 (f := .free "bool") rfl), He.free_ok X G (c.fact 38 (f := .free "enumerate") rfl), He.free_ok X G (c.fact 39 (f := .free "int") rfl), He.free_ok X G (c.fact 40 (f := .free "isinstance") rfl), He.free_ok X G (c.fact 41 (f := .free "len") rfl), He.free_ok X G (c.fact 42 (f := .free "max") rfl), He.free_ok X G (c.fact 43 (f := .free "range") rfl), He.free_ok X G (c.fact 44 (f := .free "str") rfl), He.free_ok X G (c.fact 45 (f := .free "tuple") rfl)⟩
  obtain ⟨fd_law, F_law⟩ := c.def_ 32 rfl
  have FD_law := F_law
  have F_law := funD_fun (st := s_law) F_law
  have B_law := F_law.binds (ps := ["_law_script"]) fun _ _ _ _ _ _ us hl => match us, hl with | [_], _ => rfl
  have M_law := He.glo_ok X G (c.fact 32 (f := .glo "law") rfl)
  obtain ⟨fd__law_hand, F__law_hand⟩ := c.def_ 19 rfl
  have FD__law_hand := F__law_hand
  have F__law_hand := funD_fun (st := s_law_hand) F__law_hand
  have B__law_hand := F__law_hand.binds (ps := ["_law_script"]) fun _ _ _ _ _ _ us hl => match us, hl with | [_], _ => rfl
  have M__law_hand := He.glo_ok X G (c.fact 19 (f := .glo "_law_hand") rfl)
  obtain ⟨fd__law_begun, F__law_begun⟩ := c.def_ 22 rfl
  have FD__law_begun := F__law_begun
  have F__law_begun := funD_fun (st := s_law_begun) F__law_begun
  have B__law_begun := F__law_begun.binds (ps := ["_law_hand_here"]) fun _ _ _ _ _ _ us hl => match us, hl with | [_], _ => rfl
  have M__law_begun := He.glo_ok X G (c.fact 22 (f := .glo "_law_begun") rfl)
  obtain ⟨fd__law_any, F__law_any⟩ := c.def_ 21 rfl
  have FD__law_any := F__law_any
  have F__law_any := funD_fun (st := s_law_any) F__law_any
  have B__law_any := F__law_any.binds (ps := ["_law_hand_here", "_law_things"]) fun _ _ _ _ _ _ us hl => match us, hl with | [_, _], _ => rfl
  have M__law_any := He.glo_ok X G (c.fact 21 (f := .glo "_law_any") rfl)
  obtain ⟨fd__law_draw, F__law_draw⟩ := c.def_ 20 rfl
  have FD__law_draw := F__law_draw
  have F__law_draw := funD_fun (st := s_law_draw) F__law_draw
  have B__law_draw := F__law_draw.binds (ps := ["_law_hand_here", "_law_many"]) fun _ _ _ _ _ _ us hl => match us, hl with | [_, _], _ => rfl
  have M__law_draw := He.glo_ok X G (c.fact 20 (f := .glo "_law_draw") rfl)
  obtain ⟨fd_Model___init__, F_Model___init__⟩ := c.def_ 8 rfl
  have FD_Model___init__ := F_Model___init__
  have F_Model___init__ := funD_fun (st := s_Model_init) F_Model___init__
  have B_Model___init__ := F_Model___init__.binds (ps := ["self", "many", "levels", "weights", "ties"]) fun _ _ _ _ _ _ us hl => match us, hl with | [_, _, _, _, _], _ => rfl
  obtain ⟨fd_is_within, F_is_within⟩ := c.def_ 1 rfl
  have FD_is_within := F_is_within
  have F_is_within := funD_fun (st := s_is_within) F_is_within
  have B_is_within := F_is_within.binds (ps := ["low", "high", "thing"]) fun _ _ _ _ _ _ us hl => match us, hl with | [_, _, _], _ => rfl
  have M_is_within := He.glo_ok X G (c.fact 1 (f := .glo "is_within") rfl)
  obtain ⟨fd_is_integer, F_is_integer⟩ := c.def_ 0 rfl
  have FD_is_integer := F_is_integer
  have F_is_integer := funD_fun (st := s_is_integer) F_is_integer
  have B_is_integer := F_is_integer.binds (ps := ["thing"]) fun _ _ _ _ _ _ us hl => match us, hl with | [_], _ => rfl
  have M_is_integer := He.glo_ok X G (c.fact 0 (f := .glo "is_integer") rfl)
  obtain ⟨fd_is_table, F_is_table⟩ := c.def_ 10 rfl
  have FD_is_table := F_is_table
  have F_is_table := funD_fun (st := s_is_table) F_is_table
  have B_is_table := F_is_table.binds (ps := ["rows", "columns", "thing"]) fun _ _ _ _ _ _ us hl => match us, hl with | [_, _, _], _ => rfl
  have M_is_table := He.glo_ok X G (c.fact 10 (f := .glo "is_table") rfl)
  obtain ⟨fd_is_row_below, F_is_row_below⟩ := c.def_ 2 rfl
  have FD_is_row_below := F_is_row_below
  have F_is_row_below := funD_fun (st := s_is_row_below) F_is_row_below
  have B_is_row_below := F_is_row_below.binds (ps := ["bound", "thing"]) fun _ _ _ _ _ _ us hl => match us, hl with | [_, _], _ => rfl
  have M_is_row_below := He.glo_ok X G (c.fact 2 (f := .glo "is_row_below") rfl)
  obtain ⟨fd_is_tie, F_is_tie⟩ := c.def_ 11 rfl
  have FD_is_tie := F_is_tie
  have F_is_tie := funD_fun (st := s_is_tie) F_is_tie
  have B_is_tie := F_is_tie.binds (ps := ["many", "levels", "thing"]) fun _ _ _ _ _ _ us hl => match us, hl with | [_, _, _], _ => rfl
  have M_is_tie := He.glo_ok X G (c.fact 11 (f := .glo "is_tie") rfl)
  obtain ⟨fd_ties_at, F_ties_at⟩ := c.def_ 12 rfl
  have FD_ties_at := F_ties_at
  have F_ties_at := funD_fun (st := s_ties_at) F_ties_at
  have B_ties_at := F_ties_at.binds (ps := ["ties", "place"]) fun _ _ _ _ _ _ us hl => match us, hl with | [_, _], _ => rfl
  have M_ties_at := He.glo_ok X G (c.fact 12 (f := .glo "ties_at") rfl)
  obtain ⟨fd__law_text, F__law_text⟩ := c.def_ 23 rfl
  have FD__law_text := F__law_text
  have F__law_text := funD_fun (st := s_law_text) F__law_text
  have B__law_text := F__law_text.binds (ps := ["_law_one"]) fun _ _ _ _ _ _ us hl => match us, hl with | [_], _ => rfl
  have M__law_text := He.glo_ok X G (c.fact 23 (f := .glo "_law_text") rfl)
  obtain ⟨fd__law_is_read, F__law_is_read⟩ := c.def_ 30 rfl
  have FD__law_is_read := F__law_is_read
  have F__law_is_read := funD_fun (st := s_law_is_read) F__law_is_read
  have B__law_is_read := F__law_is_read.binds (ps := ["_law_text_here"]) fun _ _ _ _ _ _ us hl => match us, hl with | [_], _ => rfl
  have M__law_is_read := He.glo_ok X G (c.fact 30 (f := .glo "_law_is_read") rfl)
  obtain ⟨fd__law_due, F__law_due⟩ := c.def_ 28 rfl
  have FD__law_due := F__law_due
  have F__law_due := funD_fun (st := s_law_due) F__law_due
  have B__law_due := F__law_due.binds (ps := ["_law_text_here"]) fun _ _ _ _ _ _ us hl => match us, hl with | [_], _ => rfl
  have M__law_due := He.glo_ok X G (c.fact 28 (f := .glo "_law_due") rfl)
  obtain ⟨fd__law_line, F__law_line⟩ := c.def_ 26 rfl
  have FD__law_line := F__law_line
  have F__law_line := funD_fun (st := s_law_line) F__law_line
  have B__law_line := F__law_line.binds (ps := ["_law_line_here", "_law_at", "_law_many"]) fun _ _ _ _ _ _ us hl => match us, hl with | [_, _, _], _ => rfl
  have M__law_line := He.glo_ok X G (c.fact 26 (f := .glo "_law_line") rfl)
  obtain ⟨fd__law_number, F__law_number⟩ := c.def_ 24 rfl
  have FD__law_number := F__law_number
  have F__law_number := funD_fun (st := s_law_number) F__law_number
  have B__law_number := F__law_number.binds (ps := ["_law_word"]) fun _ _ _ _ _ _ us hl => match us, hl with | [_], _ => rfl
  have M__law_number := He.glo_ok X G (c.fact 24 (f := .glo "_law_number") rfl)
  obtain ⟨fd__law_numbers, F__law_numbers⟩ := c.def_ 25 rfl
  have FD__law_numbers := F__law_numbers
  have F__law_numbers := funD_fun (st := s_law_numbers) F__law_numbers
  have B__law_numbers := F__law_numbers.binds (ps := ["_law_text_here"]) fun _ _ _ _ _ _ us hl => match us, hl with | [_], _ => rfl
  have M__law_numbers := He.glo_ok X G (c.fact 25 (f := .glo "_law_numbers") rfl)
  obtain ⟨fd__law_wrong_part, F__law_wrong_part⟩ := c.def_ 27 rfl
  have FD__law_wrong_part := F__law_wrong_part
  have F__law_wrong_part := funD_fun (st := s_law_wrong_part) F__law_wrong_part
  have B__law_wrong_part := F__law_wrong_part.binds (ps := ["_law_many", "_law_levels", "_law_weights", "_law_ties"]) fun _ _ _ _ _ _ us hl => match us, hl with | [_, _, _, _], _ => rfl
  have M__law_wrong_part := He.glo_ok X G (c.fact 27 (f := .glo "_law_wrong_part") rfl)
  obtain ⟨fd__law_read, F__law_read⟩ := c.def_ 29 rfl
  have FD__law_read := F__law_read
  have F__law_read := funD_fun (st := s_law_read) F__law_read
  have B__law_read := F__law_read.binds (ps := ["_law_text_here"]) fun _ _ _ _ _ _ us hl => match us, hl with | [_], _ => rfl
  have M__law_read := He.glo_ok X G (c.fact 29 (f := .glo "_law_read") rfl)
  obtain ⟨fd_read_model, F_read_model⟩ := c.def_ 18 rfl
  have FD_read_model := F_read_model
  have F_read_model := funD_fun (st := s_read_model) F_read_model
  have B_read_model := F_read_model.binds (ps := ["text"]) fun _ _ _ _ _ _ us hl => match us, hl with | [_], _ => rfl
  have M_read_model := He.glo_ok X G (c.fact 18 (f := .glo "read_model") rfl)
  obtain ⟨fd_told_by_line, F_told_by_line⟩ := c.def_ 17 rfl
  have FD_told_by_line := F_told_by_line
  have F_told_by_line := funD_fun (st := s_told_by_line) F_told_by_line
  have B_told_by_line := F_told_by_line.binds (ps := ["line", "told"]) fun _ _ _ _ _ _ us hl => match us, hl with | [_, _], _ => rfl
  have M_told_by_line := He.glo_ok X G (c.fact 17 (f := .glo "told_by_line") rfl)
  obtain ⟨fd_number_behind, F_number_behind⟩ := c.def_ 4 rfl
  have FD_number_behind := F_number_behind
  have F_number_behind := funD_fun (st := s_number_behind) F_number_behind
  have B_number_behind := F_number_behind.binds (ps := ["word", "line"]) fun _ _ _ _ _ _ us hl => match us, hl with | [_, _], _ => rfl
  have M_number_behind := He.glo_ok X G (c.fact 4 (f := .glo "number_behind") rfl)
  obtain ⟨fd_number_of_text, F_number_of_text⟩ := c.def_ 3 rfl
  have FD_number_of_text := F_number_of_text
  have F_number_of_text := funD_fun (st := s_number_of_text) F_number_of_text
  have B_number_of_text := F_number_of_text.binds (ps := ["text"]) fun _ _ _ _ _ _ us hl => match us, hl with | [_], _ => rfl
  have M_number_of_text := He.glo_ok X G (c.fact 3 (f := .glo "number_of_text") rfl)
  obtain ⟨fd_weights_of_line, F_weights_of_line⟩ := c.def_ 15 rfl
  have FD_weights_of_line := F_weights_of_line
  have F_weights_of_line := funD_fun (st := s_weights_of_line) F_weights_of_line
  have B_weights_of_line := F_weights_of_line.binds (ps := ["line"]) fun _ _ _ _ _ _ us hl => match us, hl with | [_], _ => rfl
  have M_weights_of_line := He.glo_ok X G (c.fact 15 (f := .glo "weights_of_line") rfl)
  obtain ⟨fd_numbers_of_text, F_numbers_of_text⟩ := c.def_ 5 rfl
  have FD_numbers_of_text := F_numbers_of_text
  have F_numbers_of_text := funD_fun (st := s_numbers_of_text) F_numbers_of_text
  have B_numbers_of_text := F_numbers_of_text.binds (ps := ["text"]) fun _ _ _ _ _ _ us hl => match us, hl with | [_], _ => rfl
  have M_numbers_of_text := He.glo_ok X G (c.fact 5 (f := .glo "numbers_of_text") rfl)
  obtain ⟨fd_tie_of_line, F_tie_of_line⟩ := c.def_ 16 rfl
  have FD_tie_of_line := F_tie_of_line
  have F_tie_of_line := funD_fun (st := s_tie_of_line) F_tie_of_line
  have B_tie_of_line := F_tie_of_line.binds (ps := ["line"]) fun _ _ _ _ _ _ us hl => match us, hl with | [_], _ => rfl
  have M_tie_of_line := He.glo_ok X G (c.fact 16 (f := .glo "tie_of_line") rfl)
  obtain ⟨fd_model_text, F_model_text⟩ := c.def_ 14 rfl
  have FD_model_text := F_model_text
  have F_model_text := funD_fun (st := s_model_text) F_model_text
  have B_model_text := F_model_text.binds (ps := ["model"]) fun _ _ _ _ _ _ us hl => match us, hl with | [_], _ => rfl
  have M_model_text := He.glo_ok X G (c.fact 14 (f := .glo "model_text") rfl)
  obtain ⟨fd_row_text, F_row_text⟩ := c.def_ 13 rfl
  have FD_row_text := F_row_text
  have F_row_text := funD_fun (st := s_row_text) F_row_text
  have B_row_text := F_row_text.binds (ps := ["row"]) fun _ _ _ _ _ _ us hl => match us, hl with | [_], _ => rfl
  have M_row_text := He.glo_ok X G (c.fact 13 (f := .glo "row_text") rfl)
  obtain ⟨fd_Model___eq__, F_Model___eq__⟩ := c.def_ 9 rfl
  have FD_Model___eq__ := F_Model___eq__
  have F_Model___eq__ := funD_fun (st := s_Model_eq) F_Model___eq__
  have B_Model___eq__ := F_Model___eq__.binds (ps := ["self", "other"]) fun _ _ _ _ _ _ us hl => match us, hl with | [_, _], _ => rfl
  obtain ⟨fd__law_bent, F__law_bent⟩ := c.def_ 31 rfl
  have FD__law_bent := F__law_bent
  have F__law_bent := funD_fun (st := s_law_bent) F__law_bent
  have B__law_bent := F__law_bent.binds (ps := ["_law_hand_here", "_law_lines"]) fun _ _ _ _ _ _ us hl => match us, hl with | [_, _], _ => rfl
  have M__law_bent := He.glo_ok X G (c.fact 31 (f := .glo "_law_bent") rfl)
  have hGD := He.glo_ok X G (c.fact 6 (f := .glo "DrawError") rfl)
  have hVE := He.free_ok X G (c.fact 33 (f := .free "ValueError") rfl)
  have z1 := He.exm_ok (c.fact 55 (f := .exm "BadLine" "BadLine" true) rfl)
  have z2 := He.exm_ok (c.fact 56 (f := .exm "BadModel" "BadLine" false) rfl)
  have z3 := He.exm_ok (c.fact 57 (f := .exm "BadModel" "BadModel" true) rfl)
  have k1 : PySem.W.kitOne K (.ref (He.ga K "BadLine")) (.ref (He.ga K "DrawError")) = some true := of_decide_eq_true w1
  have k2 : PySem.W.kitOne K (.ref (He.ga K "BadLine")) (.type "ValueError") = some true := of_decide_eq_true w3
  have k3 : PySem.W.kitOne K (.ref (He.ga K "BadModel")) (.ref (He.ga K "DrawError")) = some true := of_decide_eq_true w2
  have k4 : PySem.W.kitOne K (.ref (He.ga K "BadModel")) (.type "ValueError") = some true := of_decide_eq_true w4
  have kS : PySem.W.kitOne K (.ref (He.ga K "Model")) (.type "str") = some false := of_decide_eq_true w5
  have ME := He.meth_ok (c.fact 52 (f := .meth "Model" "__eq__") rfl)
  have MK := He.mkr_ok (c.fact 51 (f := .mkr "Model") rfl)
  have Y : ModT K mg (He.ga K "Model") := ⟨He.cls_ok (c.fact 46 (f := .cls "Model") rfl), He.noat_ok (c.fact 47 (f := .noat "Model" "many") rfl), He.noat_ok (c.fact 48 (f := .noat "Model" "levels") rfl), He.noat_ok (c.fact 49 (f := .noat "Model" "weights") rfl), He.noat_ok (c.fact 50 (f := .noat "Model" "ties") rfl), He.glo_ok X G (c.fact 9 (f := .glo "Model") rfl), He.eqO_ok x1, He.eqO_ok x2, optT_ok x3, optT_ok x4⟩
  obtain ⟨fd_bm, F_bm⟩ := c.def_ 7 rfl
  have F_bm := funD_fun (st := s_BadModel_init) F_bm
  obtain ⟨fd_bl, F_bl⟩ := c.def_ 6 rfl
  have F_bl := funD_fun (st := s_BadLine_init) F_bl
  have bla := FunD.bindsA (ps := ["_law_script"]) FD_law fun _ _ _ _ _ _ us hl => match us, hl with | [_], _ => rfl
  refine ⟨fd_law, fun s v => bla s [v] rfl, fun base KB GB => ?_⟩
  have noS : PySem.W.findIn K (.ref (He.ga K "BadModel")) "part" = some none := He.noat_ok (c.fact 53 (f := .noat "BadModel" "part") rfl)
  have noL : PySem.W.findIn K (.ref (He.ga K "BadLine")) "number" = some none := He.noat_ok (c.fact 54 (f := .noat "BadLine" "number") rfl)
  have EBM : Er1 P w K mg base "BadModel" (He.ga K "BadModel") "part" := ⟨exvB_ok v1, He.glo_ok X G (c.fact 8 (f := .glo "BadModel") rfl), noS, _, fd_bm, _, He.eqO_ok ia1, of_decide_eq_true ia2, ok_E1 (P := P) (w := w) (mg := mg) (base := base) F_bm (exvB_ok v1).ox noS, F_bm.binds fun _ _ _ _ _ _ us hl => match us, hl with | [_, _], _ => rfl⟩
  have EBL : Er1 P w K mg base "BadLine" (He.ga K "BadLine") "number" := ⟨exvB_ok v2, He.glo_ok X G (c.fact 7 (f := .glo "BadLine") rfl), noL, _, fd_bl, _, He.eqO_ok ib1, of_decide_eq_true ib2, ok_E2 (P := P) (w := w) (mg := mg) (base := base) F_bl (exvB_ok v2).ox noL, F_bl.binds fun _ _ _ _ _ _ us hl => match us, hl with | [_, _], _ => rfl⟩
  have k_hand : Cl P w K mg base CX0 1 "_law_hand" _ fd__law_hand ["_law_script"] (spHand K) := ⟨ok_hand F__law_hand T, B__law_hand, M__law_hand, F__law_hand.kp⟩
  have k_draw : Cl P w K mg base CX0 1 "_law_draw" _ fd__law_draw ["_law_hand_here", "_law_many"] spDraw := ⟨ok_draw F__law_draw T, B__law_draw, M__law_draw, F__law_draw.kp⟩
  have k_any : Cl P w K mg base CX0 2 "_law_any" _ fd__law_any ["_law_hand_here", "_law_things"] (spAny K) := ⟨ok_any F__law_any T k_draw, B__law_any, M__law_any, F__law_any.kp⟩
  have k_begun : Cl P w K mg base CX0 3 "_law_begun" _ fd__law_begun ["_law_hand_here"] (spBegun K) := ⟨ok_begun F__law_begun T k_any k_draw, B__law_begun, M__law_begun, F__law_begun.kp⟩
  have k_isint : Cl P w K mg base CX0 1 "is_integer" _ fd_is_integer ["thing"] (spIsInt K) := ⟨ok_isint F_is_integer T, B_is_integer, M_is_integer, F_is_integer.kp⟩
  have k_within : Cl P w K mg base CX0 2 "is_within" _ fd_is_within ["low", "high", "thing"] (spWithin K) := ⟨ok_within F_is_within k_isint, B_is_within, M_is_within, F_is_within.kp⟩
  have k_rowI : Cl P w K mg base CX0 3 "is_row_below" _ fd_is_row_below ["bound", "thing"] (spRowI K) := ⟨ok_rowI F_is_row_below T k_within, B_is_row_below, M_is_row_below, F_is_row_below.kp⟩
  have k_is_table : Cl P w K mg base CX0 4 "is_table" _ fd_is_table ["rows", "columns", "thing"] (spTable K) := ⟨ok_is_table F_is_table T k_rowI, B_is_table, M_is_table, F_is_table.kp⟩
  have k_is_tie : Cl P w K mg base CX0 5 "is_tie" _ fd_is_tie ["many", "levels", "thing"] (spTie K) := ⟨ok_is_tie F_is_tie T k_is_table k_within, B_is_tie, M_is_tie, F_is_tie.kp⟩
  have k_ties_at : Cl P w K mg base CX0 1 "ties_at" _ fd_ties_at ["ties", "place"] (spTiesAt K) := ⟨ok_ties_at F_ties_at T, B_ties_at, M_ties_at, F_ties_at.kp⟩
  have g_minitN := ok_minitN (P := P) (w := w) (base := base) F_Model___init__ T k_within k_is_table k_is_tie k_ties_at Y
  have k_text : Cl P w K mg base CX0 1 "_law_text" _ fd__law_text ["_law_one"] (spTxt K) := ⟨ok_text F__law_text T, B__law_text, M__law_text, F__law_text.kp⟩
  have k_number : Cl P w K mg base CX0 1 "_law_number" _ fd__law_number ["_law_word"] spNumL := ⟨ok_number F__law_number T, B__law_number, M__law_number, F__law_number.kp⟩
  have k_numbers : Cl P w K mg base CX0 2 "_law_numbers" _ fd__law_numbers ["_law_text_here"] (spNums K) := ⟨ok_numbers F__law_numbers T k_number, B__law_numbers, M__law_numbers, F__law_numbers.kp⟩
  have k_line : Cl P w K mg base CX0 3 "_law_line" _ fd__law_line ["_law_line_here", "_law_at", "_law_many"] (spLineL K) := ⟨ok_line F__law_line T k_number k_numbers, B__law_line, M__law_line, F__law_line.kp⟩
  have k_wrong_part : Cl P w K mg base CX0 1 "_law_wrong_part" _ fd__law_wrong_part ["_law_many", "_law_levels", "_law_weights", "_law_ties"] (spWrongP K) := ⟨ok_wrong_part F__law_wrong_part T, B__law_wrong_part, M__law_wrong_part, F__law_wrong_part.kp⟩
  have k_due : Cl P w K mg base CX0 4 "_law_due" _ fd__law_due ["_law_text_here"] (spDue K) := ⟨ok_due F__law_due T k_line k_wrong_part, B__law_due, M__law_due, F__law_due.kp⟩
  have k_number_of_text : Cl P w K mg base CX0 1 "number_of_text" _ fd_number_of_text ["text"] spNum := ⟨ok_number_of_text F_number_of_text T, B_number_of_text, M_number_of_text, F_number_of_text.kp⟩
  have k_number_behind : Cl P w K mg base CX0 2 "number_behind" _ fd_number_behind ["word", "line"] spHeadB := ⟨ok_number_behind F_number_behind T k_number_of_text, B_number_behind, M_number_behind, F_number_behind.kp⟩
  have k_numbers_of_text : Cl P w K mg base CX0 2 "numbers_of_text" _ fd_numbers_of_text ["text"] (spNums K) := ⟨ok_numbers_of_text F_numbers_of_text T k_number_of_text, B_numbers_of_text, M_numbers_of_text, F_numbers_of_text.kp⟩
  have k_weights_of_line : Cl P w K mg base CX0 3 "weights_of_line" _ fd_weights_of_line ["line"] (spRowL K) := ⟨ok_weights_of_line F_weights_of_line T k_numbers_of_text, B_weights_of_line, M_weights_of_line, F_weights_of_line.kp⟩
  have k_tie_of_line : Cl P w K mg base CX0 3 "tie_of_line" _ fd_tie_of_line ["line"] (spTieL K) := ⟨ok_tie_of_line F_tie_of_line T k_numbers_of_text, B_tie_of_line, M_tie_of_line, F_tie_of_line.kp⟩
  have k_told_by_line : Cl P w K mg base CX0 4 "told_by_line" _ fd_told_by_line ["line", "told"] (spTell K) := ⟨ok_told_by_line F_told_by_line T k_number_behind k_weights_of_line k_tie_of_line, B_told_by_line, M_told_by_line, F_told_by_line.kp⟩
  have g_minit := ok_minit (P := P) (w := w) (base := base) F_Model___init__ T k_within k_is_table k_is_tie k_ties_at Y EBM
  have k_read_model : ClX P w K mg base 8 "read_model" _ fd_read_model ["text"] (spReadM K (He.ga K "Model") (He.ga K "BadModel") (He.ga K "BadLine")) := ⟨ok_read_model F_read_model T k_told_by_line Y EBL MK g_minit B_Model___init__, B_read_model, M_read_model, F_read_model.kp⟩
  have k_read : Cl P w K mg base CX0 9 "_law_read" _ fd__law_read ["_law_text_here"] (spRd K (He.ga K "Model")) := ⟨ok_read F__law_read T Y k_read_model EBM EBL hGD hVE z1 z2 z3 k1 k2 k3 k4, B__law_read, M__law_read, F__law_read.kp⟩
  have k_row_text : Cl P w K mg base CX0 1 "row_text" _ fd_row_text ["row"] (spRowT K) := ⟨ok_row_text F_row_text T, B_row_text, M_row_text, F_row_text.kp⟩
  have k_model_text : Cl P w K mg base CX0 2 "model_text" _ fd_model_text ["model"] (spModT K (He.ga K "Model")) := ⟨ok_model_text F_model_text T k_row_text Y, B_model_text, M_model_text, F_model_text.kp⟩
  have g_meq := ok_meq (P := P) (w := w) (base := base) F_Model___eq__ T Y
  have k_is_read : Cl P w K mg base CX0 11 "_law_is_read" _ fd__law_is_read ["_law_text_here"] (spIsRd K) := ⟨ok_is_read F__law_is_read T k_due k_read k_model_text Y g_meq ME.at_ ME.fn B_Model___eq__ MK g_minitN B_Model___init__, B__law_is_read, M__law_is_read, F__law_is_read.kp⟩
  have k_bent : Cl P w K mg base CX0 3 "_law_bent" _ fd__law_bent ["_law_hand_here", "_law_lines"] (spBent K) := ⟨ok_bent F__law_bent T k_draw k_any, B__law_bent, M__law_bent, F__law_bent.kp⟩
  exact ok_law F_law T k_hand k_begun MK g_minitN B_Model___init__ Y k_text k_is_read k_model_text k_any k_bent k_draw k_read_model g_meq ME.at_ ME.fn B_Model___eq__ kS
end
end Law
open PySem PySem.W PySem.Calls PyProof.Rows
theorem PySem.Challenge.cw_asifforever_k40_whole_model_texts_holds : PySem.Challenge.rw_asifforever_k40_whole_model_texts.Holds := by
  w_on; o_law
  refine HandSHeadRun.head_any (r := OpenLaw.row PySem.Challenge.rw_asifforever_k40_whole_model_texts) (q := view (OpenLaw.row PySem.Challenge.rw_asifforever_k40_whole_model_texts).prog [37]) (H := Law.hk) (ob := Law.ob) (M := 13000) (loose := Law.names) (d := HandSHeadRun.topDef (OpenLaw.row PySem.Challenge.rw_asifforever_k40_whole_model_texts).prog 37) (kwd := []) Law.ob_eq
    (by kernel_rfl) (fun s => by kernel_rfl) Law.run (by kernel_rfl) (by kernel_rfl) (by kernel_rfl) (by rfl) (by first | assumption | decide +kernel) (by decide +kernel) ⟨rfl, rfl, rfl, rfl, rfl, by decide +kernel⟩ ?hw ?hc
  case hw => w_witness2
  case hc =>
    refine L2.walk_ofE (l := PySem.Challenge.rw_asifforever_k40_whole_model_texts) (n := 63) (k := 12) (x := "_law_script") (CX := L2.CX0) rfl (by decide) (by kernel_rfl) ⟨rfl, by decide, by decide⟩ ?F (fun _ _ _ _ z => z)
    intro w mg fa h Y G hmg0
    obtain ⟨K, KX, c, e⟩ := Y
    have hmg : mg ("law" : PySem.Str) = some (.ref fa) := by
      have e : (HandSHeadRun.topDef (OpenLaw.row PySem.Challenge.rw_asifforever_k40_whole_model_texts).prog 37).name = ("law" : PySem.Str) := by kernel_rfl
      rw [← e]
      exact hmg0
    obtain ⟨fd, hb, hF⟩ := Law.facts (P := (PySem.Challenge.rw_asifforever_k40_whole_model_texts).prog) (w := w) (by rfl) KX G hmg c e
    exact ⟨K, fd, Law.spLaw K, KX, hb, fun H a ns hl _ hS => ⟨a, ns, rfl, hS, hl, fun _ => rfl⟩, hF⟩

