import PyProof.Rows.All
import Wide.All
import OpenK.AllK
import Wide.FinOn
import KE.KExcIs
import HandS.ForMost
import HandS.Evl
import HandS.IsInst
import HandS.ExcInit
import HandS.ExcIs
import HandS.DeepEq
import HandS.OwnEq
import HandS.SetFor
import KE.GoesMore
import PyProof.Draws
import HandS.Walk
import HandS.Wide
import HandS.Gcd
import KE.KStateDown
import HandS.Defaults
import HandS.Head0
import HandS.Head1
import HandS.Head2
import HandS.Head3
import HandS.HeadEnd
import HandS.HeadHook1
import HandS.HeadHook2
import HandS.WordsExc
import PySem.Challenge.RW_asifforever_k00_errors_and_their_fields
set_option Elab.async false
set_option linter.all false
set_option maxRecDepth 100000
set_option maxHeartbeats 4000000
namespace Law
open PySem L2
def top (i : Nat) : Stmt := PySem.Challenge.pw_asifforever_k00_errors_and_their_fields.main.body.getD i (.Pass ⟨0, 0, 0, 0⟩)
abbrev s_BadSystem_init : Stmt := inClass (top 3) 0
abbrev s_BadLine_init : Stmt := inClass (top 4) 0
abbrev s_BadCoin_init : Stmt := inClass (top 5) 0
abbrev s_BadModel_init : Stmt := inClass (top 6) 0
abbrev s_TooMany_init : Stmt := inClass (top 7) 0
abbrev s_NoName_init : Stmt := inClass (top 8) 0
abbrev s_NoRow_init : Stmt := inClass (top 9) 0
abbrev s_NoState_init : Stmt := inClass (top 10) 0
abbrev s_NoSpread_init : Stmt := inClass (top 11) 0
abbrev s_NoNumber_init : Stmt := inClass (top 12) 0
abbrev s_NoLot_init : Stmt := inClass (top 13) 0
abbrev s_NotOne_init : Stmt := inClass (top 14) 0
abbrev s_NoShare_init : Stmt := inClass (top 15) 0
abbrev s_NothingTold_init : Stmt := inClass (top 16) 0
abbrev s_NoCoins_init : Stmt := inClass (top 17) 0
abbrev s_NoPlan_init : Stmt := inClass (top 18) 0
abbrev s_NoMove_init : Stmt := inClass (top 19) 0
abbrev s_NoLength_init : Stmt := inClass (top 20) 0
abbrev s_NotMerging_init : Stmt := inClass (top 21) 0
abbrev s_NoBits_init : Stmt := inClass (top 22) 0
abbrev s_NoOrder_init : Stmt := inClass (top 23) 0
abbrev s_NotKept_init : Stmt := inClass (top 24) 0
abbrev s_NoEnds_init : Stmt := inClass (top 25) 0
abbrev s_NoPicture_init : Stmt := inClass (top 26) 0
abbrev s_NoPlace_init : Stmt := inClass (top 27) 0
abbrev s_NoRenewal_init : Stmt := inClass (top 28) 0
abbrev s_NothingFits_init : Stmt := inClass (top 29) 0
abbrev s_NoSizes_init : Stmt := inClass (top 30) 0
abbrev s_NoPairs_init : Stmt := inClass (top 31) 0
abbrev s_NoFlips_init : Stmt := inClass (top 32) 0
abbrev s_NotRising_init : Stmt := inClass (top 33) 0
abbrev s_NoCover_init : Stmt := inClass (top 34) 0
abbrev s_NoOrdering_init : Stmt := inClass (top 35) 0
abbrev s_NoPlaces_init : Stmt := inClass (top 36) 0
abbrev s_NoValue_init : Stmt := inClass (top 37) 0
abbrev s_NoEdit_init : Stmt := inClass (top 38) 0
abbrev s_NothingDone_init : Stmt := inClass (top 39) 0
abbrev s_NoLine_init : Stmt := inClass (top 40) 0
abbrev s_is_integer : Stmt := top 42
abbrev s_is_within : Stmt := top 43
abbrev s_is_row_below : Stmt := top 44
abbrev s_is_fraction : Stmt := top 45
abbrev s_common_bottom : Stmt := top 46
abbrev s_tops_over : Stmt := top 47
abbrev s_are_one_together : Stmt := top 48
abbrev s_System_init : Stmt := inClass (top 50) 0
abbrev s_System_eq : Stmt := inClass (top 50) 1
abbrev s_is_move : Stmt := top 51
abbrev s_law_hand : Stmt := top 53
abbrev s_law_draw : Stmt := top 54
abbrev s_law_any : Stmt := top 55
abbrev s_law_deep : Stmt := top 56
abbrev s_law_first_flags : Stmt := top 57
abbrev s_law_flags : Stmt := top 58
abbrev s_law_made : Stmt := top 59
abbrev s_law_field : Stmt := top 60
abbrev s_law_caught : Stmt := top 61
abbrev s_law_is : Stmt := top 62
abbrev s_law : Stmt := top 63
end Law
namespace Law
open PySem PySem.Spec PyProof.Rows L2
/-! ### the head's Hook: facts of K by names, and one more Bool -/
abbrev AlM : Type := He.AlD × Bool
def obsM (n : Nat) (fa : List He.Fa) (fn : List He.DefD) (ex : PySem.W.Frag → Bool) (g : Addr → Option Obj) : AlM := (He.obsD fa fn (He.frG g (He.asD g n)), ex (He.frG g (He.asD g n)))
def hookM (n : Nat) (fa : List He.Fa) (fn : List He.DefD) (ex : PySem.W.Frag → Bool) : PySem.W.Hook where
  α := AlM
  obs := fun s => obsM n fa fn ex s.heap.get?
  val := fun _ => (He.valD fn, true)
  says := fun _ h => ∃ K : PySem.W.Frag, K.In h ∧ He.SaysD fa fn K ∧ ex K = true
  of := fun _ _ e => ⟨_, He.frG_in, congrArg (fun z : AlM => z.1) e, congrArg (fun z : AlM => z.2) e⟩
  keeps := fun _ _ _ ⟨K, hK, c⟩ k => ⟨K, PySem.W.Frag.In.keeps hK k, c⟩
theorem obsM_eq {n : Nat} {fa : List He.Fa} {fn : List He.DefD} {ex : PySem.W.Frag → Bool} {g : Addr → Option Obj} {s : Shared} (h : ∀ a, g a = s.heap.get? a) : obsM n fa fn ex g = (hookM n fa fn ex).obs s := by
  have e : g = s.heap.get? := funext h
  rw [e] <;> rfl
theorem funD_fun {K : PySem.W.Frag} {x qual : Str} {st : Stmt} {f : Addr} {fd : FuncData} (F : FunD K x qual (defArgs st) (defBody st) (defScope st) [] [] f fd) : Fun K x qual st f fd := by
  obtain ⟨⟨oc, od, dV, kV, doc, pm, an, cdv, ct, osl, h1, h2, h3, h4, _⟩, kp⟩ := F
  rcases h4 with ⟨_, rfl⟩ | ⟨h, _⟩
  · exact ⟨⟨oc, od, kV, doc, pm, an, cdv, ct, osl, h1, h2, h3⟩, kp⟩
  · exact absurd rfl h
end Law
namespace Law
open PySem PySem.Spec PyProof.Rows L2
/-! ### facts of the classes, as Bools of K -/
def errs0 : List Str := ["BadSystem", "BadLine", "BadCoin", "BadModel", "TooMany", "NoName", "NoRow", "NoState", "NoSpread", "NoNumber"]
def errs1 : List Str := ["NoLot", "NotOne", "NoShare", "NothingTold", "NoCoins", "NoPlan", "NoMove", "NoLength", "NotMerging", "NoBits"]
def errs2 : List Str := ["NoOrder", "NotKept", "NoEnds", "NoPicture", "NoPlace", "NoRenewal", "NothingFits", "NoSizes", "NoPairs", "NoFlips"]
def errs3 : List Str := ["NotRising", "NoCover", "NoOrdering", "NoPlaces", "NoValue", "NoEdit", "NothingDone", "NoLine"]
def errNames : List Str := errs0 ++ (errs1 ++ (errs2 ++ errs3))
def clsB (K : PySem.W.Frag) (C : Addr) : Bool := match K.lookup C with
  | some ⟨.type "type", _, .cls cd, sl⟩ => (match cd.mro, sl.toList with
    | .ref C' :: bm, [_, _, _, _, some (.builtin n), _] => decide (C' = C) && (decide (n = "ValueError.__new__") && (!cd.hasDel && (cd.hasDict && PySem.HandSPX.refsVE bm)))
    | _, _ => false)
  | _ => false
def optT (o : Option Bool) : Bool := match o with
  | some b => b
  | none => false
def exvB (K : PySem.W.Frag) (C : Addr) : Bool :=
  clsB K C && (He.eqO (PySem.W.findIn K (.ref C) "__setattr__") (some (some (.builtin "object.__setattr__"))) && (optT (PySem.W.subIn K (.ref C) (.type "BaseException")) && (decide (PySem.W.typeIn K (.ref C) = some (.type "type")) && (PySem.W.keepIn K (.ref C) &&
  ((PySem.W.clsIn K C).isSome && (He.eqO (PySem.W.findIn K (.ref C) "__getattribute__") (some (some (.builtin "BaseException.__getattribute__"))) && (He.eqO (PySem.W.findIn K (.ref C) "__getattr__") (some none) && (He.eqO (PySem.W.findIn K (.ref C) "__class__") (some (some (.builtin "object.__class__"))) &&
  (He.eqO (PySem.W.specialIn K (.builtin "object.__class__") "__get__") (some (some (.builtin "getset_descriptor.__get__"))) && (optT (PySem.W.takesIn K (.builtin "object.__class__")) && (optT (PySem.W.mroIn K C (.type "object")) && PySem.W.hasDictIn K C)))))))))))
def iniB (K : PySem.W.Frag) (C : Addr) : Bool := He.eqO (PySem.W.findIn K (.ref C) "__init__") (some (some (.ref (He.ma K C "__init__")))) && decide (PySem.W.typeIn K (.ref (He.ma K C "__init__")) = some (.type "function"))
def mroB (K : PySem.W.Frag) (C D : Addr) : Bool := decide ((PySem.W.clsIn K C).map (·.mro) = some [.ref C, .ref D, .type "ValueError", .type "Exception", .type "BaseException", .type "object"])
def ascB (K : PySem.W.Frag) : List Str → Bool
  | a :: b :: r => Nat.blt (He.ga K a) (He.ga K b) && ascB K (b :: r)
  | _ => true
def errB (K : PySem.W.Frag) : Bool := (errNames.all fun x => exvB K (He.ga K x) && (mroB K (He.ga K x) (He.ga K "DrawError") && iniB K (He.ga K x))) && (ascB K ("DrawError" :: errNames) && ((PySem.W.clsIn K (He.ga K "DrawError")).isSome && decide (PySem.W.typeIn K (.ref (He.ga K "DrawError")) = some (.type "type"))))
/-- an own plain class's instances are asked for their class as usual -/
def insB (K : PySem.W.Frag) (C : Addr) : Bool := He.eqO (PySem.W.findIn K (.ref C) "__class__") (some (some (.builtin "object.__class__"))) && (He.eqO (PySem.W.specialIn K (.builtin "object.__class__") "__get__") (some (some (.builtin "getset_descriptor.__get__"))) && (optT (PySem.W.takesIn K (.builtin "object.__class__")) && optT (PySem.W.mroIn K C (.type "object"))))
def gclB (K : PySem.W.Frag) : Bool := He.eqO (PySem.W.nsIn K mainGlobals "gcd") (some (some (.builtin "math.gcd"))) && He.eqO (PySem.W.nsIn K mainGlobals "lcm") (some (some (.builtin "math.lcm")))
def exK (K : PySem.W.Frag) : Bool := gclB K && (errB K && (insB K (He.ga K "System") && decide (PySem.W.kitOne K (.ref (He.ga K "System")) (.type "bool") = some false)))
end Law
set_option maxHeartbeats 0
namespace Law
open PySem PySem.Spec PyProof.Rows L2
def fns : List He.DefD := [
  ⟨("BadSystem", some "__init__"), "__init__", "BadSystem.__init__", defArgs s_BadSystem_init, defBody s_BadSystem_init, defScope s_BadSystem_init, [], []⟩,
  ⟨("BadLine", some "__init__"), "__init__", "BadLine.__init__", defArgs s_BadLine_init, defBody s_BadLine_init, defScope s_BadLine_init, [], []⟩,
  ⟨("BadCoin", some "__init__"), "__init__", "BadCoin.__init__", defArgs s_BadCoin_init, defBody s_BadCoin_init, defScope s_BadCoin_init, [], []⟩,
  ⟨("BadModel", some "__init__"), "__init__", "BadModel.__init__", defArgs s_BadModel_init, defBody s_BadModel_init, defScope s_BadModel_init, [], []⟩,
  ⟨("TooMany", some "__init__"), "__init__", "TooMany.__init__", defArgs s_TooMany_init, defBody s_TooMany_init, defScope s_TooMany_init, [], []⟩,
  ⟨("NoName", some "__init__"), "__init__", "NoName.__init__", defArgs s_NoName_init, defBody s_NoName_init, defScope s_NoName_init, [], []⟩,
  ⟨("NoRow", some "__init__"), "__init__", "NoRow.__init__", defArgs s_NoRow_init, defBody s_NoRow_init, defScope s_NoRow_init, [], []⟩,
  ⟨("NoState", some "__init__"), "__init__", "NoState.__init__", defArgs s_NoState_init, defBody s_NoState_init, defScope s_NoState_init, [], []⟩,
  ⟨("NoSpread", some "__init__"), "__init__", "NoSpread.__init__", defArgs s_NoSpread_init, defBody s_NoSpread_init, defScope s_NoSpread_init, [], []⟩,
  ⟨("NoNumber", some "__init__"), "__init__", "NoNumber.__init__", defArgs s_NoNumber_init, defBody s_NoNumber_init, defScope s_NoNumber_init, [], []⟩,
  ⟨("NoLot", some "__init__"), "__init__", "NoLot.__init__", defArgs s_NoLot_init, defBody s_NoLot_init, defScope s_NoLot_init, [], []⟩,
  ⟨("NotOne", some "__init__"), "__init__", "NotOne.__init__", defArgs s_NotOne_init, defBody s_NotOne_init, defScope s_NotOne_init, [], []⟩,
  ⟨("NoShare", some "__init__"), "__init__", "NoShare.__init__", defArgs s_NoShare_init, defBody s_NoShare_init, defScope s_NoShare_init, [], []⟩,
  ⟨("NothingTold", some "__init__"), "__init__", "NothingTold.__init__", defArgs s_NothingTold_init, defBody s_NothingTold_init, defScope s_NothingTold_init, [], []⟩,
  ⟨("NoCoins", some "__init__"), "__init__", "NoCoins.__init__", defArgs s_NoCoins_init, defBody s_NoCoins_init, defScope s_NoCoins_init, [], []⟩,
  ⟨("NoPlan", some "__init__"), "__init__", "NoPlan.__init__", defArgs s_NoPlan_init, defBody s_NoPlan_init, defScope s_NoPlan_init, [], []⟩,
  ⟨("NoMove", some "__init__"), "__init__", "NoMove.__init__", defArgs s_NoMove_init, defBody s_NoMove_init, defScope s_NoMove_init, [], []⟩,
  ⟨("NoLength", some "__init__"), "__init__", "NoLength.__init__", defArgs s_NoLength_init, defBody s_NoLength_init, defScope s_NoLength_init, [], []⟩,
  ⟨("NotMerging", some "__init__"), "__init__", "NotMerging.__init__", defArgs s_NotMerging_init, defBody s_NotMerging_init, defScope s_NotMerging_init, [], []⟩,
  ⟨("NoBits", some "__init__"), "__init__", "NoBits.__init__", defArgs s_NoBits_init, defBody s_NoBits_init, defScope s_NoBits_init, [], []⟩,
  ⟨("NoOrder", some "__init__"), "__init__", "NoOrder.__init__", defArgs s_NoOrder_init, defBody s_NoOrder_init, defScope s_NoOrder_init, [], []⟩,
  ⟨("NotKept", some "__init__"), "__init__", "NotKept.__init__", defArgs s_NotKept_init, defBody s_NotKept_init, defScope s_NotKept_init, [], []⟩,
  ⟨("NoEnds", some "__init__"), "__init__", "NoEnds.__init__", defArgs s_NoEnds_init, defBody s_NoEnds_init, defScope s_NoEnds_init, [], []⟩,
  ⟨("NoPicture", some "__init__"), "__init__", "NoPicture.__init__", defArgs s_NoPicture_init, defBody s_NoPicture_init, defScope s_NoPicture_init, [], []⟩,
  ⟨("NoPlace", some "__init__"), "__init__", "NoPlace.__init__", defArgs s_NoPlace_init, defBody s_NoPlace_init, defScope s_NoPlace_init, [], []⟩,
  ⟨("NoRenewal", some "__init__"), "__init__", "NoRenewal.__init__", defArgs s_NoRenewal_init, defBody s_NoRenewal_init, defScope s_NoRenewal_init, [], []⟩,
  ⟨("NothingFits", some "__init__"), "__init__", "NothingFits.__init__", defArgs s_NothingFits_init, defBody s_NothingFits_init, defScope s_NothingFits_init, [], []⟩,
  ⟨("NoSizes", some "__init__"), "__init__", "NoSizes.__init__", defArgs s_NoSizes_init, defBody s_NoSizes_init, defScope s_NoSizes_init, [], []⟩,
  ⟨("NoPairs", some "__init__"), "__init__", "NoPairs.__init__", defArgs s_NoPairs_init, defBody s_NoPairs_init, defScope s_NoPairs_init, [], []⟩,
  ⟨("NoFlips", some "__init__"), "__init__", "NoFlips.__init__", defArgs s_NoFlips_init, defBody s_NoFlips_init, defScope s_NoFlips_init, [], []⟩,
  ⟨("NotRising", some "__init__"), "__init__", "NotRising.__init__", defArgs s_NotRising_init, defBody s_NotRising_init, defScope s_NotRising_init, [], []⟩,
  ⟨("NoCover", some "__init__"), "__init__", "NoCover.__init__", defArgs s_NoCover_init, defBody s_NoCover_init, defScope s_NoCover_init, [], []⟩,
  ⟨("NoOrdering", some "__init__"), "__init__", "NoOrdering.__init__", defArgs s_NoOrdering_init, defBody s_NoOrdering_init, defScope s_NoOrdering_init, [], []⟩,
  ⟨("NoPlaces", some "__init__"), "__init__", "NoPlaces.__init__", defArgs s_NoPlaces_init, defBody s_NoPlaces_init, defScope s_NoPlaces_init, [], []⟩,
  ⟨("NoValue", some "__init__"), "__init__", "NoValue.__init__", defArgs s_NoValue_init, defBody s_NoValue_init, defScope s_NoValue_init, [], []⟩,
  ⟨("NoEdit", some "__init__"), "__init__", "NoEdit.__init__", defArgs s_NoEdit_init, defBody s_NoEdit_init, defScope s_NoEdit_init, [], []⟩,
  ⟨("NothingDone", some "__init__"), "__init__", "NothingDone.__init__", defArgs s_NothingDone_init, defBody s_NothingDone_init, defScope s_NothingDone_init, [], []⟩,
  ⟨("NoLine", some "__init__"), "__init__", "NoLine.__init__", defArgs s_NoLine_init, defBody s_NoLine_init, defScope s_NoLine_init, [], []⟩,
  ⟨("is_integer", none), "is_integer", "is_integer", defArgs s_is_integer, defBody s_is_integer, defScope s_is_integer, [], []⟩,
  ⟨("is_within", none), "is_within", "is_within", defArgs s_is_within, defBody s_is_within, defScope s_is_within, [], []⟩,
  ⟨("is_row_below", none), "is_row_below", "is_row_below", defArgs s_is_row_below, defBody s_is_row_below, defScope s_is_row_below, [], []⟩,
  ⟨("is_fraction", none), "is_fraction", "is_fraction", defArgs s_is_fraction, defBody s_is_fraction, defScope s_is_fraction, [], []⟩,
  ⟨("common_bottom", none), "common_bottom", "common_bottom", defArgs s_common_bottom, defBody s_common_bottom, defScope s_common_bottom, [], []⟩,
  ⟨("tops_over", none), "tops_over", "tops_over", defArgs s_tops_over, defBody s_tops_over, defScope s_tops_over, [], []⟩,
  ⟨("are_one_together", none), "are_one_together", "are_one_together", defArgs s_are_one_together, defBody s_are_one_together, defScope s_are_one_together, [], []⟩,
  ⟨("System", some "__init__"), "__init__", "System.__init__", defArgs s_System_init, defBody s_System_init, defScope s_System_init, [], []⟩,
  ⟨("System", some "__eq__"), "__eq__", "System.__eq__", defArgs s_System_eq, defBody s_System_eq, defScope s_System_eq, [], []⟩,
  ⟨("is_move", none), "is_move", "is_move", defArgs s_is_move, defBody s_is_move, defScope s_is_move, [], []⟩,
  ⟨("_law_hand", none), "_law_hand", "_law_hand", defArgs s_law_hand, defBody s_law_hand, defScope s_law_hand, [], []⟩,
  ⟨("_law_draw", none), "_law_draw", "_law_draw", defArgs s_law_draw, defBody s_law_draw, defScope s_law_draw, [], []⟩,
  ⟨("_law_any", none), "_law_any", "_law_any", defArgs s_law_any, defBody s_law_any, defScope s_law_any, [], []⟩,
  ⟨("_law_deep", none), "_law_deep", "_law_deep", defArgs s_law_deep, defBody s_law_deep, defScope s_law_deep, [], []⟩,
  ⟨("_law_first_flags", none), "_law_first_flags", "_law_first_flags", defArgs s_law_first_flags, defBody s_law_first_flags, defScope s_law_first_flags, [], []⟩,
  ⟨("_law_flags", none), "_law_flags", "_law_flags", defArgs s_law_flags, defBody s_law_flags, defScope s_law_flags, [], []⟩,
  ⟨("_law_made", none), "_law_made", "_law_made", defArgs s_law_made, defBody s_law_made, defScope s_law_made, [], []⟩,
  ⟨("_law_field", none), "_law_field", "_law_field", defArgs s_law_field, defBody s_law_field, defScope s_law_field, [], []⟩,
  ⟨("_law_caught", none), "_law_caught", "_law_caught", defArgs s_law_caught, defBody s_law_caught, defScope s_law_caught, [], []⟩,
  ⟨("_law_is", none), "_law_is", "_law_is", defArgs s_law_is, defBody s_law_is, defScope s_law_is, [], []⟩,
  ⟨("law", none), "law", "law", defArgs s_law, defBody s_law, defScope s_law, [], []⟩]
def fas : List He.Fa := [
  .glo "DrawError", .glo "BadSystem", .glo "BadLine", .glo "BadCoin", .glo "BadModel", .glo "TooMany", .glo "NoName", .glo "NoRow", .glo "NoState", .glo "NoSpread", .glo "NoNumber", .glo "NoLot", .glo "NotOne", .glo "NoShare", .glo "NothingTold", .glo "NoCoins", .glo "NoPlan", .glo "NoMove", .glo "NoLength", .glo "NotMerging", .glo "NoBits", .glo "NoOrder", .glo "NotKept", .glo "NoEnds", .glo "NoPicture", .glo "NoPlace", .glo "NoRenewal", .glo "NothingFits", .glo "NoSizes", .glo "NoPairs", .glo "NoFlips", .glo "NotRising", .glo "NoCover", .glo "NoOrdering", .glo "NoPlaces", .glo "NoValue", .glo "NoEdit", .glo "NothingDone", .glo "NoLine", .glo "is_integer", .glo "is_within", .glo "is_row_below", .glo "is_fraction", .glo "common_bottom", .glo "tops_over", .glo "are_one_together", .glo "System", .glo "is_move", .glo "_law_hand", .glo "_law_draw", .glo "_law_any", .glo "_law_deep", .glo "_law_first_flags", .glo "_law_flags", .glo "_law_made", .glo "_law_field", .glo "_law_caught", .glo "_law_is", .glo "law", .free "ValueError", .free "abs", .free "all", .free "bool", .free "enumerate", .free "int", .free "isinstance", .free "len", .free "range", .free "sum", .free "tuple", .cls "System", .noat "System" "many", .noat "System" "moves", .mkr "System", .meth "System" "__eq__", .exm "BadSystem" "DrawError" true, .exm "BadLine" "DrawError" true, .exm "BadCoin" "DrawError" true, .exm "BadModel" "DrawError" true, .exm "TooMany" "DrawError" true, .exm "NoName" "DrawError" true, .noat "BadSystem" "part", .noat "BadLine" "number", .noat "BadCoin" "number", .noat "BadModel" "part", .noat "TooMany" "most", .noat "NoName" "name"]
-- defs: 0 BadSystem.__init__, 1 BadLine.__init__, 2 BadCoin.__init__, 3 BadModel.__init__, 4 TooMany.__init__, 5 NoName.__init__, 6 NoRow.__init__, 7 NoState.__init__, 8 NoSpread.__init__, 9 NoNumber.__init__, 10 NoLot.__init__, 11 NotOne.__init__, 12 NoShare.__init__, 13 NothingTold.__init__, 14 NoCoins.__init__, 15 NoPlan.__init__, 16 NoMove.__init__, 17 NoLength.__init__, 18 NotMerging.__init__, 19 NoBits.__init__, 20 NoOrder.__init__, 21 NotKept.__init__, 22 NoEnds.__init__, 23 NoPicture.__init__, 24 NoPlace.__init__, 25 NoRenewal.__init__, 26 NothingFits.__init__, 27 NoSizes.__init__, 28 NoPairs.__init__, 29 NoFlips.__init__, 30 NotRising.__init__, 31 NoCover.__init__, 32 NoOrdering.__init__, 33 NoPlaces.__init__, 34 NoValue.__init__, 35 NoEdit.__init__, 36 NothingDone.__init__, 37 NoLine.__init__, 38 is_integer, 39 is_within, 40 is_row_below, 41 is_fraction, 42 common_bottom, 43 tops_over, 44 are_one_together, 45 System.__init__, 46 System.__eq__, 47 is_move, 48 _law_hand, 49 _law_draw, 50 _law_any, 51 _law_deep, 52 _law_first_flags, 53 _law_flags, 54 _law_made, 55 _law_field, 56 _law_caught, 57 _law_is, 58 law
-- facts: 0 .glo "DrawError", 1 .glo "BadSystem", 2 .glo "BadLine", 3 .glo "BadCoin", 4 .glo "BadModel", 5 .glo "TooMany", 6 .glo "NoName", 7 .glo "NoRow", 8 .glo "NoState", 9 .glo "NoSpread", 10 .glo "NoNumber", 11 .glo "NoLot", 12 .glo "NotOne", 13 .glo "NoShare", 14 .glo "NothingTold", 15 .glo "NoCoins", 16 .glo "NoPlan", 17 .glo "NoMove", 18 .glo "NoLength", 19 .glo "NotMerging", 20 .glo "NoBits", 21 .glo "NoOrder", 22 .glo "NotKept", 23 .glo "NoEnds", 24 .glo "NoPicture", 25 .glo "NoPlace", 26 .glo "NoRenewal", 27 .glo "NothingFits", 28 .glo "NoSizes", 29 .glo "NoPairs", 30 .glo "NoFlips", 31 .glo "NotRising", 32 .glo "NoCover", 33 .glo "NoOrdering", 34 .glo "NoPlaces", 35 .glo "NoValue", 36 .glo "NoEdit", 37 .glo "NothingDone", 38 .glo "NoLine", 39 .glo "is_integer", 40 .glo "is_within", 41 .glo "is_row_below", 42 .glo "is_fraction", 43 .glo "common_bottom", 44 .glo "tops_over", 45 .glo "are_one_together", 46 .glo "System", 47 .glo "is_move", 48 .glo "_law_hand", 49 .glo "_law_draw", 50 .glo "_law_any", 51 .glo "_law_deep", 52 .glo "_law_first_flags", 53 .glo "_law_flags", 54 .glo "_law_made", 55 .glo "_law_field", 56 .glo "_law_caught", 57 .glo "_law_is", 58 .glo "law", 59 .free "ValueError", 60 .free "abs", 61 .free "all", 62 .free "bool", 63 .free "enumerate", 64 .free "int", 65 .free "isinstance", 66 .free "len", 67 .free "range", 68 .free "sum", 69 .free "tuple", 70 .cls "System", 71 .noat "System" "many", 72 .noat "System" "moves", 73 .mkr "System", 74 .meth "System" "__eq__", 75 .exm "BadSystem" "DrawError" true, 76 .exm "BadLine" "DrawError" true, 77 .exm "BadCoin" "DrawError" true, 78 .exm "BadModel" "DrawError" true, 79 .exm "TooMany" "DrawError" true, 80 .exm "NoName" "DrawError" true, 81 .noat "BadSystem" "part", 82 .noat "BadLine" "number", 83 .noat "BadCoin" "number", 84 .noat "BadModel" "part", 85 .noat "TooMany" "most", 86 .noat "NoName" "name"
def names0 : List PySem.Str := ["DrawError", "BadSystem", "BadLine", "BadCoin", "BadModel", "TooMany", "NoName", "NoRow", "NoState", "NoSpread", "NoNumber", "NoLot"]
def names1 : List PySem.Str := ["NotOne", "NoShare", "NothingTold", "NoCoins", "NoPlan", "NoMove", "NoLength", "NotMerging", "NoBits", "NoOrder", "NotKept", "NoEnds"]
def names2 : List PySem.Str := ["NoPicture", "NoPlace", "NoRenewal", "NothingFits", "NoSizes", "NoPairs", "NoFlips", "NotRising", "NoCover", "NoOrdering", "NoPlaces", "NoValue"]
def names3 : List PySem.Str := ["NoEdit", "NothingDone", "NoLine", "is_integer", "is_within", "is_row_below", "is_fraction", "common_bottom", "tops_over", "are_one_together", "System", "is_move"]
def names4 : List PySem.Str := ["_law_hand", "_law_draw", "_law_any", "_law_deep", "_law_first_flags", "_law_flags", "_law_made", "_law_field", "_law_caught", "_law_is"]
def names : List PySem.Str := names0 ++ names1 ++ names2 ++ names3 ++ names4
abbrev R : PySem.W.OpenRow := PySem.W.OpenLaw.row PySem.Challenge.rw_asifforever_k00_errors_and_their_fields
abbrev hk : PySem.W.Hook := hookM 4 fas fns exK
def ob (s : PySem.W.SharedT) : AlM := obsM 4 fas fns exK (HandSHeadRun.getT s)
theorem ob_eq (s : PySem.W.SharedT) : ob s = hk.obs s.abs := obsM_eq (HandSHeadRun.getT_eq s)
/-- the head's run is looked at four times: one look at all of it takes more memory than a build is given -/
noncomputable def left (w : World) := HandSHeadRun.wholeF (fun p => HandSHeadRun.stepQ (HandSHeadRun.denQ HandSHeadRun.tabQ) p w) HandSHeadRun.fenceQ 13000 R.prog
def frS (s : PySem.W.SharedT) : PySem.W.Frag := He.frG (HandSHeadRun.getT s) (He.asD (HandSHeadRun.getT s) 4)
theorem run1 (w : World) : (left w).map (fun x => (HandSHeadRun.looksF R.prog x.1.heap x.2.abs, HandSHeadRun.seenQ (PySem.W.view R.prog [0, 63]) names (importedModules R.prog.main.body) (fun s => PySem.W.xlAt (PySem.W.view R.prog [0, 63]) [] s && PySem.W.recOk R.toRowW.records s) x.2.abs)) = some (true, PySem.W.openGood (PySem.W.view R.prog [0, 63]) names) := by
  kernel_rfl
theorem run2 (w : World) : (left w).map (fun x => (fas.all fun f => f.ok (frS x.2)) && fns.all fun d => d.ok (frS x.2)) = some true := by
  kernel_rfl
theorem run3 (w : World) : (left w).map (fun x => fns.map fun d => He.fnW (frS x.2) d.at_) = some (fns.map He.DefD.val) := by
  kernel_rfl
theorem run4 (w : World) : (left w).map (fun x => exK (frS x.2)) = some true := by
  kernel_rfl
theorem run (w : World) : HandSHeadRun.RunEqI R (PySem.W.view R.prog [0, 63]) hk ob 13000 names w := by
  have a1 := run1 w
  have a2 := run2 w
  have a3 := run3 w
  have a4 := run4 w
  unfold HandSHeadRun.RunEqI
  show (left w).map _ = _
  cases e : left w with
  | none =>
    rw [e] at a4
    cases a4
  | some x =>
    rw [e] at a1 a2 a3 a4
    obtain ⟨b1, b2⟩ := Prod.mk.inj (Option.some.inj a1)
    exact congrArg some (Prod.ext b1 (Prod.ext b2 (Prod.ext (Prod.ext (Option.some.inj a2) (Option.some.inj a3)) (Option.some.inj a4))))
end Law
set_option maxHeartbeats 4000000
namespace Law
open PySem L2
theorem sne {x y : Str} (h : ¬ x = y) : ¬ ((Sum.inr x : Key) = Sum.inr y) := fun z => h (Sum.inr.inj z)
theorem n01 : ¬ ((Sum.inr ("cells" : Str) : Key) = Sum.inr ("at" : Str)) := sne (by decide +kernel)
theorem n02 : ¬ ((Sum.inr ("cells" : Str) : Key) = Sum.inr ("great" : Str)) := sne (by decide +kernel)
theorem n03 : ¬ ((Sum.inr ("cells" : Str) : Key) = Sum.inr ("seed" : Str)) := sne (by decide +kernel)
theorem n04 : ¬ ((Sum.inr ("cells" : Str) : Key) = Sum.inr ("turn" : Str)) := sne (by decide +kernel)
theorem n12 : ¬ ((Sum.inr ("at" : Str) : Key) = Sum.inr ("great" : Str)) := sne (by decide +kernel)
theorem n13 : ¬ ((Sum.inr ("at" : Str) : Key) = Sum.inr ("seed" : Str)) := sne (by decide +kernel)
theorem n14 : ¬ ((Sum.inr ("at" : Str) : Key) = Sum.inr ("turn" : Str)) := sne (by decide +kernel)
theorem n23 : ¬ ((Sum.inr ("great" : Str) : Key) = Sum.inr ("seed" : Str)) := sne (by decide +kernel)
theorem n24 : ¬ ((Sum.inr ("great" : Str) : Key) = Sum.inr ("turn" : Str)) := sne (by decide +kernel)
theorem n34 : ¬ ((Sum.inr ("seed" : Str) : Key) = Sum.inr ("turn" : Str)) := sne (by decide +kernel)
/-- the hand's dict: its cells' list, and its four ints -/
def hdK (ca : Addr) (a g s t : Int) : List (Key × V) :=
  [(Sum.inr ("cells" : Str), .ref ca), (Sum.inr ("at" : Str), .int a), (Sum.inr ("great" : Str), .int g), (Sum.inr ("seed" : Str), .int s), (Sum.inr ("turn" : Str), .int t)]
section
variable (ca : Addr) (a g s t x : Int)
theorem get_cells : valV (hdK ca a g s t) (Sum.inr ("cells" : Str)) = some (.ref ca) := valV_pos rfl
theorem get_at : valV (hdK ca a g s t) (Sum.inr ("at" : Str)) = some (.int a) := (valV_neg n01).trans (valV_pos rfl)
theorem get_great : valV (hdK ca a g s t) (Sum.inr ("great" : Str)) = some (.int g) := (valV_neg n02).trans ((valV_neg n12).trans (valV_pos rfl))
theorem get_seed : valV (hdK ca a g s t) (Sum.inr ("seed" : Str)) = some (.int s) := (valV_neg n03).trans ((valV_neg n13).trans ((valV_neg n23).trans (valV_pos rfl)))
theorem get_turn : valV (hdK ca a g s t) (Sum.inr ("turn" : Str)) = some (.int t) := (valV_neg n04).trans ((valV_neg n14).trans ((valV_neg n24).trans ((valV_neg n34).trans (valV_pos rfl))))
theorem put_of {kvs : List (Key × V)} {k : Key} {v w : V} (h : valV kvs k = some w) : putK kvs k v = kvs.map (fun kv => if kv.1 = k then (kv.1, v) else kv) := by
  unfold putK
  rw [if_pos (by rw [valV_any, h]; rfl)]
theorem put_at : putK (hdK ca a g s t) (Sum.inr ("at" : Str)) (.int x) = hdK ca x g s t := by
  rw [put_of (get_at ca a g s t)]
  simp only [hdK, List.map_cons, List.map_nil, n01, if_neg, if_false, if_true, n12, n13, n14, Ne.symm n12, Ne.symm n13, Ne.symm n14, not_false_eq_true]
theorem put_great : putK (hdK ca a g s t) (Sum.inr ("great" : Str)) (.int x) = hdK ca a x s t := by
  rw [put_of (get_great ca a g s t)]
  simp only [hdK, List.map_cons, List.map_nil, if_neg, if_false, if_true, n02, n12, Ne.symm n23, Ne.symm n24, not_false_eq_true]
theorem put_seed : putK (hdK ca a g s t) (Sum.inr ("seed" : Str)) (.int x) = hdK ca a g x t := by
  rw [put_of (get_seed ca a g s t)]
  simp only [hdK, List.map_cons, List.map_nil, if_neg, if_false, if_true, n03, n13, n23, Ne.symm n34, not_false_eq_true]
theorem put_turn : putK (hdK ca a g s t) (Sum.inr ("turn" : Str)) (.int x) = hdK ca a g s x := by
  rw [put_of (get_turn ca a g s t)]
  simp only [hdK, List.map_cons, List.map_nil, if_neg, if_false, if_true, n04, n14, n24, n34, not_false_eq_true]
end
section
variable {H : Hp} {p ca : Addr} {a g s t : Int} (h : H p = some (.dK (hdK ca a g s t)))
include h
theorem gt_cells : DGet H p (.str "cells") (some (.ref ca)) := by
  have q := DGet.k (k := Sum.inr ("cells" : Str)) h
  rw [get_cells] at q
  exact q
theorem gt_at : DGet H p (.str "at") (some (.int a)) := by
  have q := DGet.k (k := Sum.inr ("at" : Str)) h
  rw [get_at] at q
  exact q
theorem gt_great : DGet H p (.str "great") (some (.int g)) := by
  have q := DGet.k (k := Sum.inr ("great" : Str)) h
  rw [get_great] at q
  exact q
theorem gt_seed : DGet H p (.str "seed") (some (.int s)) := by
  have q := DGet.k (k := Sum.inr ("seed" : Str)) h
  rw [get_seed] at q
  exact q
theorem gt_turn : DGet H p (.str "turn") (some (.int t)) := by
  have q := DGet.k (k := Sum.inr ("turn" : Str)) h
  rw [get_turn] at q
  exact q
theorem pt_at (x : Int) : DPut H p (.str "at") (.int x) (upd H p (.dK (hdK ca x g s t))) := by
  have q := DPut.k (k := Sum.inr ("at" : Str)) (v := .int x) h (show 5 < sizeLine by decide)
  rw [put_at] at q
  exact q
theorem pt_great (x : Int) : DPut H p (.str "great") (.int x) (upd H p (.dK (hdK ca a x s t))) := by
  have q := DPut.k (k := Sum.inr ("great" : Str)) (v := .int x) h (show 5 < sizeLine by decide)
  rw [put_great] at q
  exact q
theorem pt_seed (x : Int) : DPut H p (.str "seed") (.int x) (upd H p (.dK (hdK ca a g x t))) := by
  have q := DPut.k (k := Sum.inr ("seed" : Str)) (v := .int x) h (show 5 < sizeLine by decide)
  rw [put_seed] at q
  exact q
theorem pt_turn (x : Int) : DPut H p (.str "turn") (.int x) (upd H p (.dK (hdK ca a g s x))) := by
  have q := DPut.k (k := Sum.inr ("turn" : Str)) (v := .int x) h (show 5 < sizeLine by decide)
  rw [put_turn] at q
  exact q
end
/-- a hand stands at p -/
def HandAt (H : Hp) (p : Addr) : Prop := ∃ (ca : Addr) (cells : List Int) (a : Nat) (g s t : Int), H p = some (.dK (hdK ca a g s t)) ∧ H ca = some (.lst (cells.map V.int)) ∧ cells.length ≤ 63 ∧ a ≤ cells.length ∧ (∀ c ∈ cells, 0 ≤ c) ∧ 0 ≤ g ∧ 0 ≤ s ∧ 0 ≤ t
/-- its cells stand at c -/
def CellOf (H : Hp) (p c : Addr) : Prop := ∃ a g s t, H p = some (.dK (hdK c a g s t))
/-- what a draw may do: the hand stands again, nothing else has changed -/
structure Stp (p : Addr) (H H' : Hp) : Prop where
  keep : ∀ b o, b ≠ p → H b = some o → H' b = some o
  cell : ∀ c, CellOf H p c → CellOf H' p c
  hand : HandAt H' p
theorem Stp.refl {p : Addr} {H : Hp} (h : HandAt H p) : Stp p H H := ⟨fun _ _ _ e => e, fun _ e => e, h⟩
theorem Stp.trans {p : Addr} {H H1 H2 : Hp} (a : Stp p H H1) (b : Stp p H1 H2) : Stp p H H2 := ⟨fun c o n e => b.keep c o n (a.keep c o n e), fun c e => b.cell c (a.cell c e), b.hand⟩
theorem hdK_inj {ca cb : Addr} {a g s t a' g' s' t' : Int} (h : hdK ca a g s t = hdK cb a' g' s' t') : ca = cb := by
  unfold hdK at h
  injection h with h1 _
  injection h1 with _ h2
  injection h2
theorem cell_eq {H : Hp} {p ca c : Addr} {a g s t : Int} (hp : H p = some (.dK (hdK ca a g s t))) (h : CellOf H p c) : c = ca := by
  obtain ⟨a', g', s', t', h⟩ := h
  rw [hp] at h
  have h1 := Option.some.inj h
  injection h1 with h2
  exact (hdK_inj h2).symm
theorem cell_to {H H' : Hp} {p ca : Addr} {a g s t a' g' s' t' : Int} (hp : H p = some (.dK (hdK ca a g s t))) (hp' : H' p = some (.dK (hdK ca a' g' s' t'))) : ∀ c, CellOf H p c → CellOf H' p c := fun c hc => by
  rw [cell_eq hp hc]
  exact ⟨a', g', s', t', hp'⟩
/-- an object that stood not there at the start may change, whatever has been drawn since -/
theorem Stp.mut {p D : Addr} {H H' : Hp} {o : HO} (h : HandAt H p) (S : Stp p H H') (hD : H D = none) : Stp p H (upd H' D o) := by
  obtain ⟨ca, cells, a, g, s, t, hp, hc, _⟩ := h
  obtain ⟨cb, cells', a', g', s', t', hp', hc', r⟩ := S.hand
  have e : ca = cb := cell_eq hp' (S.cell ca ⟨a, g, s, t, hp⟩)
  have n1 : p ≠ D := ne_of_none hp hD
  have n2 : cb ≠ D := e ▸ ne_of_none hc hD
  exact ⟨fun b o n e => by rw [upd_ne (ne_of_none e hD)]; exact S.keep b o n e, fun c hc => by
    obtain ⟨x1, x2, x3, x4, x5⟩ := S.cell c hc
    exact ⟨x1, x2, x3, x4, by rw [upd_ne n1]; exact x5⟩, cb, cells', a', g', s', t', by rw [upd_ne n1]; exact hp', by rw [upd_ne n2]; exact hc', r⟩
def spDraw : Sp := fun vs H Q _ => ∃ (p : Addr) (m : Int), vs = [.ref p, .int m] ∧ 0 < m ∧ m < 1073741824 ∧ HandAt H p ∧ ∀ (d : Int) (H' : Hp), 0 ≤ d → d < m → Stp p H H' → Q (.int d) H'
/-- what is asked of the module's names -/
structure Nm (mg : Str → Option Value) : Prop where
  len : mg "len" = none
  int : mg "int" = none
  abs : mg "abs" = none
theorem map_at {cells : List Int} {a : Nat} (h : a < cells.length) : ∃ c, cells[a]? = some c ∧ c ∈ cells ∧ atI (cells.map V.int) (a : Int) = some (V.int c) := by
  refine ⟨cells[a], List.getElem?_eq_getElem h, List.getElem_mem h, ?_⟩
  unfold atI
  rw [Evl.ixN_nat (by rw [List.length_map]; exact h)]
  show (cells.map V.int)[a]? = _
  rw [List.getElem?_map, List.getElem?_eq_getElem h] <;> rfl
section
variable {P : Program} {w : World} {K : PySem.W.Frag} {mg : Str → Option Value} {base : Heap}
theorem scDraw : FnScope ["_law_hand_here", "_law_many", "_law_cell", "_law_digit", "_law_number"] ["_law_hand_here", "_law_many"] (defScope s_law_draw) := ⟨rfl, rfl, rfl, by decide +kernel, rfl, by decide +kernel, by decide +kernel⟩
theorem ok_draw {f : Addr} {fd : FuncData} (F : Fun K "_law_draw" "_law_draw" s_law_draw f fd) (T : Nm mg) : FnOk P w K mg base CX0 1 f fd ["_law_hand_here", "_law_many"] spDraw := by
  refine F.ok scDraw (fun vs H Q E h => ?_) (fun cdv A outer s H vs Q E hr h => ?_)
  · obtain ⟨p, m, rfl, _⟩ := h
    rfl
  · obtain ⟨p, m, rfl, hm0, hm1, hH, k⟩ := h
    have hu := hu_of hr
    refine ⟨_, Evl.pss_cut (ps_if (PW.pt (pw_and (pt_cmpR op_eq (pe_dget hu (pv 0) pe_str (fun _ _ => rfl)) pe_int (nomark _)) (pw_and1 (pt_cmpR op_lt (pe_dget hu (pv 0) pe_str (fun _ _ => rfl)) (pe_callB call_len_seq (by rfl) T.len PySem.boot_len (pa_cons (pe_dget hu (pv 0) pe_str (fun _ _ => rfl)) pa_nil)) (nomark _)))))
        (pss_cons (ps_set (i := 2) scDraw.nd rfl (Or.inl rfl) (pe_ix ix_list (pe_dget hu (pv 0) pe_str (fun _ _ => rfl)) (pe_dget hu (pv 0) pe_str (fun _ _ => rfl)) (fun _ _ => rfl)))
        (pss_cons (ps_dput hu (pv 0) pe_str (pe_op op_add (pe_dget hu (pv 0) pe_str (fun _ _ => rfl)) pe_int) rfl)
        (pss_cons (ps_dput hu (pv 0) pe_str (pe_op op_mod (pe_callTy call_int1 (by rfl) T.int (by decide +kernel) (pa_cons (pe_op op_add (pe_op op_add (pe_op op_mul (pe_dget hu (pv 0) pe_str (fun _ _ => rfl)) pe_int) (pv 2)) pe_int) pa_nil)) pe_int) rfl)
        (pss_one (ps_if (pt_cmpR op_ge (pv 2) (pe_op op_pow pe_int pe_int) (nomark _)) (pss_one (ps_dput hu (pv 0) pe_str (pv 2) rfl)) pss_nil))))) pss_nil)
      (pss_cons (ps_if (pt_cmpR op_gt (pe_dget hu (pv 0) pe_str (fun _ _ => rfl)) pe_int (nomark _))
        (pss_cons (ps_set (i := 3) scDraw.nd rfl (Or.inl rfl) (pe_op op_mod (pe_callTy call_int1 (by rfl) T.int (by decide +kernel) (pa_cons (pe_dget hu (pv 0) pe_str (fun _ _ => rfl)) pa_nil)) (pv 1)))
        (pss_cons (ps_dput hu (pv 0) pe_str (pe_op op_fdiv (pe_dget hu (pv 0) pe_str (fun _ _ => rfl)) (pv 1)) rfl)
        (pss_one (ps_ret (pv 3))))) pss_nil)
      (pss_cons (ps_dput hu (pv 0) pe_str (pe_op op_add (pe_dget hu (pv 0) pe_str (fun _ _ => rfl)) pe_int) rfl)
      (pss_cons (ps_set (i := 4) scDraw.nd rfl (Or.inl rfl) (pe_op op_mod (pe_callTy call_int1 (by rfl) T.int (by decide +kernel) (pa_cons (pe_op op_mul (pe_callTy call_int1 (by rfl) T.int (by decide +kernel) (pa_cons (pe_op op_add (pe_op op_add (pe_dget hu (pv 0) pe_str (fun _ _ => rfl)) pe_int) (pe_op op_mul pe_int (pe_dget hu (pv 0) pe_str (fun _ _ => rfl)))) pa_nil)) pe_int) pa_nil)) pe_int))
      (pss_cons (ps_set (i := 4) scDraw.nd rfl (Or.inl rfl) (pe_op op_mod (pe_callTy call_int1 (by rfl) T.int (by decide +kernel) (pa_cons (pe_op op_mul (pv 4) (pe_op op_add (pe_op op_fdiv (pv 4) pe_int) pe_int)) pa_nil)) pe_int))
      (pss_cons (ps_set (i := 4) scDraw.nd rfl (Or.inl rfl) (pe_op op_mod (pe_callTy call_int1 (by rfl) T.int (by decide +kernel) (pa_cons (pe_op op_mul (pv 4) (pe_op op_add (pe_op op_fdiv (pv 4) pe_int) pe_int)) pa_nil)) pe_int))
      (pss_one (ps_ret (pe_op op_mod (pe_callTy call_int1 (by rfl) T.int (by decide +kernel) (pa_cons (pe_op op_fdiv (pv 4) pe_int) pa_nil)) (pv 1)))))))))
      , ?_⟩
    refine ⟨fun σ' H' => ∃ cv : Option V, σ' = [some (.ref p), some (.int m), cv, none, none] ∧ Stp p H H', ?_, ?_⟩
    · obtain ⟨ca, cells, a, g, s0, t, hp, hca, h63, ha, hc, hg, hs, ht⟩ := id hH
      have npc : ca ≠ p := ne_of hca hp (by intro z; cases z)
      have stop : ∃ cv : Option V, start ["_law_hand_here", "_law_many", "_law_cell", "_law_digit", "_law_number"] [.ref p, .int m] = [some (.ref p), some (.int m), cv, none, none] ∧ Stp p H H := ⟨none, rfl, Stp.refl hH⟩
      refine ⟨_, rfl, p, _, rfl, gt_great hp, rfl, _, rfl, ite2 (fun hg0 => ?_) (fun _ => stop)⟩
      refine ⟨_, rfl, p, _, rfl, gt_at hp, _, rfl, p, _, rfl, gt_cells hp, ca, _, rfl, .inl (SqL.of hca), _, _, rfl, rfl, _, rfl, ite2 (fun hlt => ?_) (fun _ => stop)⟩
      have hlt' : a < cells.length := by
        have z := of_decide_eq_true hlt
        rw [List.length_map] at z
        omega
      obtain ⟨c, hc1, hc2, hc3⟩ := map_at hlt'
      have c0 := hc c hc2
      -- cell = cells[at]
      refine ⟨_, rfl, p, _, rfl, gt_cells hp, _, rfl, p, _, rfl, gt_at hp, ca, _, _, _, rfl, rfl, SqL.of hca, hc3, ?_⟩
      -- at
      refine ⟨_, rfl, p, _, rfl, gt_at hp, _, _, rfl, rfl, _, rfl, p, _, rfl, pt_at hp _, ?_⟩
      -- seed
      refine ⟨_, rfl, p, _, rfl, gt_seed upd_same, _, _, rfl, rfl, .inr ⟨by decide, by decide⟩, _, rfl, _, _, rfl, rfl, _, _, rfl, rfl, .inl ⟨_, rfl, _, _, rfl, rfl, (by show (0 : Int) < 2147483629; decide), _, rfl, p, _, rfl, pt_seed upd_same _, ?_⟩⟩
      rw [upd_upd]
      -- if cell >= 10 ** 18
      refine ⟨_, rfl, _, _, rfl, rfl, ⟨by decide, by decide, by decide⟩, _, _, rfl, rfl, _, rfl, ite2 (fun _ => ?_) (fun _ => ?_)⟩
      · refine ⟨_, rfl, _, rfl, p, _, rfl, pt_great upd_same _, ?_⟩
        rw [upd_upd]
        exact ⟨_, rfl, fun b o n e => by rw [upd_ne n]; exact e, cell_to hp upd_same, ca, cells, a + 1, _, _, _, upd_same, by rw [upd_ne npc]; exact hca, h63, hlt', hc, c0, Int.emod_nonneg _ (by decide), ht⟩
      · exact ⟨_, rfl, fun b o n e => by rw [upd_ne n]; exact e, cell_to hp upd_same, ca, cells, a + 1, _, _, _, upd_same, by rw [upd_ne npc]; exact hca, h63, hlt', hc, hg, Int.emod_nonneg _ (by decide), ht⟩
    · rintro σ' H' ⟨cv, rfl, S1⟩
      obtain ⟨ca, cells, a, g, s0, t, hp, hca, h63, ha, hc, hg, hs, ht⟩ := S1.hand
      have npc : ca ≠ p := ne_of hca hp (by intro z; cases z)
      refine ⟨_, rfl, p, _, rfl, gt_great hp, _, _, rfl, rfl, _, rfl, ite2 (fun hg0 => ?_) (fun _ => ?_)⟩
      · refine ⟨_, rfl, p, _, rfl, gt_great hp, .inl ⟨_, rfl, _, rfl, _, _, rfl, rfl, hm0, ?_⟩⟩
        refine ⟨_, rfl, p, _, rfl, gt_great hp, _, rfl, _, _, rfl, rfl, ⟨hm0, hm1⟩, _, rfl, p, _, rfl, pt_great hp _, _, rfl, ?_⟩
        exact k _ _ (Int.emod_nonneg _ (by omega)) (Int.emod_lt_of_pos _ hm0) ⟨fun b o n e => by rw [upd_ne n]; exact S1.keep b o n e, fun c hc => cell_to hp upd_same c (S1.cell c hc), ca, cells, a, _, _, _, upd_same, by rw [upd_ne npc]; exact hca, h63, ha, hc, Int.ediv_nonneg hg (by omega), hs, ht⟩
      · refine ⟨_, rfl, p, _, rfl, gt_turn hp, _, _, rfl, rfl, _, rfl, p, _, rfl, pt_turn hp _, ?_⟩
        refine ⟨_, rfl, p, _, rfl, gt_seed upd_same, _, _, rfl, rfl, _, rfl, p, _, rfl, gt_turn upd_same, _, _, rfl, rfl, .inl ⟨by decide, by decide⟩, _, _, rfl, rfl, .inl ⟨_, rfl, _, _, rfl, rfl, .inr ⟨by decide, by decide⟩, .inl ⟨_, rfl, _, _, rfl, rfl, (by show (0 : Int) < 2147483647; decide), ?_⟩⟩⟩
        generalize hx : ((s0 + 1 + 7919 * (t + 1)) * 69621) % 2147483647 = x
        have x0 : 0 ≤ x := by rw [← hx]; exact Int.emod_nonneg _ (by decide)
        have x1 : x < 2147483647 := by rw [← hx]; exact Int.emod_lt_of_pos _ (by decide)
        refine ⟨_, rfl, _, rfl, _, _, rfl, rfl, ⟨by decide, by decide⟩, _, _, rfl, rfl, _, _, rfl, rfl, .inl ⟨by omega, by omega⟩, .inl ⟨_, rfl, _, _, rfl, rfl, (by show (0 : Int) < 2147483647; decide), ?_⟩⟩
        generalize hy : (x * (x / 1009 + 48271)) % 2147483647 = y
        have y0 : 0 ≤ y := by rw [← hy]; exact Int.emod_nonneg _ (by decide)
        have y1 : y < 2147483647 := by rw [← hy]; exact Int.emod_lt_of_pos _ (by decide)
        refine ⟨_, rfl, _, rfl, _, _, rfl, rfl, ⟨by decide, by decide⟩, _, _, rfl, rfl, _, _, rfl, rfl, .inl ⟨by omega, by omega⟩, .inl ⟨_, rfl, _, _, rfl, rfl, (by show (0 : Int) < 2147483399; decide), ?_⟩⟩
        refine ⟨_, rfl, _, _, rfl, rfl, ⟨by decide, by decide⟩, .inl ⟨_, rfl, _, rfl, _, _, rfl, rfl, hm0, ?_⟩⟩
        exact k _ _ (Int.emod_nonneg _ (by omega)) (Int.emod_lt_of_pos _ hm0) ⟨fun b o n e => by rw [upd_ne n]; exact S1.keep b o n e, fun c hc => cell_to hp upd_same c (S1.cell c hc), ca, cells, a, _, _, _, upd_same, by rw [upd_ne npc]; exact hca, h63, ha, hc, hg, hs, by omega⟩
theorem cut63 {xs : List V} (h : xs.length ≤ 63) : cutV xs none (some 63) = xs := by
  unfold cutV
  show (xs.drop 0).take (HT.sIx xs.length xs.length (some ((63 : Nat) : Int)) - 0) = xs
  rw [HT.sIx_nat, Nat.min_eq_right (by omega), Nat.sub_zero, List.drop_zero, List.take_length]
theorem merge_app : ∀ (more acc : List (Key × V)), ((acc ++ more).map (·.1)).Nodup → mergeK acc more = acc ++ more
  | [], acc, _ => (List.append_nil acc).symm
  | p :: r, acc, h => by
    have hn : valV acc p.1 = none := by
      unfold valV
      rw [List.find?_eq_none.mpr]
      · rfl
      · intro kv hkv e
        rw [List.map_append, List.nodup_append] at h
        exact h.2.2 kv.1 (List.mem_map_of_mem hkv) p.1 (List.mem_map_of_mem List.mem_cons_self) (of_decide_eq_true e)
    have e : putK acc p.1 p.2 = acc ++ [p] := putK_new _ hn
    show mergeK (putK acc p.1 p.2) r = acc ++ p :: r
    rw [e, merge_app r (acc ++ [p]) (by rw [List.append_assoc]; exact h), List.append_assoc] <;> rfl
theorem hd_keys : ([Sum.inr ("cells" : Str), Sum.inr ("at" : Str), Sum.inr ("great" : Str), Sum.inr ("seed" : Str), Sum.inr ("turn" : Str)] : List Key).Nodup := by decide +kernel
theorem merge_hd (ca : Addr) (a g s t : Int) : mergeK [] (hdK ca a g s t) = hdK ca a g s t := merge_app _ [] hd_keys
def spHand (K : PySem.W.Frag) : Sp := fun vs H Q _ => ∃ (a : Addr) (ns : List Int), vs = [.ref a] ∧ SqL K H a (ns.map V.int) ∧ ns.length ≤ 63 ∧ ∀ (p : Addr) (H' : Hp), H p = none → Same H H' → HandAt H' p → Q (.ref p) H'
theorem scHand : FnScope ["_law_script", "_law_cells", "_law_cell"] ["_law_script"] (defScope s_law_hand) := ⟨rfl, rfl, rfl, by decide +kernel, rfl, by decide +kernel, by decide +kernel⟩
def absI (n : Int) : Int := if n < 0 then -n else n
theorem absI_nn (n : Int) : 0 ≤ absI n := by
  unfold absI
  split <;> omega
theorem ok_hand {f : Addr} {fd : FuncData} (F : Fun K "_law_hand" "_law_hand" s_law_hand f fd) (T : Nm mg) : FnOk P w K mg base CX0 1 f fd ["_law_script"] (spHand K) := by
  refine F.ok scHand (fun vs H Q E h => ?_) (fun cdv A outer s H vs Q E hr h => ?_)
  · obtain ⟨a, ns, rfl, _⟩ := h
    rfl
  · obtain ⟨a, ns, rfl, hS, h63, k⟩ := h
    have hu := hu_of hr
    refine ⟨_, pss_cons (ps_setLc (i := 1) (own := [("_law_cell", 2)]) (g := gName 2) (tt := tYes) rfl scHand.nd rfl rfl (sw_true rfl rfl rfl (by decide +kernel)) (pi_list (pe_slice sl_list (pv 0) po_none (po_some pe_int)))
        (blkOk_by (own := [("_law_cell", 2)]) (N := ["_law_script", "_law_cells", "_law_cell"]) (sc := defScope s_law_hand) (by decide +kernel)) (fun _ _ _ _ _ => pg_name (i := 2) scHand.nd rfl (Or.inl rfl)) (fun _ _ _ _ _ => pts_nil)
        (fun _ _ _ _ _ => pe_callB call_abs (by rfl) T.abs (by decide +kernel) (pa_cons (pe_callTy call_int1 (by rfl) T.int (by decide +kernel) (pa_cons (pv 2) pa_nil)) pa_nil)))
      (pss_one (ps_ret (pe_disp (pps_cons pe_str (pv 1) (pps_cons pe_str pe_int (pps_cons pe_str pe_int (pps_cons pe_str (pe_op op_add pe_int (pe_callB call_len_seq (by rfl) T.len PySem.boot_len (pa_cons (pv 1) pa_nil))) (pps_cons pe_str pe_int pps_nil))))) (by rfl) (by rfl) (fun z => by cases z) (by decide)))), ?_⟩
    refine ⟨_, rfl, 63, rfl, a, _, rfl, hS, fun sp nsp => ?_⟩
    have h63' : (ns.map V.int).length ≤ 63 := by rw [List.length_map]; exact h63
    rw [cut63 h63']
    refine ⟨sp, rfl, ⟨_, SqL.of upd_same⟩, fun D hD => ?_⟩
    have sD : Same H (upd (upd H sp (.lst (ns.map V.int))) D (.lst [])) := fun b o e => by
      have z : upd H sp (.lst (ns.map V.int)) b = some o := by
        rw [upd_ne (ne_of_none e nsp)]
        exact e
      rw [upd_ne (ne_of_none z hD)]
      exact z
    have nDs : sp ≠ D := ne_of_none upd_same hD
    have hD0 : H D = none := by
      rw [upd_ne nDs.symm] at hD
      exact hD
    refine lc_list (K := K) (a := sp) (xs := ns.map V.int) (fun i H' => Same H H' ∧ H' sp = some (.lst (ns.map V.int)) ∧ H' D = some (.lst (((ns.take i).map absI).map V.int))) ⟨sD, by rw [upd_ne nDs, upd_same], upd_same⟩ (fun i H' _ h => SqL.of h.2.1) ?_ ?_
    · rintro i x H' hi ⟨s1, h1, h2⟩
      obtain ⟨z, hz, rfl⟩ : ∃ z, ns[i]? = some z ∧ x = V.int z := by
        rw [List.getElem?_map] at hi
        cases e : ns[i]? with
        | none => rw [e] at hi; cases hi
        | some z => rw [e] at hi; exact ⟨z, rfl, (Option.some.inj hi).symm⟩
      have hil : i < ns.length := (List.getElem?_eq_some_iff.mp hz).1
      refine ⟨rfl, _, rfl, .inl ⟨_, rfl, _, rfl, _, h2, ?_, ?_⟩⟩
      · rw [List.length_map, List.length_map, List.length_take]
        exact small1000 (by omega)
      · refine ⟨fun b o e => ?_, ?_, ?_⟩
        · have hb : b ≠ D := ne_of_none e hD0
          rw [upd_ne hb]
          exact s1 b o e
        · rw [upd_ne nDs]
          exact h1
        · rw [upd_same, List.take_add_one, hz, List.map_append, List.map_append] <;> rfl
    · rintro H' ⟨s1, h1, h2⟩
      rw [List.length_map, List.take_length] at h2
      intro p np
      have npD : D ≠ p := ne_of_none h2 np
      have s2 : Same H (upd H' p (.dK [])) := fun b o e => by
        rw [upd_ne (ne_of_none (s1 b o e) np)]
        exact s1 b o e
      refine ⟨_, rfl, _, rfl, D, _, rfl, .inl (SqL.of (by rw [upd_ne npD]; exact h2)), _, _, rfl, rfl, upd_same, hdK D 0 0 (977 + ((ns.map absI).map V.int).length) 0, rfl, (show 5 ≤ 15 by decide), ?_⟩
      rw [merge_hd, upd_upd]
      refine k p _ (s1.free np) (fun b o e => by rw [upd_ne (ne_of_none (s1 b o e) np)]; exact s1 b o e) ⟨D, ns.map absI, 0, 0, _, 0, upd_same, by rw [upd_ne npD]; exact h2, by rw [List.length_map]; exact h63, Nat.zero_le _, ?_, by decide, by omega, by decide⟩
      intro c hc
      obtain ⟨z, _, rfl⟩ := List.mem_map.mp hc
      exact absI_nn z
theorem Stp.sqL {p l : Addr} {H H' : Hp} {xs : List V} (S : Stp p H H') (hp : HandAt H p) (h : SqL K H l xs) : SqL K H' l xs := by
  obtain ⟨ca, cells, a, g, s0, t, hp, _⟩ := hp
  rcases h with (h | ⟨o, h⟩) | h
  · exact .inl (.inl (S.keep _ _ (ne_of h hp (by intro z; cases z)) h))
  · exact .inl (.inr ⟨o, S.keep _ _ (ne_of h hp (by intro z; cases z)) h⟩)
  · exact .inr h
theorem Stp.sqT {p l : Addr} {H H' : Hp} {xs : List V} (S : Stp p H H') (hp : HandAt H p) (h : SqT K H l xs) : SqT K H' l xs := by
  obtain ⟨ca, cells, a, g, s0, t, hp, _⟩ := hp
  rcases h with (h | ⟨o, h⟩) | h
  · exact .inl (.inl (S.keep _ _ (ne_of h hp (by intro z; cases z)) h))
  · exact .inl (.inr ⟨o, S.keep _ _ (ne_of h hp (by intro z; cases z)) h⟩)
  · exact .inr h
/-- a def of the module that may be called by its name -/
structure Cl (P : Program) (w : World) (K : PySem.W.Frag) (mg : Str → Option Value) (base : Heap) (CX : CXT) (k : Nat) (x : Str) (f : Addr) (fd : FuncData) (ps : List Str) (sp : Sp) : Prop where
  ok : FnOk P w K mg base CX k f fd ps sp
  b : Binds K fd ps []
  m : mg x = some (.ref f)
  kp : PySem.W.keepIn K (.ref f) = true
theorem Cl.call {X : Cx} {k : Nat} {x : Str} {f : Addr} {fd : FuncData} {ps : List Str} {sp : Sp} {p pos : Pos} {e : Expr} {es : List Expr} {t : TA} (c : Cl X.prog X.w X.K X.mg X.base CX0 k x f fd ps sp) (hr : Room k X.A) (ha : PA X (e :: es) t) (hg : Gl X x := by rfl) (hdb : (x == ("__debug__" : Str)) = false := by decide)
    (he : starEach (e :: es) X.env = (false, eval e X.env) :: starEach es X.env := by rfl) (hpl : (backTo pos (starEach es X.env)).any (·.1) = false := by rfl) :
    PE X (.Call (.Name x p) (e :: es) [] pos) (tCall sp [] E0 t) := pe_call c.ok hr hg c.m c.kp c.b .nil pass0 ha hdb he hpl
def spAny (K : PySem.W.Frag) : Sp := fun vs H Q _ => ∃ (p l : Addr) (xs : List V), vs = [.ref p, .ref l] ∧ (SqL K H l xs ∨ SqT K H l xs) ∧ 0 < xs.length ∧ xs.length < 1073741824 ∧ HandAt H p ∧ ∀ (i : Nat) (x : V) (H' : Hp), xs[i]? = some x → Stp p H H' → Q x H'
theorem scAny : FnScope ["_law_hand_here", "_law_things"] ["_law_hand_here", "_law_things"] (defScope s_law_any) := ⟨rfl, rfl, rfl, by decide +kernel, rfl, by decide +kernel, by decide +kernel⟩
theorem ok_any {f fD : Addr} {fd fdD : FuncData} (F : Fun K "_law_any" "_law_any" s_law_any f fd) (T : Nm mg) (D : Cl P w K mg base CX0 1 "_law_draw" fD fdD ["_law_hand_here", "_law_many"] spDraw) : FnOk P w K mg base CX0 2 f fd ["_law_hand_here", "_law_things"] (spAny K) := by
  refine F.ok scAny (fun vs H Q E h => ?_) (fun cdv A outer s H vs Q E hr h => ?_)
  · obtain ⟨p, l, xs, rfl, _⟩ := h
    rfl
  · obtain ⟨p, l, xs, rfl, hS, h0, h1, hH, k⟩ := h
    refine ⟨_, pss_one (ps_ret (pe_ix ix_seq (pv 1) (D.call hr (pa_cons (pv 0) (pa_cons (pe_callB call_len_seq (by rfl) T.len PySem.boot_len (pa_cons (pv 1) pa_nil)) pa_nil))) (fun _ _ => rfl))), ?_⟩
    refine ⟨_, rfl, _, rfl, _, rfl, l, xs, rfl, hS, p, _, rfl, by omega, by omega, hH, fun d H' d0 d1 S => ?_⟩
    obtain ⟨j, rfl⟩ := Int.eq_ofNat_of_zero_le d0
    have hj : j < xs.length := by omega
    have ha : atI xs ((j : Nat) : Int) = some xs[j] := by
      unfold atI
      rw [Evl.ixN_nat hj]
      exact List.getElem?_eq_getElem hj
    rcases hS with hS | hS
    · exact .inl ⟨l, xs, _, _, rfl, rfl, S.sqL hH hS, ha, k j _ H' (List.getElem?_eq_getElem hj) S⟩
    · exact .inr (.inl ⟨l, xs, _, _, rfl, rfl, S.sqT hH hS, ha, k j _ H' (List.getElem?_eq_getElem hj) S⟩)
end
end Law
namespace Law
open PySem L2
/-! ### the program's own: integers, fractions -/
structure Nm2 (mg : Str → Option Value) : Prop where
  isi : mg "isinstance" = none
  int : mg "int" = none
  bool : mg "bool" = none
  tuple : mg "tuple" = none
  len : mg "len" = none
  all : mg "all" = none
  sum : mg "sum" = none
  enum : mg "enumerate" = none
  gcd : mg "gcd" = some (.builtin "math.gcd")
  lcm : mg "lcm" = some (.builtin "math.lcm")
def Ty3 (K : PySem.W.Frag) (H : Hp) (x : V) (bi bb : Bool) : Prop := ∃ t, TyX K H x t ∧ PySem.W.kitOne K t (.type "int") = some bi ∧ PySem.W.kitOne K t (.type "bool") = some bb
theorem ty3_int {K : PySem.W.Frag} {H : Hp} (i : Int) : Ty3 K H (.int i) true false := ⟨_, .base (.int i), kit_ty (by decide +kernel), kit_ty (by decide +kernel)⟩
theorem tyx_tup {K : PySem.W.Frag} {H : Hp} {a : Addr} {xs : List V} (h : SqT K H a xs) : TyX K H (.ref a) (.type "tuple") := by
  rcases h with (h | ⟨o, h⟩) | ⟨o, its, n, hk, hc, _⟩
  · exact .base (.tup h)
  · exact .fTuple h
  · exact .kTuple hk hc
theorem kit_tt {K : PySem.W.Frag} : PySem.W.kitOne K (.type "tuple") (.type "tuple") = some true := kit_ty (by decide +kernel)
end Law
namespace L2
open PySem
theorem Same.sqT {K : PySem.W.Frag} {H H' : Hp} {a : Addr} {xs : List V} (e : Same H H') (h : SqT K H a xs) : SqT K H' a xs := by
  rcases h with (h | ⟨o, h⟩) | h
  · exact .inl (.inl (e _ _ h))
  · exact .inl (.inr ⟨o, e _ _ h⟩)
  · exact .inr h
theorem Same.new {H : Hp} {p : Addr} {o : HO} (h : H p = none) : Same H (upd H p o) := fun b u e => by
  rw [upd_ne (ne_of_none e h)]
  exact e
theorem Same.mut {H H' : Hp} {p : Addr} {o : HO} (e : Same H H') (h : H p = none) : Same H (upd H' p o) := fun b u hb => by
  rw [upd_ne (ne_of_none hb h)]
  exact e b u hb
end L2
namespace Law
open PySem L2
section
variable {P : Program} {w : World} {K : PySem.W.Frag} {mg : Str → Option Value} {base : Heap}
def spIsInt (K : PySem.W.Frag) : Sp := fun vs H Q _ => ∃ x bi bb, vs = [x] ∧ Ty3 K H x bi bb ∧ Q (.bl (bi && !bb)) H
theorem scIsInt : FnScope ["thing"] ["thing"] (defScope s_is_integer) := ⟨rfl, rfl, rfl, by decide +kernel, rfl, by decide +kernel, by decide +kernel⟩
theorem ok_isint {f : Addr} {fd : FuncData} (F : Fun K "is_integer" "is_integer" s_is_integer f fd) (T : Nm2 mg) : FnOk P w K mg base CX0 1 f fd ["thing"] (spIsInt K) := by
  refine F.ok scIsInt (fun vs H Q E h => ?_) (fun cdv A outer s H vs Q E hr h => ?_)
  · obtain ⟨x, bi, bb, rfl, _⟩ := h
    rfl
  · obtain ⟨x, bi, bb, rfl, ⟨t, ty, h1, h2⟩, k⟩ := h
    refine ⟨_, pss_one (ps_ret (pe_and (pe_callB call_isi (by rfl) T.isi (by decide +kernel) (pa_cons (pv 0) (pa_cons (pe_bltn (v := .ty "int") (u := .type "int") (by rfl) T.int (by decide +kernel) rfl) pa_nil)))
      (pe_one (pe_not (pe_callB call_isi (by rfl) T.isi (by decide +kernel) (pa_cons (pv 0) (pa_cons (pe_bltn (v := .ty "bool") (u := .type "bool") (by rfl) T.bool (by decide +kernel) rfl) pa_nil))))))), ?_⟩
    refine ⟨_, rfl, _, _, _, _, _, rfl, .ty "int", ty, h1, _, rfl, ?_⟩
    cases bi with
    | true => exact iteT ⟨_, rfl, _, _, _, _, _, rfl, .ty "bool", ty, h2, _, rfl, k⟩
    | false => exact iteF k
def spWithin (K : PySem.W.Frag) : Sp := fun vs H Q _ => ∃ (lo hi : Int) (x : V), vs = [.int lo, .int hi, x] ∧ ((∃ i, x = .int i ∧ Q (.bl (decide (lo ≤ i) && decide (i ≤ hi))) H) ∨ ∃ bi bb, Ty3 K H x bi bb ∧ (bi && !bb) = false ∧ Q (.bl false) H)
theorem scWithin : FnScope ["low", "high", "thing"] ["low", "high", "thing"] (defScope s_is_within) := ⟨rfl, rfl, rfl, by decide +kernel, rfl, by decide +kernel, by decide +kernel⟩
theorem ok_within {f fI : Addr} {fd fdI : FuncData} (F : Fun K "is_within" "is_within" s_is_within f fd) (I : Cl P w K mg base CX0 1 "is_integer" fI fdI ["thing"] (spIsInt K)) : FnOk P w K mg base CX0 2 f fd ["low", "high", "thing"] (spWithin K) := by
  refine F.ok scWithin (fun vs H Q E h => ?_) (fun cdv A outer s H vs Q E hr h => ?_)
  · obtain ⟨lo, hi, x, rfl, _⟩ := h
    rfl
  · obtain ⟨lo, hi, x, rfl, h⟩ := h
    refine ⟨_, pss_one (ps_ret (pe_and (I.call hr (pa_cons (pv 2) pa_nil)) (pe_one (pe_chain op_le op_le (pv 0) (pv 2) (pv 1))))), ?_⟩
    rcases h with ⟨i, rfl, k⟩ | ⟨bi, bb, ty, hb, k⟩
    · refine ⟨_, rfl, _, true, false, rfl, ty3_int i, true, rfl, iteT ?_⟩
      refine ⟨_, rfl, _, rfl, _, _, rfl, rfl, _, rfl, ?_⟩
      refine ite2 (fun h1 => ?_) (fun h1 => ?_)
      · refine ⟨_, rfl, _, _, rfl, rfl, ?_⟩
        rw [h1, Bool.true_and] at k
        exact k
      · rw [Bool.not_eq_true] at h1
        rw [h1, Bool.false_and] at k
        exact k
    · refine ⟨_, rfl, x, bi, bb, rfl, ty, _, rfl, ?_⟩
      rw [hb]
      exact iteF k
def isW (lo hi : Int) : V → Bool
  | .int i => decide (lo ≤ i) && decide (i ≤ hi)
  | _ => false
def Known (K : PySem.W.Frag) (H : Hp) (x : V) : Prop := (∃ i, x = .int i) ∨ ∃ bi bb, Ty3 K H x bi bb ∧ (bi && !bb) = false ∧ ∀ lo hi, isW lo hi x = false
def spRowB (K : PySem.W.Frag) : Sp := fun vs H Q _ => ∃ (b : Int) (a : Addr) (xs : List V), vs = [.int b, .ref a] ∧ SqT K H a xs ∧ xs.length ≤ 1000 ∧ (∀ x ∈ xs, ∃ i, x = .int i) ∧ ∀ H', Same H H' → Q (.bl (xs.all (isW 0 (b - 1)))) H'
theorem scRowB : FnScope ["bound", "thing", "part"] ["bound", "thing"] (defScope s_is_row_below) := ⟨rfl, rfl, rfl, by decide +kernel, rfl, by decide +kernel, by decide +kernel⟩
theorem all_take {α : Type} (f : α → Bool) : ∀ xs : List α, (xs.map f).all id = xs.all f
  | [] => rfl
  | x :: xs => by rw [List.map_cons, List.all_cons, List.all_cons, all_take f xs] <;> rfl
theorem ok_rowb {f fW : Addr} {fd fdW : FuncData} (F : Fun K "is_row_below" "is_row_below" s_is_row_below f fd) (T : Nm2 mg) (W : Cl P w K mg base CX0 2 "is_within" fW fdW ["low", "high", "thing"] (spWithin K)) : FnOk P w K mg base CX0 3 f fd ["bound", "thing"] (spRowB K) := by
  refine F.ok scRowB (fun vs H Q E h => ?_) (fun cdv A outer s H vs Q E hr h => ?_)
  · obtain ⟨b, a, xs, rfl, _⟩ := h
    rfl
  · obtain ⟨b, a, xs, rfl, hS, hz, hx, k⟩ := h
    refine ⟨_, pss_one (ps_ret (pe_and (pe_callB call_isi (by rfl) T.isi (by decide +kernel) (pa_cons (pv 1) (pa_cons (pe_bltn (v := .ty "tuple") (u := .type "tuple") (by rfl) T.tuple (by decide +kernel) rfl) pa_nil)))
      (pe_one (pe_callB (cr_all rfl) (by rfl) T.all (by decide +kernel) (pa_cons (pe_lc (own := [("part", 2)]) (g := gName 2) (tt := tYes) rfl scRowB.nd (pi_tup (pv 1))
        (blkOk_by (own := [("part", 2)]) (N := ["bound", "thing", "part"]) (sc := defScope s_is_row_below) (by decide +kernel)) (fun _ _ _ _ _ => pg_name (i := 2) scRowB.nd rfl (Or.inl rfl)) (fun _ _ _ _ _ => pts_nil)
        (fun _ _ _ _ _ => W.call hr (pa_cons pe_int (pa_cons (pe_op op_sub (pv 0) pe_int) (pa_cons (pv 2) pa_nil))))) pa_nil))))), ?_⟩
    refine ⟨_, rfl, _, _, _, _, _, rfl, .ty "tuple", tyx_tup hS, kit_tt, _, rfl, iteT ?_⟩
    refine ⟨_, rfl, a, rfl, ⟨_, hS⟩, fun D hD => ?_⟩
    refine lc_tup (K := K) (a := a) (xs := xs) (fun i H' => Same H H' ∧ H' D = some (.lst (((xs.take i).map (isW 0 (b - 1))).map V.bl))) ⟨Same.new hD, upd_same⟩ (fun i H' _ h => h.1.sqT hS) ?_ ?_
    · rintro i x H' hi ⟨s1, h1⟩
      obtain ⟨z, rfl⟩ := hx x (List.mem_of_getElem? hi)
      refine ⟨rfl, _, rfl, _, _, rfl, rfl, _, rfl, _, _, _, rfl, .inl ⟨z, rfl, _, h1, ?_, s1.mut hD, ?_⟩⟩
      · rw [List.length_map, List.length_map, List.length_take]
        exact small1000 (by omega)
      · rw [upd_same, List.take_add_one, hi, List.map_append, List.map_append] <;> rfl
    · rintro H' ⟨s1, h1⟩
      rw [List.take_length] at h1
      refine ⟨D, _, rfl, SqL.of h1, ?_⟩
      rw [all_take]
      exact k H' s1
theorem dec_one (n : Nat) : decide (V.int (n : Int) = V.int 1) = (n == 1) := by
  rw [dec_int]
  by_cases e : n = 1
  · subst e
    rfl
  · rw [beq_eq_false_iff_ne.mpr e, beq_eq_false_iff_ne.mpr (by omega)]
def spFrac (K : PySem.W.Frag) : Sp := fun vs H Q _ => ∃ (a : Addr) (t b : Int), vs = [.ref a] ∧ SqT K H a [.int t, .int b] ∧ Q (.bl (decide (0 < b) && (Nat.gcd t.natAbs b.natAbs == 1))) H
theorem scFrac : FnScope ["thing", "top", "bottom"] ["thing"] (defScope s_is_fraction) := ⟨rfl, rfl, rfl, by decide +kernel, rfl, by decide +kernel, by decide +kernel⟩
theorem ok_frac {f fI : Addr} {fd fdI : FuncData} (F : Fun K "is_fraction" "is_fraction" s_is_fraction f fd) (T : Nm2 mg) (I : Cl P w K mg base CX0 1 "is_integer" fI fdI ["thing"] (spIsInt K)) : FnOk P w K mg base CX0 2 f fd ["thing"] (spFrac K) := by
  refine F.ok scFrac (fun vs H Q E h => ?_) (fun cdv A outer s H vs Q E hr h => ?_)
  · obtain ⟨a, t, b, rfl, _⟩ := h
    rfl
  · obtain ⟨a, t, b, rfl, hS, k⟩ := h
    refine ⟨_, pss_cons (ps_if (PW.pt (pw_or (pt_not (pt_val (pe_callB call_isi (by rfl) T.isi (by decide +kernel) (pa_cons (pv 0) (pa_cons (pe_bltn (v := .ty "tuple") (u := .type "tuple") (by rfl) T.tuple (by decide +kernel) rfl) pa_nil)))))
        (pw_or1 (pt_cmpR op_ne (pe_callB call_len_seq (by rfl) T.len PySem.boot_len (pa_cons (pv 0) pa_nil)) pe_int (nomark _))))) (pss_one (ps_ret pe_bl)) pss_nil)
      (pss_cons (ps_asg (pv 0) (pg_tup (by rfl) (pgs_cons (pg_name (i := 1) scFrac.nd rfl (Or.inl rfl)) (pgs_cons (pg_name (i := 2) scFrac.nd rfl (Or.inl rfl)) pgs_nil))))
      (pss_one (ps_ret (pe_and (I.call hr (pa_cons (pv 1) pa_nil)) (pe_and (I.call hr (pa_cons (pv 2) pa_nil)) (pe_and (pe_cmpR op_gt (pv 2) pe_int (nomark _)) (pe_one (pe_cmpR op_eq (pe_callBfun cr_gcd (by rfl) T.gcd (pa_cons (pv 1) (pa_cons (pv 2) pa_nil))) pe_int (nomark _))))))))), ?_⟩
    refine ⟨_, rfl, _, _, _, _, _, rfl, .ty "tuple", tyx_tup hS, kit_tt, _, rfl, ?_⟩
    refine iteF ⟨_, rfl, a, _, rfl, .inr hS, rfl, _, rfl, iteF ?_⟩
    refine ⟨_, rfl, a, _, rfl, hS, rfl, _, _, rfl, _, _, rfl, rfl, ?_⟩
    refine ⟨_, rfl, _, true, false, rfl, ty3_int t, _, rfl, iteT ⟨_, rfl, _, true, false, rfl, ty3_int b, _, rfl, iteT ⟨_, rfl, _, _, rfl, rfl, _, rfl, ?_⟩⟩⟩
    refine ite2 (fun h1 => ?_) (fun h1 => ?_)
    · refine ⟨_, rfl, _, rfl, t, b, rfl, rfl, ?_⟩
      rw [dec_one]
      rw [h1, Bool.true_and] at k
      exact k
    · rw [Bool.not_eq_true] at h1
      rw [h1, Bool.false_and] at k
      exact k
end
end Law
namespace L2
open PySem PySem.Spec PyProof.Rows
/-! ### math.lcm of great ints -/
theorem lcm_le (a b : Nat) (hb : 0 < b) (ha : 0 < a) : Nat.lcm a b ≤ a * b := Nat.le_of_dvd (Nat.mul_pos ha hb) (Nat.lcm_dvd_mul a b)
theorem lcm_lt {a b : Nat} (ha : a < 2 ^ 9000) (hb : b < 2 ^ 9000) : Nat.lcm a b < 2 ^ 18000 := by
  by_cases h0 : a = 0
  · subst h0
    rw [Nat.lcm_zero_left]
    exact Nat.two_pow_pos _
  by_cases h1 : b = 0
  · subst h1
    rw [Nat.lcm_zero_right]
    exact Nat.two_pow_pos _
  have h := lcm_le a b (Nat.pos_of_ne_zero h1) (Nat.pos_of_ne_zero h0)
  have h2 : a * b < 2 ^ 9000 * 2 ^ 9000 := Nat.mul_lt_mul_of_lt_of_lt ha hb
  rw [← Nat.pow_add] at h2
  exact Nat.lt_of_le_of_lt h h2
def rLcm : List V → Hp → VK → Prop := fun vs H Q => ∃ a b : Int, vs = [.int a, .int b] ∧ a.natAbs < 2 ^ 9000 ∧ b.natAbs < 2 ^ 9000 ∧ Q (.int ((Nat.lcm a.natAbs b.natAbs : Nat) : Int)) H
theorem cr_lcm {X : Cx} : CallR X (.builtin "math.lcm") rLcm := by
  intro pins s σ H vs us Q I r h
  obtain ⟨a, b, rfl, ha, hb, q⟩ := h
  obtain ⟨t, u, rfl⟩ := Vals.int2 r
  have l1 : ∀ {n : Nat}, n < 2 ^ 9000 → n.log2 < 9000 := fun h => PySem.Flt.log2_lt_of (by decide) h
  have m1 : max 1 a.natAbs < 2 ^ 9000 := by
    rw [Nat.max_def]
    split
    · exact ha
    · exact Nat.one_lt_two_pow (by decide)
  have m2 : max a.natAbs b.natAbs < 2 ^ 9000 := by
    rw [Nat.max_def]
    split
    · exact hb
    · exact ha
  have e : ((Nat.lcm 1 a.natAbs).lcm b.natAbs : Nat) = Nat.lcm a.natAbs b.natAbs := by rw [Nat.lcm_one_left]
  have hz : ((((Nat.lcm 1 a.natAbs).lcm b.natAbs : Nat) : Int)).natAbs.log2 < bitsLine := by
    rw [e, Int.natAbs_natCast]
    exact Nat.lt_of_lt_of_le (PySem.Flt.log2_lt_of (by decide) (lcm_lt ha hb)) (by decide)
  have c1 := l1 m1
  have c2 := l1 m2
  refine PySem.call_function_meets PySem.W.MGF.kind_lcm PySem.W.MGF.plain_lcm PySem.W.MGF.entry_lcm (PySem.W.MGF.args_lcm _ _) (PySem.W.mg_run_lcm a t b u (by omega) (by omega) hz).meets ?_
  exact ⟨.int _, H, I.tok _, ⟨_, rfl⟩, by rw [e]; exact q⟩
end L2
namespace Law
open PySem L2
/-! ### lists of fractions -/
abbrev Fr := Int × Int
def FrAt (K : PySem.W.Frag) (H : Hp) (v : V) (f : Fr) : Prop := ∃ s, v = .ref s ∧ SqT K H s [.int f.1, .int f.2]
def FrsIn (K : PySem.W.Frag) (H : Hp) (vs : List V) (fs : List Fr) : Prop := vs.length = fs.length ∧ ∀ (i : Nat) (v : V), vs[i]? = some v → ∃ f, fs[i]? = some f ∧ FrAt K H v f
def FrsAt (K : PySem.W.Frag) (H : Hp) (a : Addr) (fs : List Fr) : Prop := ∃ vs, SqL K H a vs ∧ FrsIn K H vs fs
/-- of moderate size -/
def FrOk (f : Fr) : Prop := 0 < f.2 ∧ f.2.natAbs < 2 ^ 62 ∧ f.1.natAbs < 2 ^ 62
theorem FrAt.same {K : PySem.W.Frag} {H H' : Hp} {v : V} {f : Fr} (e : Same H H') (h : FrAt K H v f) : FrAt K H' v f := by
  obtain ⟨s, h1, h2⟩ := h
  exact ⟨s, h1, e.sqT h2⟩
theorem FrsIn.same {K : PySem.W.Frag} {H H' : Hp} {vs : List V} {fs : List Fr} (e : Same H H') (h : FrsIn K H vs fs) : FrsIn K H' vs fs := ⟨h.1, fun i v hv => by
  obtain ⟨f, h1, h2⟩ := h.2 i v hv
  exact ⟨f, h1, h2.same e⟩⟩
theorem FrsAt.same {K : PySem.W.Frag} {H H' : Hp} {a : Addr} {fs : List Fr} (e : Same H H') (h : FrsAt K H a fs) : FrsAt K H' a fs := by
  obtain ⟨vs, h1, h2⟩ := h
  exact ⟨vs, e.seq h1, h2.same e⟩
def lcmAll (fs : List Fr) : Nat := fs.foldl (fun m f => Nat.lcm m f.2.natAbs) 1
theorem lcmAll_snoc (fs : List Fr) (f : Fr) : lcmAll (fs ++ [f]) = Nat.lcm (lcmAll fs) f.2.natAbs := by
  unfold lcmAll
  rw [List.foldl_append] <;> rfl
theorem lcm_fold : ∀ (fs : List Fr) (m : Nat), 0 < m → (∀ f ∈ fs, FrOk f) → 0 < fs.foldl (fun m f => Nat.lcm m f.2.natAbs) m ∧ fs.foldl (fun m f => Nat.lcm m f.2.natAbs) m ≤ m * 2 ^ (62 * fs.length)
  | [], m, hm, _ => ⟨hm, by simp⟩
  | f :: fs, m, hm, h => by
    obtain ⟨h1, h2, _⟩ := h f List.mem_cons_self
    have p : 0 < f.2.natAbs := by omega
    have q : 0 < Nat.lcm m f.2.natAbs := Nat.lcm_pos hm p
    obtain ⟨i1, i2⟩ := lcm_fold fs (Nat.lcm m f.2.natAbs) q fun g hg => h g (List.mem_cons_of_mem _ hg)
    refine ⟨i1, Nat.le_trans i2 ?_⟩
    have e1 : Nat.lcm m f.2.natAbs ≤ m * 2 ^ 62 := Nat.le_trans (lcm_le _ _ p hm) (Nat.mul_le_mul_left _ (Nat.le_of_lt h2))
    have e2 : m * 2 ^ (62 * (f :: fs).length) = m * 2 ^ 62 * 2 ^ (62 * fs.length) := by
      rw [List.length_cons, Nat.mul_add, Nat.mul_one, Nat.add_comm, Nat.pow_add, Nat.mul_assoc]
    rw [e2]
    exact Nat.mul_le_mul_right _ e1
theorem lcmAll_pos {fs : List Fr} (h : ∀ f ∈ fs, FrOk f) : 0 < lcmAll fs := (lcm_fold fs 1 (by decide) h).1
theorem lcmAll_lt {fs : List Fr} (h : ∀ f ∈ fs, FrOk f) (hl : fs.length ≤ 24) : lcmAll fs < 2 ^ 1489 := by
  have z := (lcm_fold fs 1 (by decide) h).2
  rw [Nat.one_mul] at z
  refine Nat.lt_of_le_of_lt z (Nat.pow_lt_pow_right (by decide) (by omega))
theorem pow_mono {n a b : Nat} (h : n < 2 ^ a) (hab : a ≤ b) : n < 2 ^ b := Nat.lt_of_lt_of_le h (Nat.pow_le_pow_right (by decide) hab)
section
variable {P : Program} {w : World} {K : PySem.W.Frag} {mg : Str → Option Value} {base : Heap}
def spComB (K : PySem.W.Frag) : Sp := fun vs H Q _ => ∃ (a : Addr) (fs : List Fr), vs = [.ref a] ∧ FrsAt K H a fs ∧ fs.length ≤ 24 ∧ (∀ f ∈ fs, FrOk f) ∧ Q (.int (lcmAll fs : Nat)) H
theorem scComB : FnScope ["fractions", "found", "_", "bottom"] ["fractions"] (defScope s_common_bottom) := ⟨rfl, rfl, rfl, by decide +kernel, rfl, by decide +kernel, by decide +kernel⟩
theorem ok_comb {f : Addr} {fd : FuncData} (F : Fun K "common_bottom" "common_bottom" s_common_bottom f fd) (T : Nm2 mg) : FnOk P w K mg base CX0 1 f fd ["fractions"] (spComB K) := by
  refine F.ok scComB (fun vs H Q E h => ?_) (fun cdv A outer s H vs Q E hr h => ?_)
  · obtain ⟨a, fs, rfl, _⟩ := h
    rfl
  · obtain ⟨a, fs, rfl, ⟨vs, hS, hF⟩, hl, ho, k⟩ := h
    refine ⟨_, pss_cons (ps_set (i := 1) scComB.nd rfl (Or.inl rfl) pe_int)
      (pss_cons (ps_for PassesOwn.never rfl (pi_list (pv 0)) (pg_tup (by rfl) (pgs_cons (pg_name (i := 2) scComB.nd rfl (Or.inl rfl)) (pgs_cons (pg_name (i := 3) scComB.nd rfl (Or.inl rfl)) pgs_nil)))
        (pss_one (ps_set (i := 1) scComB.nd rfl (Or.inl rfl) (pe_callBfun cr_lcm (by rfl) T.lcm (pa_cons (pv 1) (pa_cons (pv 3) pa_nil))))))
      (pss_one (ps_ret (pv 1)))), ?_⟩
    refine ⟨_, rfl, a, rfl, ⟨_, hS⟩, for_list (K := K) (a := a) (xs := vs) (fun i σ H' => H' = H ∧ ∃ u v : Option V, σ = [some (.ref a), some (.int (lcmAll (fs.take i) : Nat)), u, v]) ⟨rfl, none, none, rfl⟩ (fun i σ H' _ h => by rw [h.1]; exact hS) ?_ ?_⟩
    · rintro i x σ H' hi ⟨rfl, u, v, rfl⟩
      obtain ⟨g, hg, t, rfl, hT⟩ := hF.2 i x hi
      have gm : g ∈ fs := List.mem_of_getElem? hg
      obtain ⟨g1, g2, g3⟩ := ho g gm
      have hsub : ∀ f ∈ fs.take i, FrOk f := fun f hf => ho f (List.mem_of_mem_take hf)
      have hlt := lcmAll_lt hsub (by rw [List.length_take]; omega)
      refine ⟨t, _, rfl, hT, rfl, _, _, rfl, _, _, rfl, rfl, ?_⟩
      refine ⟨_, rfl, _, rfl, _, _, rfl, pow_mono (a := 1489) (by rw [Int.natAbs_natCast]; exact hlt) (by decide), pow_mono g2 (by decide), ?_⟩
      refine ⟨rfl, some (.int g.1), some (.int g.2), ?_⟩
      rw [List.take_add_one, hg]
      show _ = [some (V.ref a), some (V.int ((lcmAll (fs.take i ++ [g]) : Nat) : Int)), some (V.int g.1), some (V.int g.2)]
      rw [lcmAll_snoc]
      rfl
    · rintro σ H' ⟨rfl, u, v, rfl⟩
      refine ⟨_, rfl, ?_⟩
      rw [hF.1, List.take_length]
      exact k
def topsOf (fs : List Fr) (b : Int) : List Int := fs.map fun f => f.1 * (b / f.2)
def spTops (K : PySem.W.Frag) : Sp := fun vs H Q _ => ∃ (a : Addr) (fs : List Fr) (b : Int), vs = [.ref a, .int b] ∧ FrsAt K H a fs ∧ fs.length ≤ 24 ∧ (∀ f ∈ fs, FrOk f) ∧ ∀ p H', H p = none → Same H H' → H' p = some (.lst ((topsOf fs b).map V.int)) → Q (.ref p) H'
theorem scTops : FnScope ["fractions", "bottom", "top", "part"] ["fractions", "bottom"] (defScope s_tops_over) := ⟨rfl, rfl, rfl, by decide +kernel, rfl, by decide +kernel, by decide +kernel⟩
theorem ok_tops {f : Addr} {fd : FuncData} (F : Fun K "tops_over" "tops_over" s_tops_over f fd) : FnOk P w K mg base CX0 1 f fd ["fractions", "bottom"] (spTops K) := by
  refine F.ok scTops (fun vs H Q E h => ?_) (fun cdv A outer s H vs Q E hr h => ?_)
  · obtain ⟨a, fs, b, rfl, _⟩ := h
    rfl
  · obtain ⟨a, fs, b, rfl, ⟨vs, hS, hF⟩, hl, ho, k⟩ := h
    refine ⟨_, pss_one (ps_ret (pe_lc (own := [("top", 2), ("part", 3)]) (g := gTup K 2 (gCons (gName 2) (gCons (gName 3) gNil))) (tt := tYes) rfl scTops.nd (pi_list (pv 0))
        (blkOk_by (own := [("top", 2), ("part", 3)]) (N := ["fractions", "bottom", "top", "part"]) (sc := defScope s_tops_over) (by decide +kernel))
        (fun _ _ _ _ _ => pg_tup (by rfl) (pgs_cons (pg_name (i := 2) scTops.nd rfl (Or.inl rfl)) (pgs_cons (pg_name (i := 3) scTops.nd rfl (Or.inl rfl)) pgs_nil))) (fun _ _ _ _ _ => pts_nil)
        (fun _ _ _ _ _ => pe_op op_mul (pv 2) (pe_op op_fdivW (pv 1) (pv 3))))), ?_⟩
    refine ⟨_, rfl, a, rfl, ⟨_, hS⟩, fun D hD => ?_⟩
    refine lc_list (K := K) (a := a) (xs := vs) (fun i H' => Same H H' ∧ H' D = some (.lst ((topsOf (fs.take i) b).map V.int))) ⟨Same.new hD, upd_same⟩ (fun i H' _ h => h.1.seq hS) ?_ ?_
    · rintro i x H' hi ⟨s1, h1⟩
      obtain ⟨g, hg, t, rfl, hT⟩ := hF.2 i x hi
      obtain ⟨g1, g2, g3⟩ := ho g (List.mem_of_getElem? hg)
      have hil : i < fs.length := (List.getElem?_eq_some_iff.mp hg).1
      refine ⟨t, _, rfl, s1.sqT hT, rfl, _, _, rfl, _, _, rfl, rfl, ?_⟩
      refine ⟨rfl, _, rfl, _, rfl, _, rfl, _, _, rfl, rfl, wide_div g1 g2 (by decide) (by decide), _, _, rfl, rfl, .inl ⟨by omega, by omega⟩, _, h1, ?_, s1.mut hD, ?_⟩
      · unfold topsOf
        rw [List.length_map, List.length_map, List.length_take]
        exact small1000 (by omega)
      · unfold topsOf
        rw [upd_same, List.take_add_one, hg, List.map_append, List.map_append] <;> rfl
    · rintro H' ⟨s1, h1⟩
      rw [hF.1, List.take_length] at h1
      exact k D H' hD s1 h1
def spOne (K : PySem.W.Frag) : Sp := fun vs H Q _ => ∃ (a : Addr) (fs : List Fr), vs = [.ref a] ∧ FrsAt K H a fs ∧ fs.length ≤ 24 ∧ (∀ f ∈ fs, FrOk f) ∧ ∀ H', Same H H' → Q (.bl (decide ((topsOf fs (lcmAll fs : Nat)).sum = ((lcmAll fs : Nat) : Int)))) H'
theorem scOne : FnScope ["fractions", "bottom"] ["fractions"] (defScope s_are_one_together) := ⟨rfl, rfl, rfl, by decide +kernel, rfl, by decide +kernel, by decide +kernel⟩
theorem ok_one {f fC fT : Addr} {fd fdC fdT : FuncData} (F : Fun K "are_one_together" "are_one_together" s_are_one_together f fd) (T : Nm2 mg) (C : Cl P w K mg base CX0 1 "common_bottom" fC fdC ["fractions"] (spComB K))
    (U : Cl P w K mg base CX0 1 "tops_over" fT fdT ["fractions", "bottom"] (spTops K)) : FnOk P w K mg base CX0 2 f fd ["fractions"] (spOne K) := by
  refine F.ok scOne (fun vs H Q E h => ?_) (fun cdv A outer s H vs Q E hr h => ?_)
  · obtain ⟨a, fs, rfl, _⟩ := h
    rfl
  · obtain ⟨a, fs, rfl, hA, hl, ho, k⟩ := h
    refine ⟨_, pss_cons (ps_set (i := 1) scOne.nd rfl (Or.inl rfl) (C.call hr (pa_cons (pv 0) pa_nil)))
      (pss_one (ps_ret (pe_cmpR op_eq (pe_callB (cr_sum rfl) (by rfl) T.sum (by decide +kernel) (pa_cons (U.call hr (pa_cons (pv 0) (pa_cons (pv 1) pa_nil))) pa_nil)) (pv 1) (nomark _)))), ?_⟩
    refine ⟨_, rfl, a, fs, rfl, hA, hl, ho, ?_⟩
    refine ⟨_, rfl, _, rfl, a, fs, _, rfl, hA, hl, ho, fun p H' hp s1 h1 => ⟨p, _, rfl, SqL.of h1, _, rfl, rfl, ?_⟩⟩
    rw [dec_int]
    have z := k H' s1
    rw [show (((topsOf fs (lcmAll fs : Nat)).sum == ((lcmAll fs : Nat) : Int)) = decide ((topsOf fs (lcmAll fs : Nat)).sum = ((lcmAll fs : Nat) : Int))) from rfl]
    exact z
end
end Law
namespace PySem
namespace LawEnum
open AutoSeq1 (wpAny_loadPart')
theorem meets_enumerate_newT (l : Addr) (items : Array Value) (n : Nat) (dct : Option Addr) (sl : Array (Option Value)) :
    Meets (Builtin.«enumerate.__new__» ⟨[.type "enumerate", .ref l], []⟩) (fun _ R s => s.heap.get? l = some { cls := .type "tuple", dict := dct, data := .seq items n, slots := sl } ∧
      R (.ok (.ret (.ref (s.heap.push { cls := .type "tuple_iterator", data := .fields #[.ref l, .int 0 0] }).objs.size)))
        { s with heap := (s.heap.push { cls := .type "tuple_iterator", data := .fields #[.ref l, .int 0 0] }).push { cls := .type "enumerate", data := .fields #[.none, .bool false, .ref s.heap.objs.size, rawInt 0, .none, .none] } }) :=
  .of_wp fun prog w A R s h => by
    obtain ⟨hp, g, d, tk, os⟩ := s; obtain ⟨hl, h⟩ := h
    have hsub := sub_enumerate
    have hL : Heap.IsTuple (Shared.heap ⟨hp, g, d, tk, os⟩) l items := ⟨_, hl, rfl, n, rfl⟩
    wp_walk using wpAny_loadPart' hl
    refine wpAny_stack_any fun st => wpAny_pure ?_
    split
    · rename_i c _ _ _ _ _
      cases (c == Value.type "enumerate")
      · wp_walk using wpAny_loadPart' hl, wpAny_pyIter_tuple hL
        exact ⟨_, rfl, h⟩
      · wp_walk using wpAny_loadPart' hl, wpAny_pyIter_tuple hL
        exact ⟨_, rfl, h⟩
    · wp_walk using wpAny_loadPart' hl, wpAny_pyIter_tuple hL
      exact ⟨_, rfl, h⟩
section
variable {prog : Program} {w : World} {A : Around} {E : Value → Shared → Prop} {s : Shared}
theorem call_enumerate_tuple {l : Addr} {items : Array Value} {Q : Value → Shared → Prop} (hL : s.heap.IsTuple l items)
    (h : ∀ h', IsEnum h' (s.heap.objs.size + 1) s.heap.objs.size 0 .none → h'.IsTupleIter s.heap.objs.size l 0 → h'.objs.size = s.heap.objs.size + 2 →
      (∀ b o, s.heap.get? b = some o → h'.get? b = some o) → Q (.ref (s.heap.objs.size + 1)) { s with heap := h' }) :
    wpAny (model prog w) A (call (.type "enumerate") [.ref l]) Q E s := by
  obtain ⟨⟨c, dct, dt, sl⟩, hl, hc, n, hd⟩ := hL
  replace hc : c = .type "tuple" := hc
  replace hd : dt = .seq items n := hd
  subst hc hd
  refine callType_new F.called_enumerate (by decide) (F.typeCall_enumerate_1 _) (F.newCall_enumerate_1 _) (fun obj => F.args_object_init_2 obj _) F.entry_enumerate_new
    (meets_enumerate_newT l items n dct sl) ⟨hl, ?_⟩
  have hz : (s.heap.push { cls := .type "tuple_iterator", data := .fields #[.ref l, .int 0 0] }).objs.size = s.heap.objs.size + 1 := Heap.size_push ..
  show _ ∧ _
  rw [hz]
  have he : IsEnum ((s.heap.push { cls := .type "tuple_iterator", data := .fields #[.ref l, .int 0 0] }).push
      { cls := .type "enumerate", data := .fields #[.none, .bool false, .ref s.heap.objs.size, rawInt 0, .none, .none] }) (s.heap.objs.size + 1) s.heap.objs.size 0 .none := by
    have := Heap.get?_push_size (s.heap.push { cls := .type "tuple_iterator", data := .fields #[.ref l, .int 0 0] })
      (o := { cls := .type "enumerate", data := .fields #[.none, .bool false, .ref s.heap.objs.size, rawInt 0, .none, .none] }) rfl
    rw [hz] at this; exact this
  refine ⟨⟨_, he, rfl⟩, h _ he ⟨_, Heap.get?_push_of_some _ (Heap.get?_push_size _ rfl), rfl, rfl⟩ (by rw [Heap.size_push, hz]) fun b o x => Heap.get?_push_of_some _ (Heap.get?_push_of_some _ x)⟩
end
theorem draws_end {prog : Program} {w : World} {A : Around} (hh : A.handled = none) (it t : Addr) (items : Array Value) (i : Nat) (hx : items[i]? = none) :
    Draws prog w A it [it, t] 0 (fun _ _ => True) (fun _ h => h.IsTupleIter it t i ∧ h.IsTuple t items) where
  live := fun _ _ st => let ⟨o, ho, _⟩ := st.1; ⟨o, ho⟩
  frame := fun _ _ _ st hk => ⟨st.1.at fun o e => hk it (by simp) o e, st.2.at fun o e => hk t (by simp) o e⟩
  item := fun i s Q E hi st hQ => absurd hi (Nat.not_lt_zero i)
  done := fun s Q E st hE => wpAny_nextOf_tuple_end hh st.1 st.2 hx hE
end LawEnum
end PySem
namespace L2
open PySem PySem.Spec PyProof.Rows
/-- the tuple at a, item by item, each in a new pair with its number -/
def IteT (K : PySem.W.Frag) (a : Addr) : It :=
  ⟨fun i H => ∃ (xs : List V) (x : V), SqT K H a xs ∧ xs[i]? = some x, fun i H v H' => ∃ T x, v = .ref T ∧ H T = none ∧ H' = upd H T (.tup [.int (i : Nat), x]) ∧ ∀ xs, SqT K H a xs → xs[i]? = some x, fun i H => ∃ xs : List V, SqT K H a xs ∧ xs.length ≤ i⟩
theorem turn_enumT {P : Program} {w : World} {K : PySem.W.Frag} {elts : List Expr} {kk : Nat} {tpos : Pos} (a e it : Addr) :
    Turn P w K (.Tuple elts kk tpos) (IteT K a) [e, it] e (fun i h => (∃ old, IsEnum h e it ((i : Nat) : Int) old) ∧ h.IsTupleIter it a i ∧ e ≠ it ∧ a ≠ it ∧ e ≠ a) where
  mem := by simp
  obj := fun i h st b hb => by
    obtain ⟨⟨old, he⟩, ⟨o, ho, hc, hd⟩, _⟩ := st
    have e' : b = e ∨ b = it := by simpa using hb
    rcases e' with z | z
    · rw [z]; exact ⟨_, he, fun v q => nomatch q⟩
    · rw [z]; exact ⟨o, ho, fun v q => by rw [hd] at q; cases q⟩
  keep := fun i h h' st k => let ⟨⟨old, he⟩, hi, hne, h1, h2⟩ := st; ⟨⟨old, k e (by simp) _ he⟩, hi.at fun o q => k it (by simp) o q, hne, h1, h2⟩
  item := by
    intro X hP hw hK hc i pins s σ H E I hf st hg
    subst hP hw hK
    obtain ⟨⟨old, he⟩, hit, hne, hai, hea⟩ := st
    obtain ⟨xs, x, hq, hx⟩ := hg
    obtain ⟨its, rv, p, hz⟩ := I.tuple hq
    obtain ⟨u, hu, ru⟩ := rv.get hx
    have hel : e < s.heap.objs.size := Heap.lt_size he
    have hil : it < s.heap.objs.size := by obtain ⟨_, q, _⟩ := hit; exact Heap.lt_size q
    have hlt : i < its.toArray.size := by
      have z := (List.getElem?_eq_some_iff.mp hu).1
      simpa using z
    have D := Draws.tuple (prog := X.prog) (w := X.w) (A := X.A.in1) (I.ok.hd hc) it a hai its.toArray
    refine wpAny_pyNext_enum_itemD D he ⟨hit, p⟩ hlt hne (by simp [hne, hea]) fun x' h' tk hPx ho hit' hT hsz hk => ?_
    have ex : x' = u := by
      have z : its.toArray[i]? = some x' := hPx
      have z2 : its.toArray[i]? = some u := by simpa using hu
      rw [z2] at z
      exact (Option.some.inj z).symm
    subst ex
    refine ⟨_, rfl, wpAny_letOwnedTupleGo_enum (s := { s with heap := h', toks := tk + 1 }) ho fun h'' he' sb => ?_⟩
    have hT2 : h''.get? s.heap.objs.size = some { cls := .type "tuple", data := .seq #[.int i tk, x'] } := (sb.2 _ (Nat.ne_of_gt hel)).trans hT
    have new : ObjOk X.prog X.w (upd H s.heap.objs.size (.tup [.int (i : Nat), x])) h'' s.heap.objs.size (.tup [.int (i : Nat), x]) :=
      ⟨by show 2 ≤ sizeLine; decide, [.int i tk, x'], .cons ⟨_, rfl⟩ (.cons ru .nil), ⟨_, hT2, rfl, _, rfl⟩⟩
    have I1 : Inv X pins σ (upd H s.heap.objs.size (.tup [.int (i : Nat), x])) { s with heap := h'', toks := tk + 1 } :=
      I.turnedNew (ch := [e, it]) (fun b ob hb q => (sb.2 b (fun z => hb (by simp [z]))).trans (hk b ob (fun z => hb (by simp [z])) (fun z => hb (by simp [z])) q)) hf (Nat.le_refl _) new
    refine ⟨.ref s.heap.objs.size, _, I1, rfl, ⟨_, x, rfl, I.hok.fresh (Nat.le_refl _), rfl, fun ys hy => by rw [I.tuple_inj hy hq]; exact hx⟩, ⟨⟨x', ?_⟩, hit'.1.at fun o q => (sb.2 it (Ne.symm hne)).trans q, hne, hai, hea⟩, fun b hb => ?_⟩
    · have e1 : ((i + 1 : Nat) : Int) = (i : Int) + 1 := by omega
      rw [e1]; exact he'
    · have hb' : b < s.heap.objs.size := by
        have e' : b = e ∨ b = it := by simpa using hb
        rcases e' with z | z
        · rw [z]; exact hel
        · rw [z]; exact hil
      rw [upd_ne (Nat.ne_of_lt hb')]
      exact (hf b hb).1
  done := by
    intro X hP hw hK hc i pins s σ H E I hf st hg
    subst hP hw hK
    obtain ⟨⟨old, he⟩, hit, hne, hai, hea⟩ := st
    obtain ⟨xs, hq, hx⟩ := hg
    obtain ⟨its, rv, p, hz⟩ := I.tuple hq
    obtain ⟨f0, f1, f2, f3, f4, f5⟩ := hf it (by simp)
    have hl := rv.length
    have D := LawEnum.draws_end (prog := X.prog) (w := X.w) (A := X.A.in1) (I.ok.hd hc) it a its.toArray i (by simp; omega)
    exact wpAny_pyNext_enum_endD D he ⟨hit, p⟩ fun h' eb => ⟨rfl, I.turned (t' := s.toks) (fun b o hb q => eb b o hb q) f0 f1 f3 f4 f5⟩
  self := fun A i s Q E st h => let ⟨⟨_, he⟩, _⟩ := st; wpAny_pyIter_enum he h
def iEnumT (K : PySem.W.Frag) (ta : TA) : TI := fun σ H R => ta σ H fun vs H1 => ∃ a xs, vs = [.ref a] ∧ SqT K H1 a xs ∧ R (IteT K a) H1
theorem pi_enumT {X : Cx} {e : Expr} {ta : TA} {p pos tpos : Pos} {elts : List Expr} {kk : Nat} (hg : Gl X "enumerate") (hm : X.mg "enumerate" = none) (ha : PA X [e] ta) (hs : starEach [e] X.env = [(false, eval e X.env)] := by rfl) :
    PI X (.Tuple elts kk tpos) (.Call (.Name "enumerate" p) [e] [] pos) (iEnumT X.K ta) := by
  refine ⟨fun pins s σ H R I h => ?_⟩
  refine Call_ (ld_blt I hg hm boot_enumerate (PyProof.Rows.callWith_type1 (thn (ha.run pos pins s σ H _ I h) fun us s1 ⟨vs, H1, I1, r1, q1⟩ => ?_) hs rfl))
  obtain ⟨a, xs, ex, hq, q⟩ := q1
  subst ex
  cases r1 with
  | cons r rr =>
    cases rr
    cases r
    obtain ⟨its, rv, p', hz⟩ := I1.tuple hq
    have hal : a < s1.heap.objs.size := by obtain ⟨o, ho, _⟩ := p'; exact Heap.lt_size ho
    refine LawEnum.call_enumerate_tuple p' fun h' he hit hsz hk => wpAny_pyIter_enum he ?_
    have I2 : Inv X pins σ H1 { s1 with heap := h' } := I1.kept (t' := s1.toks) hk
    refine ⟨s1.heap.objs.size + 1, [s1.heap.objs.size + 1, s1.heap.objs.size], _, _, H1, rfl, I2, turn_enumT a (s1.heap.objs.size + 1) s1.heap.objs.size, ⟨⟨.none, he⟩, hit, Nat.succ_ne_self _, Nat.ne_of_lt hal, Nat.ne_of_gt (Nat.lt_succ_of_lt hal)⟩, fun b hb => ?_, q⟩
    have e' : b = s1.heap.objs.size + 1 ∨ b = s1.heap.objs.size := by simpa using hb
    have hle : s1.heap.objs.size ≤ b := by
      rcases e' with z | z
      · rw [z]; exact Nat.le_add_right _ _
      · rw [z]; exact Nat.le_refl _
    exact I1.fpOk hle (I1.hok.fresh hle)
theorem walk_enumT {K : PySem.W.Frag} {a : Addr} {xs : List V} : Walk (IteT K a) xs.length (fun H => SqT K H a xs) (fun i H v H' => ∃ T x, v = .ref T ∧ H T = none ∧ H' = upd H T (.tup [.int (i : Nat), x]) ∧ xs[i]? = some x) where
  goes := fun i H hi h => ⟨xs, xs[i], h, List.getElem?_eq_getElem hi⟩
  stops := fun H h => ⟨xs, h, Nat.le_refl _⟩
  yields := fun i H x H' hi h ⟨T, y, h1, h2, h3, h4⟩ => ⟨T, y, h1, h2, h3, h4 xs h⟩
end L2
namespace Law
open PySem PySem.Spec PyProof.Rows L2
/-! ### list.count of truth values -/
def eqt (b : Bool) (v : Value) : Bool := match v with
  | .bool c => c == b
  | _ => false
theorem bools_of : ∀ {bs : List Bool} {its : List Value}, Vals (bs.map V.bl) its → its = bs.map Value.bool
  | [], _, .nil => rfl
  | b :: bs, _, .cons r rr => by
    cases r
    rw [bools_of rr] <;> rfl
theorem eqt_count (b : Bool) : ∀ bs : List Bool, (bs.map Value.bool).countP (eqt b) = bs.count b
  | [] => rfl
  | c :: bs => by
    rw [List.map_cons, List.countP_cons, List.count_cons, eqt_count b bs] <;> rfl
section
variable {X : Cx}
def rCntB (K : PySem.W.Frag) : V → List V → Hp → VK → Prop := fun x xs H Q => ∃ (p : Addr) (bs : List Bool) (b : Bool), x = .ref p ∧ xs = [.bl b] ∧ SqL K H p (bs.map V.bl) ∧ Q (.int (bs.count b : Nat)) H
theorem mt_bcount : MtR X "list.count" (rCntB X.K) := by
  intro pins s σ H x xs v us Q I rx rxs h
  obtain ⟨p, bs, b, rfl, rfl, hs, q⟩ := h
  cases rx
  obtain ⟨u, rfl, ru⟩ := rxs.one
  cases ru
  obtain ⟨its, rv, ⟨⟨cls, dd, data, sl⟩, n, ho, hc, hdn, hd⟩, hlen⟩ := I.list hs
  simp only at hc hd
  subst hc hd
  have hi := bools_of rv
  subst hi
  refine call_meets PySem.F.slot_list_count ⟨_, ho, rfl⟩ PySem.F.entry_list_count (PySem.F.args_list_count_2 _ _)
    (SeqAt.list_countAt p (bs.map Value.bool).toArray n dd sl (.bool b) (eqt b)) ⟨ho, fun y hy => ?_, ?_⟩
  · have hy' : y ∈ bs.map Value.bool := by simpa using hy
    obtain ⟨c, _, rfl⟩ := List.mem_map.mp hy'
    exact eqAt_V (y := .bl c) (x := .bl b) rfl rfl rfl rfl
  · refine ⟨.int (bs.count b : Nat), H, I.tok _, ⟨s.toks, ?_⟩, q⟩
    show Value.int (((bs.map Value.bool).toArray.toList.countP (eqt b) : Nat) : Int) s.toks = Value.int ((bs.count b : Nat) : Int) s.toks
    rw [show (bs.map Value.bool).toArray.toList = bs.map Value.bool by simp, eqt_count]
end
/-! ### own exceptions as values -/
structure ExV (K : PySem.W.Frag) (C : Addr) : Prop where
  ox : OexC K C
  cl : (PySem.W.clsIn K C).isSome = true
  ga : PySem.W.findIn K (.ref C) "__getattribute__" = some (some (.builtin "BaseException.__getattribute__"))
  gg : PySem.W.findIn K (.ref C) "__getattr__" = some none
  ha : PySem.W.findIn K (.ref C) "__class__" = some (some (.builtin "object.__class__"))
  hn : PySem.W.specialIn K (.builtin "object.__class__") "__get__" = some (some (.builtin "getset_descriptor.__get__"))
  ht : PySem.W.takesIn K (.builtin "object.__class__") = some true
  hm : PySem.W.mroIn K C (.type "object") = some true
  hd : PySem.W.hasDictIn K C = true
def ExAt (H : Hp) (a C : Addr) (d : Option Addr) : Prop := H a = some (exo a C d) ∧ (d = none ∨ ∃ dd fs, d = some dd ∧ H dd = some (exd dd fs))
theorem ExAt.same {H H' : Hp} {a C : Addr} {d : Option Addr} (s : Same H H') (x : ExAt H a C d) : ExAt H' a C d := ⟨s _ _ x.1, by
  rcases x.2 with h | ⟨dd, fs, h1, h2⟩
  · exact .inl h
  · exact .inr ⟨dd, fs, h1, s _ _ h2⟩⟩
theorem exInst {P : Program} {w : World} {H : Hp} {h : Heap} {a C : Addr} {d : Option Addr} (hok : HOk P w H h) (x : ExAt H a C d) : ∃ ox od, PySem.W.InstAt h a ox C od := by
  obtain ⟨t1, e⟩ := exo_at hok x.1
  rcases x.2 with rfl | ⟨dd, fs, rfl, h2⟩
  · exact ⟨_, none, e, rfl, rfl, trivial⟩
  · obtain ⟨mA, hn, _⟩ := exd_at hok h2
    obtain ⟨od, ho, _⟩ := lookIn_ns hn
    exact ⟨_, some od, e, rfl, rfl, ho⟩
section
variable {X : Cx}
def rIsV (K : PySem.W.Frag) : List V → Hp → VK → Prop := fun xs H Q => ∃ (a C : Addr) (d : Option Addr) (c : V) (cv : Value) (b : Bool), xs = [.ref a, c] ∧ ExAt H a C d ∧ ExV K C ∧ ClsV c cv ∧ PySem.W.kitOne K (.ref C) cv = some b ∧ Q (.bl b) H
theorem call_isV : CallR X (.builtin "isinstance") (rIsV X.K) := by
  intro pins s σ H xs us Q I r h
  obtain ⟨a, C, d, c, cv, b, rfl, x, T, k, e, q⟩ := h
  obtain ⟨u1, u2, rfl, r1, r2⟩ := vals2 r
  cases (show u1 = Value.ref a from r1)
  have e2 := k.eq r2
  subst e2
  obtain ⟨ox, od, J⟩ := exInst I.hok x
  exact PySem.W.kia_one (PySem.W.kitx_exc T.cl T.ga T.gg T.ox.exC T.ha T.hn T.ht T.hm) I.kIn J e (fun z => nomatch z) fun tk => ⟨.bl b, H, I.tok tk, rfl, q⟩
variable {C fI : Addr} {k : Nat} {fd : FuncData} {ps : List Str} {sp : Sp}
/-- an own exception made, and held as a value -/
theorem run_exv' {ds : List Value} {dvs : List V} (hd : Vals dvs ds) {pins : List (Addr × Obj)} {σ : L2.St} {H1 : Hp} {s1 : Shared} {Q : VK} {vs : List V} {us : List Value} (T : ExV X.K C) (iC : PySem.W.findIn X.K (.ref C) "__init__" = some (some (.ref fI))) (tI : PySem.W.typeIn X.K (.ref fI) = some (.type "function"))
    (F1 : FnOk X.prog X.w X.K X.mg X.base CX0 k fI fd ps sp) (hr : Room (k + 1) X.A) (hb : Binds X.K fd ps ds) (I1 : Inv X pins σ H1 s1) (r1 : Vals vs us) (hz : vs.length ≤ 1000)
    (hq1 : ∀ a, H1 a = none → sp (.ref a :: (vs ++ dvs)) (upd H1 a (exo a C none)) (fun v H2 => v = .non ∧ Q (.ref a) H2) E0) : wpAny (model X.prog X.w) X.A (call (.ref C) us) (EP X pins σ Q) X.xe s1 := by
  obtain ⟨nm, q, N, bs, bm, sn, sub, ab, col, dd, k0, k1, k2, k3, k5, hC, hbm⟩ := T.ox.cls
  obtain ⟨hp, g, dr, tk, os⟩ := s1
  have hsz : hp.objs.size ≤ hp.objs.size + 1 := Nat.le_succ _
  have hn : H1 (hp.objs.size + 1) = none := I1.hok.fresh hsz
  have hq : sp (.ref (hp.objs.size + 1) :: (vs ++ dvs)) (upd H1 (hp.objs.size + 1) (exo (hp.objs.size + 1) C none)) (fun v H2 => v = .non ∧ Q (.ref (hp.objs.size + 1)) H2) E0 := hq1 (hp.objs.size + 1) hn
  have kk : ∀ b o, hp.get? b = some o → ((hp.push (PySem.W.kdv_tup us)).push (PySem.HandSPX.excO C hp.objs.size)).get? b = some o := fun b o e => Heap.get?_push_of_some _ (Heap.get?_push_of_some _ e)
  have hget : ((hp.push (PySem.W.kdv_tup us)).push (PySem.HandSPX.excO C hp.objs.size)).get? (hp.objs.size + 1) = some (PySem.HandSPX.excO C hp.objs.size) := by heap_get
  have I2 : Inv X pins σ (upd H1 (hp.objs.size + 1) (exo (hp.objs.size + 1) C none)) ⟨(hp.push (PySem.W.kdv_tup us)).push (PySem.HandSPX.excO C hp.objs.size), g, dr, tk, os⟩ :=
    I1.laid (t' := tk) (a := hp.objs.size + 1) (o := exo (hp.objs.size + 1) C none) (h' := (hp.push (PySem.W.kdv_tup us)).push (PySem.HandSPX.excO C hp.objs.size)) kk hsz (exo_ok hget)
  have r2 : Vals (V.ref (hp.objs.size + 1) :: (vs ++ dvs)) (Value.ref (hp.objs.size + 1) :: (us ++ ds)) := .cons rfl (r1.append hd)
  have hl : (Value.ref (hp.objs.size + 1) :: us ++ ds).length = ps.length := by
    have e := r2.length
    rw [F1.len _ _ _ _ hq] at e
    exact e.symm
  have hus : us.length ≤ sizeLine := by
    rw [← Paired.length r1, sizeLine_eq]
    omega
  refine wpAny_call (PySem.HandSPX.call_own F.excBase_ValueError (fun Y => PySem.HandSPX.refsVE_contains Y bm hbm) (I1.kIn _ _ hC) (PySem.W.looks_findIn I1.kIn iC) (fun self => PySem.W.bind_fn I1.kIn self tI) hus
    (codeAny_mono (F1.run _ X.stack _ _ ⟨Value.ref (hp.objs.size + 1) :: us, []⟩ (Value.ref (hp.objs.size + 1) :: (us ++ ds)) _ _ E0 (hr.make C us []) (I2.env0.make C us []) (hb _ (Value.ref (hp.objs.size + 1) :: us) I2.kIn hl) r2 hq) fun r s' hq' => ?_))
  cases r with
  | error er => exact False.elim hq'
  | ok fl =>
    cases fl with
    | ret u =>
      obtain ⟨v, H', I3, rv, ev, q3⟩ := I2.after hq'
      subst ev
      exact ⟨rv, ⟨V.ref (hp.objs.size + 1), H', I3, rfl, q3⟩⟩
    | next => exact False.elim hq'
    | brk => exact False.elim hq'
    | cont => exact False.elim hq'
theorem run_exv {pins : List (Addr × Obj)} {σ : L2.St} {H1 : Hp} {s1 : Shared} {Q : VK} {vs : List V} {us : List Value} (T : ExV X.K C) (iC : PySem.W.findIn X.K (.ref C) "__init__" = some (some (.ref fI))) (tI : PySem.W.typeIn X.K (.ref fI) = some (.type "function"))
    (F1 : FnOk X.prog X.w X.K X.mg X.base CX0 k fI fd ps sp) (hr : Room (k + 1) X.A) (hb : Binds X.K fd ps []) (I1 : Inv X pins σ H1 s1) (r1 : Vals vs us) (hz : vs.length ≤ 1000)
    (hq1 : ∀ a, H1 a = none → sp (.ref a :: vs) (upd H1 a (exo a C none)) (fun v H2 => v = .non ∧ Q (.ref a) H2) E0) : wpAny (model X.prog X.w) X.A (call (.ref C) us) (EP X pins σ Q) X.xe s1 :=
  run_exv' (ds := []) (dvs := []) .nil T iC tI F1 hr hb I1 r1 hz fun a ha => by
    rw [List.append_nil]
    exact hq1 a ha
def tExV (C : Addr) (sp : Sp) (ta : TA) : TE := fun σ H Q => ta σ H fun vs H1 => vs.length ≤ 1000 ∧ ∀ a, H1 a = none → sp (.ref a :: vs) (upd H1 a (exo a C none)) (fun v H2 => v = .non ∧ Q (.ref a) H2) E0
theorem pe_exv {x : Str} {p pos : Pos} {e : Expr} {es : List Expr} {ta : TA} (T : ExV X.K C) (iC : PySem.W.findIn X.K (.ref C) "__init__" = some (some (.ref fI))) (tI : PySem.W.typeIn X.K (.ref fI) = some (.type "function"))
    (F1 : FnOk X.prog X.w X.K X.mg X.base CX0 k fI fd ps sp) (hr : Room (k + 1) X.A) (hb : Binds X.K fd ps []) (hg : Gl X x) (hm : X.mg x = some (.ref C)) (ha : PA X (e :: es) ta) (hdb : (x == ("__debug__" : Str)) = false := by decide)
    (he : starEach (e :: es) X.env = (false, eval e X.env) :: starEach es X.env := by rfl) (hpl : (backTo pos (starEach es X.env)).any (·.1) = false := by rfl) : PE X (.Call (.Name x p) (e :: es) [] pos) (tExV C sp ta) := by
  refine ⟨fun pins s σ H Q I h => ?_⟩
  refine wpAny_Call_Name_kw (ld_glob I hg hm ?_ hdb)
  refine PySem.W.callWith_K (h₀ := X.base) I.ok.mod.kin T.ox.kC (thn (ha.run pos pins s σ H _ I h) fun us s1 ⟨vs, H1, I1, r1, hz, q1⟩ => ⟨I1.kIn, ?_⟩) he hpl
  exact run_exv T iC tI F1 hr hb I1 r1 hz q1
theorem pe_exv0 {x : Str} {p pos : Pos} (T : ExV X.K C) (iC : PySem.W.findIn X.K (.ref C) "__init__" = some (some (.ref fI))) (tI : PySem.W.typeIn X.K (.ref fI) = some (.type "function"))
    (F1 : FnOk X.prog X.w X.K X.mg X.base CX0 k fI fd ps sp) (hr : Room (k + 1) X.A) (hb : Binds X.K fd ps []) (hg : Gl X x) (hm : X.mg x = some (.ref C)) (hdb : (x == ("__debug__" : Str)) = false := by decide) : PE X (.Call (.Name x p) [] [] pos) (tExV C sp tNil) := by
  refine ⟨fun pins s σ H Q I h => ?_⟩
  refine wpAny_Call_Name_kw (ld_glob I hg hm ?_ hdb)
  exact PySem.W.callWith_K0 I.kIn T.ox.kC (run_exv (us := []) T iC tI F1 hr hb I .nil h.1 h.2)
/-- e.f of such an exception -/
def tExF (K : PySem.W.Frag) (n : Str) (te : TE) : TE := fun σ H Q => te σ H fun x H1 => ∃ (a C dd : Addr) (fs : List (Str × V)) (v : V), x = .ref a ∧ ExV K C ∧ PySem.W.findIn K (.ref C) n = some none ∧ H1 a = some (exo a C (some dd)) ∧ H1 dd = some (exd dd fs) ∧ fs.lookup n = some v ∧ Q v H1
theorem pe_exf {e : Expr} {te : TE} {pos : Pos} {n : Str} (he : PE X e te) (hb : attributeBase e n X.env (eval e X.env) = eval e X.env := by rfl) : PE X (.Attribute e n pos) (tExF X.K n te) := by
  refine ⟨fun pins s σ H Q I h => ?_⟩
  refine attr_of hb (thn (he.run pins s σ H _ I h) fun u s1 hh => ?_)
  obtain ⟨x, H1, I1, rx, a, C, dd, fs, v, ex, T, hno, ha, hd, l, q⟩ := hh
  subst ex
  obtain rfl : u = Value.ref a := rx
  obtain ⟨t1, ea⟩ := exo_at I1.hok ha
  obtain ⟨mA, hns, hr⟩ := exd_at I1.hok hd
  obtain ⟨od, ho, hl⟩ := lookIn_ns hns
  obtain ⟨u, hu, ru⟩ := RelO.some_of (v := v) (o := mA n) (by rw [← l]; exact hr n)
  have J : PySem.W.InstAt s1.heap a _ C (some od) := ⟨ea, rfl, rfl, ho⟩
  exact HandSPX.exc_get I1.kIn J T.ga T.gg T.ox.exC (PySem.W.findObj_own T.hd hno rfl (by rw [hl, hu])) (handed_of ru) ⟨v, H1, I1.tok _, ru, q⟩
end
end Law
namespace Law
open PySem L2
/-! ### data: ints, tuples of ints, moves -/
def tupD (l : List Int) : PyData := .tuple (l.map .int)
def frD (f : Fr) : PyData := .tuple [.int f.1, .int f.2]
abbrev Mv := Fr × List Int
def mvD (m : Mv) : PyData := .tuple [frD m.1, tupD m.2]
def mvsD (ms : List Mv) : PyData := .tuple (ms.map mvD)
theorem eqvAll_map {α : Type} [DecidableEq α] (g : α → PyData) (hg : ∀ a b, PyData.eqv (g a) (g b) = decide (a = b)) : ∀ xs ys : List α, PyData.eqvAll (xs.map g) (ys.map g) = decide (xs = ys)
  | [], [] => by simp [PyData.eqvAll]
  | [], _ :: _ => by simp [PyData.eqvAll]
  | _ :: _, [] => by simp [PyData.eqvAll]
  | x :: xs, y :: ys => by
    rw [List.map_cons, List.map_cons, PyData.eqvAll, hg, eqvAll_map g hg xs ys]
    by_cases h1 : x = y <;> by_cases h2 : xs = ys <;> simp [h1, h2]
theorem eqv_int (a b : Int) : PyData.eqv (.int a) (.int b) = decide (a = b) := by
  rw [PyData.eqv]
  rfl
theorem eqv_tupD (a b : List Int) : PyData.eqv (tupD a) (tupD b) = decide (a = b) := by
  unfold tupD
  rw [PyData.eqv]
  exact eqvAll_map PyData.int eqv_int a b
theorem eqv_frD (a b : Fr) : PyData.eqv (frD a) (frD b) = decide (a = b) := by
  obtain ⟨a1, a2⟩ := a
  obtain ⟨b1, b2⟩ := b
  unfold frD
  rw [PyData.eqv, PyData.eqvAll, PyData.eqvAll, PyData.eqvAll, eqv_int, eqv_int]
  by_cases h1 : a1 = b1 <;> by_cases h2 : a2 = b2 <;> simp [h1, h2]
theorem eqv_mvD (a b : Mv) : PyData.eqv (mvD a) (mvD b) = decide (a = b) := by
  obtain ⟨a1, a2⟩ := a
  obtain ⟨b1, b2⟩ := b
  unfold mvD
  rw [PyData.eqv, PyData.eqvAll, PyData.eqvAll, PyData.eqvAll, eqv_frD, eqv_tupD]
  by_cases h1 : a1 = b1 <;> by_cases h2 : a2 = b2 <;> simp [h1, h2]
theorem eqv_mvsD (a b : List Mv) : PyData.eqv (mvsD a) (mvsD b) = decide (a = b) := by
  unfold mvsD
  rw [PyData.eqv]
  exact eqvAll_map mvD eqv_mvD a b
theorem lay_all {α : Type} (g : α → PyData) (n : Nat) (hg : ∀ a, (g a).canLay0 = true ∧ (g a).depth ≤ n) : ∀ xs : List α, PyData.canLayAll0 (xs.map g) = true ∧ PyData.depthAll (xs.map g) ≤ n
  | [] => by simp [PyData.canLayAll0, PyData.depthAll]
  | x :: xs => by
    obtain ⟨h1, h2⟩ := hg x
    obtain ⟨h3, h4⟩ := lay_all g n hg xs
    rw [List.map_cons, PyData.canLayAll0, PyData.depthAll, h1, h3]
    exact ⟨rfl, Nat.max_le.mpr ⟨h2, h4⟩⟩
theorem lay_int (a : Int) : (PyData.int a).canLay0 = true ∧ (PyData.int a).depth ≤ 0 := by simp [PyData.canLay0, PyData.depth]
theorem lay_tupD (a : List Int) : (tupD a).canLay0 = true ∧ (tupD a).depth ≤ 1 := by
  have h := lay_all PyData.int 0 lay_int a
  unfold tupD
  rw [PyData.canLay0, PyData.depth]
  exact ⟨h.1, by omega⟩
theorem lay_frD (a : Fr) : (frD a).canLay0 = true ∧ (frD a).depth ≤ 1 := by simp [frD, PyData.canLay0, PyData.canLayAll0, PyData.depth, PyData.depthAll]
theorem lay_mvD (a : Mv) : (mvD a).canLay0 = true ∧ (mvD a).depth ≤ 2 := by
  have h1 := lay_frD a.1
  have h2 := lay_tupD a.2
  unfold mvD
  rw [PyData.canLay0, PyData.canLayAll0, PyData.canLayAll0, PyData.canLayAll0, PyData.depth, PyData.depthAll, PyData.depthAll, PyData.depthAll, h1.1, h2.1]
  exact ⟨rfl, by omega⟩
theorem lay_mvsD (a : List Mv) : (mvsD a).canLay0 = true ∧ (mvsD a).depth ≤ 3 := by
  have h := lay_all mvD 2 lay_mvD a
  unfold mvsD
  rw [PyData.canLay0, PyData.depth]
  exact ⟨h.1, by omega⟩
theorem shaped_of {d : PyData} {n : Nat} (h : d.canLay0 = true ∧ d.depth ≤ n) (hn : n ≤ 64) : SeqAt.shaped d = true := by
  unfold SeqAt.shaped
  rw [h.1, Bool.true_and, decide_eq_true (Nat.le_trans h.2 hn)]
theorem dp_ints {K : PySem.W.Frag} {H : Hp} : ∀ l : List Int, DpAll K H (l.map V.int) (l.map PyData.int)
  | [] => .nil
  | x :: l => .cons (.int x) (dp_ints l)
/-! ### moves and systems -/
def MvAt (K : PySem.W.Frag) (H : Hp) (v : V) (m : Mv) : Prop := ∃ a s l, v = .ref a ∧ SqT K H a [.ref s, .ref l] ∧ SqT K H s [.int m.1.1, .int m.1.2] ∧ SqT K H l (m.2.map V.int)
def MvsIn (K : PySem.W.Frag) (H : Hp) (vs : List V) (ms : List Mv) : Prop := vs.length = ms.length ∧ ∀ (i : Nat) (v : V), vs[i]? = some v → ∃ m, ms[i]? = some m ∧ MvAt K H v m
def MvsAt (K : PySem.W.Frag) (H : Hp) (a : Addr) (ms : List Mv) : Prop := ∃ vs, SqT K H a vs ∧ MvsIn K H vs ms
theorem MvAt.same {K : PySem.W.Frag} {H H' : Hp} {v : V} {m : Mv} (e : Same H H') (h : MvAt K H v m) : MvAt K H' v m := by
  obtain ⟨a, s, l, h1, h2, h3, h4⟩ := h
  exact ⟨a, s, l, h1, e.sqT h2, e.sqT h3, e.sqT h4⟩
theorem MvsIn.same {K : PySem.W.Frag} {H H' : Hp} {vs : List V} {ms : List Mv} (e : Same H H') (h : MvsIn K H vs ms) : MvsIn K H' vs ms := ⟨h.1, fun i v hv => by
  obtain ⟨m, h1, h2⟩ := h.2 i v hv
  exact ⟨m, h1, h2.same e⟩⟩
theorem MvsAt.same {K : PySem.W.Frag} {H H' : Hp} {a : Addr} {ms : List Mv} (e : Same H H') (h : MvsAt K H a ms) : MvsAt K H' a ms := by
  obtain ⟨vs, h1, h2⟩ := h
  exact ⟨vs, e.sqT h1, h2.same e⟩
theorem dp_mv {K : PySem.W.Frag} {H : Hp} {v : V} {m : Mv} (h : MvAt K H v m) : Dp K H v (mvD m) := by
  obtain ⟨a, s, l, rfl, h2, h3, h4⟩ := h
  exact .tup h2 (.cons (.tup h3 (.cons (.int _) (.cons (.int _) .nil))) (.cons (.tup h4 (dp_ints _)) .nil))
theorem dp_mvs {K : PySem.W.Frag} {H : Hp} : ∀ {vs : List V} {ms : List Mv}, MvsIn K H vs ms → DpAll K H vs (ms.map mvD)
  | [], [], _ => .nil
  | [], _ :: _, h => absurd h.1 (by simp)
  | _ :: _, [], h => absurd h.1 (by simp)
  | v :: vs, m :: ms, h => by
    obtain ⟨m', e, hm⟩ := h.2 0 v rfl
    cases e
    exact .cons (dp_mv hm) (dp_mvs ⟨by simpa using h.1, fun i x hx => h.2 (i + 1) x (by simpa using hx)⟩)
theorem dp_mvsAt {K : PySem.W.Frag} {H : Hp} {a : Addr} {ms : List Mv} (h : MvsAt K H a ms) : Dp K H (.ref a) (mvsD ms) := by
  obtain ⟨vs, h1, h2⟩ := h
  exact .tup h1 (dp_mvs h2)
def MvOk (many : Nat) (m : Mv) : Prop := FrOk m.1 ∧ 0 < m.1.1 ∧ Nat.gcd m.1.1.natAbs m.1.2.natAbs = 1 ∧ m.2.length = many ∧ ∀ x ∈ m.2, 0 ≤ x ∧ x < (many : Int)
abbrev OneOk (fs : List Fr) : Prop := (topsOf fs (lcmAll fs : Nat)).sum = ((lcmAll fs : Nat) : Int)
structure SysOk (many : Nat) (ms : List Mv) : Prop where
  m1 : 1 ≤ many
  m2 : many ≤ 12
  l1 : 1 ≤ ms.length
  l2 : ms.length ≤ 24
  mv : ∀ m ∈ ms, MvOk many m
  one : OneOk (ms.map (·.1))
theorem nMM : ¬ (("many" : Str) = "moves") := by decide +kernel
def sysF (many : Nat) (mv : Addr) : List (Str × V) := putF "moves" (.ref mv) (putF "many" (.int (many : Int)) [])
theorem sysF_eq (many : Nat) (mv : Addr) : sysF many mv = ([("many", V.int (many : Int)), ("moves", V.ref mv)] : List (Str × V)) := by
  show (if ("many" : Str) = "moves" then [(("many" : Str), V.ref mv)] else (("many" : Str), V.int (many : Int)) :: putF "moves" (V.ref mv) []) = _
  rw [if_neg nMM] <;> rfl
theorem sysF_many (many : Nat) (mv : Addr) : (sysF many mv).lookup ("many" : Str) = some (.int (many : Int)) := by
  unfold sysF
  rw [lookup_putF, if_neg nMM, lookup_putF, if_pos rfl]
theorem sysF_moves (many : Nat) (mv : Addr) : (sysF many mv).lookup ("moves" : Str) = some (.ref mv) := by
  unfold sysF
  rw [lookup_putF, if_pos rfl]
/-- a System stands at p -/
def SysAt (K : PySem.W.Frag) (C : Addr) (H : Hp) (p : Addr) (many : Nat) (ms : List Mv) : Prop := ∃ dx mv, H p = some (.ins C dx (sysF many mv)) ∧ MvsAt K H mv ms
theorem SysAt.same {K : PySem.W.Frag} {C : Addr} {H H' : Hp} {p : Addr} {many : Nat} {ms : List Mv} (e : Same H H') (h : SysAt K C H p many ms) : SysAt K C H' p many ms := by
  obtain ⟨dx, mv, h1, h2⟩ := h
  exact ⟨dx, mv, e _ _ h1, h2.same e⟩
/-- the class System, as the top has made it -/
structure SysT (K : PySem.W.Frag) (mg : Str → Option Value) (C : Addr) : Prop where
  cl : Cls K C
  nK : NoAttr K C "many"
  nM : NoAttr K C "moves"
  mgC : mg "System" = some (.ref C)
  ha : PySem.W.findIn K (.ref C) "__class__" = some (some (.builtin "object.__class__"))
  hn : PySem.W.specialIn K (.builtin "object.__class__") "__get__" = some (some (.builtin "getset_descriptor.__get__"))
  ht : PySem.W.takesIn K (.builtin "object.__class__") = some true
  hm : PySem.W.mroIn K C (.type "object") = some true
theorem SysAt.ty {K : PySem.W.Frag} {mg : Str → Option Value} {C : Addr} {H : Hp} {p : Addr} {many : Nat} {ms : List Mv} (T : SysT K mg C) (h : SysAt K C H p many ms) : TyX K H (.ref p) (.ref C) := by
  obtain ⟨dx, mv, h1, _⟩ := h
  exact .base (.ins h1 T.cl T.ha T.hn T.ht T.hm)
theorem kit_self {K : PySem.W.Frag} {v : Value} (h : (v == v) = true) : PySem.W.kitOne K v v = some true := by
  unfold PySem.W.kitOne
  rw [if_pos h]
theorem at0 (x y : V) : atI [x, y] (0 : Int) = some x := by
  unfold atI
  rw [show ixN [x, y].length (0 : Int) = some 0 from Evl.ixN_nat (n := 2) (j := 0) (by decide)]
  rfl
section
variable {P : Program} {w : World} {K : PySem.W.Frag} {mg : Str → Option Value} {base : Heap}
def spMove (K : PySem.W.Frag) : Sp := fun vs H Q _ => ∃ (many : Nat) (v : V) (m : Mv), vs = [.int (many : Int), v] ∧ many ≤ 12 ∧ MvAt K H v m ∧ MvOk many m ∧ ∀ H', Same H H' → Q (.bl true) H'
theorem scMove : FnScope ["many", "thing", "share", "leads"] ["many", "thing"] (defScope s_is_move) := ⟨rfl, rfl, rfl, by decide +kernel, rfl, by decide +kernel, by decide +kernel⟩
theorem ok_move {f fF fR : Addr} {fd fdF fdR : FuncData} (F : Fun K "is_move" "is_move" s_is_move f fd) (T : Nm2 mg) (G : Cl P w K mg base CX0 2 "is_fraction" fF fdF ["thing"] (spFrac K))
    (R : Cl P w K mg base CX0 3 "is_row_below" fR fdR ["bound", "thing"] (spRowB K)) : FnOk P w K mg base CX0 4 f fd ["many", "thing"] (spMove K) := by
  refine F.ok scMove (fun vs H Q E h => ?_) (fun cdv A outer s H vs Q E hr h => ?_)
  · obtain ⟨many, v, m, rfl, _⟩ := h
    rfl
  · obtain ⟨many, v, m, rfl, h12, ⟨a, t, l, rfl, hA, hT, hL⟩, ⟨⟨f1, f2, f3⟩, f4, f5, f6, f7⟩, k⟩ := h
    refine ⟨_, pss_cons (ps_if (PW.pt (pw_or (pt_not (pt_val (pe_callB call_isi (by rfl) T.isi (by decide +kernel) (pa_cons (pv 1) (pa_cons (pe_bltn (v := .ty "tuple") (u := .type "tuple") (by rfl) T.tuple (by decide +kernel) rfl) pa_nil)))))
        (pw_or1 (pt_cmpR op_ne (pe_callB call_len_seq (by rfl) T.len PySem.boot_len (pa_cons (pv 1) pa_nil)) pe_int (nomark _))))) (pss_one (ps_ret pe_bl)) pss_nil)
      (pss_cons (ps_asg (pv 1) (pg_tup (by rfl) (pgs_cons (pg_name (i := 2) scMove.nd rfl (Or.inl rfl)) (pgs_cons (pg_name (i := 3) scMove.nd rfl (Or.inl rfl)) pgs_nil))))
      (pss_one (ps_ret (pe_and (G.call (hr.mono (by decide)) (pa_cons (pv 2) pa_nil)) (pe_and (pe_cmpR op_gt (pe_ix ix_tup (pv 2) pe_int (fun _ _ => rfl)) pe_int (nomark _)) (pe_and (R.call hr (pa_cons (pv 0) (pa_cons (pv 3) pa_nil)))
        (pe_one (pe_cmpR op_eq (pe_callB call_len_seq (by rfl) T.len PySem.boot_len (pa_cons (pv 3) pa_nil)) (pv 0) (nomark _))))))))), ?_⟩
    refine ⟨_, rfl, _, _, _, _, _, rfl, .ty "tuple", tyx_tup hA, kit_tt, _, rfl, ?_⟩
    refine iteF ⟨_, rfl, a, _, rfl, .inr hA, rfl, _, rfl, iteF ?_⟩
    refine ⟨_, rfl, a, _, rfl, hA, rfl, _, _, rfl, _, _, rfl, rfl, ?_⟩
    refine ⟨_, rfl, t, _, _, rfl, hT, _, rfl, ?_⟩
    rw [decide_eq_true f1, f5]
    refine iteT ⟨_, rfl, t, _, _, _, rfl, rfl, hT, at0 _ _, _, _, rfl, rfl, _, rfl, ?_⟩
    rw [decide_eq_true f4]
    refine iteT ⟨_, rfl, _, rfl, _, l, _, rfl, hL, ?_, ?_, fun H' s1 => ⟨_, rfl, ?_⟩⟩
    · rw [List.length_map]
      omega
    · intro x hx
      obtain ⟨i, _, rfl⟩ := List.mem_map.mp hx
      exact ⟨i, rfl⟩
    · have hall : (m.2.map V.int).all (isW 0 ((many : Int) - 1)) = true := by
        rw [List.all_eq_true]
        intro x hx
        obtain ⟨i, hi, rfl⟩ := List.mem_map.mp hx
        obtain ⟨g1, g2⟩ := f7 i hi
        show (decide (0 ≤ i) && decide (i ≤ (many : Int) - 1)) = true
        rw [decide_eq_true g1, decide_eq_true (show i ≤ (many : Int) - 1 by omega)] <;> rfl
      rw [hall]
      refine iteT ⟨_, rfl, l, _, rfl, .inr (s1.sqT hL), _, rfl, rfl, ?_⟩
      rw [List.length_map, f6, decide_eq_true rfl]
      exact k H' s1
def spSInit (K : PySem.W.Frag) (C : Addr) : Sp := fun vs H Q _ => ∃ (p dx : Addr) (many : Nat) (mv : Addr) (ms : List Mv), vs = [.ref p, .int (many : Int), .ref mv] ∧ H p = some (.ins C dx []) ∧ MvsAt K H mv ms ∧ SysOk many ms ∧
  ∀ H', (∀ b o, b ≠ p → H b = some o → H' b = some o) → H' p = some (.ins C dx (sysF many mv)) → Q .non H'
theorem scSInit : FnScope ["self", "many", "moves", "number", "move", "share", "_"] ["self", "many", "moves"] (defScope s_System_init) := ⟨rfl, rfl, rfl, by decide +kernel, rfl, by decide +kernel, by decide +kernel⟩
theorem ok_sinit {f C fW fM fO : Addr} {fd fdW fdM fdO : FuncData} (F : Fun K "__init__" "System.__init__" s_System_init f fd) (T : Nm2 mg) (S : SysT K mg C) (W : Cl P w K mg base CX0 2 "is_within" fW fdW ["low", "high", "thing"] (spWithin K))
    (M : Cl P w K mg base CX0 4 "is_move" fM fdM ["many", "thing"] (spMove K)) (O : Cl P w K mg base CX0 2 "are_one_together" fO fdO ["fractions"] (spOne K)) : FnOk P w K mg base CX0 5 f fd ["self", "many", "moves"] (spSInit K C) := by
  refine F.ok scSInit (fun vs H Q E h => ?_) (fun cdv A outer s H vs Q E hr h => ?_)
  · obtain ⟨p, dx, many, mv, ms, rfl, _⟩ := h
    rfl
  · obtain ⟨p, dx, many, mv, ms, rfl, hp, ⟨vs, hV, hM⟩, ok, k⟩ := h
    have hvl : vs.length = ms.length := hM.1
    refine ⟨_, pss_cons (ps_if (pt_not (pt_val (W.call (hr.mono (by decide)) (pa_cons pe_int (pa_cons pe_int (pa_cons (pv 1) pa_nil)))))) pss_never pss_nil)
      (pss_cons (ps_if (PW.pt (pw_or (pt_not (pt_val (pe_callB call_isi (by rfl) T.isi (by decide +kernel) (pa_cons (pv 2) (pa_cons (pe_bltn (v := .ty "tuple") (u := .type "tuple") (by rfl) T.tuple (by decide +kernel) rfl) pa_nil)))))
        (pw_or1 (pt_not (pt_chain op_le op_le pe_int (pe_callB call_len_seq (by rfl) T.len PySem.boot_len (pa_cons (pv 2) pa_nil)) pe_int))))) pss_never pss_nil)
      (pss_cons (ps_for PassesOwn.never rfl (pi_enumT (by rfl) T.enum (pa_cons (pv 2) pa_nil)) (pg_tup (by rfl) (pgs_cons (pg_name (i := 3) scSInit.nd rfl (Or.inl rfl)) (pgs_cons (pg_name (i := 4) scSInit.nd rfl (Or.inl rfl)) pgs_nil)))
        (pss_one (ps_if (pt_not (pt_val (M.call hr (pa_cons (pv 1) (pa_cons (pv 4) pa_nil))))) pss_never pss_nil)))
      (pss_cons (ps_if (pt_not (pt_val (O.call (hr.mono (by decide)) (pa_cons (pe_lc (own := [("share", 5), ("_", 6)]) (g := gTup K 2 (gCons (gName 5) (gCons (gName 6) gNil))) (tt := tYes) rfl scSInit.nd (pi_tup (pv 2))
          (blkOk_by (own := [("share", 5), ("_", 6)]) (N := ["self", "many", "moves", "number", "move", "share", "_"]) (sc := defScope s_System_init) (by decide +kernel))
          (fun _ _ _ _ _ => pg_tup (by rfl) (pgs_cons (pg_name (i := 5) scSInit.nd rfl (Or.inl rfl)) (pgs_cons (pg_name (i := 6) scSInit.nd rfl (Or.inl rfl)) pgs_nil))) (fun _ _ _ _ _ => pts_nil) (fun _ _ _ _ _ => pv 5)) pa_nil)))) pss_never pss_nil)
      (pss_cons (ps_fld (pv 0) (pv 1) rfl) (pss_one (ps_fld (pv 0) (pv 2) rfl)))))), ?_⟩
    -- is_within(1, 12, many)
    refine ⟨_, rfl, 1, 12, _, rfl, .inl ⟨(many : Int), rfl, _, rfl, ?_⟩⟩
    rw [decide_eq_true (show (1 : Int) ≤ (many : Int) by have := ok.m1; omega), decide_eq_true (show (many : Int) ≤ 12 by have := ok.m2; omega)]
    -- isinstance(moves, tuple), 1 <= len(moves) <= 24
    refine iteF ⟨_, rfl, _, _, _, _, _, rfl, .ty "tuple", tyx_tup hV, kit_tt, _, rfl, iteF ⟨_, rfl, mv, _, rfl, .inr hV, _, _, rfl, rfl, _, rfl, ?_⟩⟩
    rw [decide_eq_true (show (1 : Int) ≤ ((vs.length : Nat) : Int) by have := ok.l1; omega)]
    refine iteT ⟨_, _, rfl, rfl, _, rfl, ?_⟩
    rw [decide_eq_true (show ((vs.length : Nat) : Int) ≤ 24 by have := ok.l2; omega)]
    refine iteF ?_
    -- for number, move in enumerate(moves)
    refine ⟨_, rfl, mv, vs, rfl, hV, for_it walk_enumT (fun i σ H' => Same H H' ∧ ∃ u v : Option V, σ = [some (.ref p), some (.int (many : Int)), some (.ref mv), u, v, none, none]) ⟨Same.refl H, none, none, rfl⟩ (fun i σ H' _ h => h.1.sqT hV) ?_ ?_⟩
    · rintro i x σ H1 H2 hi ⟨s1, u, v, rfl⟩ ⟨t, y, rfl, ht, rfl, hy⟩
      obtain ⟨m, hm, hA⟩ := hM.2 i y hy
      have s2 : Same H (upd H1 t (.tup [.int (i : Nat), y])) := fun b o e => Same.new ht b o (s1 b o e)
      refine ⟨t, _, rfl, SqT.of upd_same, rfl, _, _, rfl, _, _, rfl, rfl, ?_⟩
      refine ⟨_, rfl, _, rfl, many, _, m, rfl, ok.m2, hA.same s2, ok.mv m (List.mem_of_getElem? hm), fun H3 s3 => ⟨_, rfl, iteF ⟨s2.trans s3, _, _, rfl⟩⟩⟩
    · rintro σ H1 ⟨s1, u, v, rfl⟩
      -- the shares
      refine ⟨_, rfl, mv, rfl, ⟨_, s1.sqT hV⟩, fun D hD => ?_⟩
      refine lc_tup (K := K) (a := mv) (xs := vs) (fun i H' => Same H1 H' ∧ ∃ acc, H' D = some (.lst acc) ∧ FrsIn K H' acc ((ms.take i).map (·.1))) ⟨Same.new hD, [], upd_same, rfl, fun i v hv => by simp at hv⟩ (fun i H' _ h => (s1.trans h.1).sqT hV) ?_ ?_
      · rintro i x H2 hi ⟨s2, acc, h1, h2⟩
        obtain ⟨m, hm, a, t, l, rfl, hA, hT, hL⟩ := hM.2 i x hi
        have hil : i < ms.length := (List.getElem?_eq_some_iff.mp hm).1
        have s3 := s1.trans s2
        have hz : acc.length = i := by
          have z := h2.1
          rw [List.length_map, List.length_take] at z
          omega
        refine ⟨a, _, rfl, s3.sqT hA, rfl, _, _, rfl, _, _, rfl, rfl, ?_⟩
        have s4 : Same H1 (upd H2 D (.lst (acc ++ [.ref t]))) := s2.mut hD
        refine ⟨rfl, _, rfl, acc, h1, small1000 (by have := ok.l2; omega), s4, _, upd_same, ?_, fun j v hj => ?_⟩
        · rw [List.length_append, List.length_map, List.length_take]
          simp
          omega
        · by_cases hji : j < acc.length
          · rw [List.getElem?_append_left hji] at hj
            obtain ⟨f, g1, g2⟩ := h2.2 j v hj
            obtain ⟨q, g3, g4⟩ := g2
            refine ⟨f, ?_, q, g3, ?_⟩
            · rw [List.take_add_one, hm]
              simp only [Option.toList, List.map_append]
              rw [List.getElem?_append_left (by rw [List.length_map, List.length_take]; omega)]
              exact g1
            · rcases g4 with (z | ⟨o, z⟩) | z
              · refine .inl (.inl ?_)
                rw [upd_ne (ne_of z h1 (by intro y; cases y))]
                exact z
              · refine .inl (.inr ⟨o, ?_⟩)
                rw [upd_ne (ne_of z h1 (by intro y; cases y))]
                exact z
              · exact .inr z
          · have e : j = acc.length := by
              have z := (List.getElem?_eq_some_iff.mp hj).1
              rw [List.length_append] at z
              simp at z
              omega
            subst e
            rw [List.getElem?_append_right (Nat.le_refl _), Nat.sub_self] at hj
            have ev : V.ref t = v := Option.some.inj hj
            refine ⟨m.1, ?_, t, ev.symm, s4.sqT (s1.sqT hT)⟩
            rw [List.take_add_one, hm, hz]
            simp only [Option.toList, List.map_append]
            rw [List.getElem?_append_right (by rw [List.length_map, List.length_take]; omega), List.length_map, List.length_take, show i - min i ms.length = 0 by omega]
            rfl
      · rintro H2 ⟨s2, acc, h1, h2⟩
        rw [hvl, List.take_length] at h2
        refine ⟨D, ms.map (·.1), rfl, ⟨acc, SqL.of h1, h2⟩, by rw [List.length_map]; exact ok.l2, ?_, fun H3 s3 => ⟨_, rfl, ?_⟩⟩
        · intro f hf
          obtain ⟨m, hm, rfl⟩ := List.mem_map.mp hf
          exact (ok.mv m hm).1
        rw [decide_eq_true ok.one]
        have s4 := (s1.trans s2).trans s3
        refine iteF ⟨_, rfl, _, rfl, p, C, dx, [], rfl, s4 _ _ hp, S.cl, S.nK, (by show 0 < 1000; decide), _, rfl, _, rfl, p, C, dx, _, rfl, upd_same, S.cl, S.nM, (by show 1 < 1000; decide), ?_⟩
        rw [upd_upd]
        exact k _ (fun b o n e => by rw [upd_ne n]; exact s4 b o e) upd_same
def spSEq (K : PySem.W.Frag) (C : Addr) : Sp := fun vs H Q _ => ∃ (p q : Addr) (m1 m2 : Nat) (ms1 ms2 : List Mv), vs = [.ref p, .ref q] ∧ SysAt K C H p m1 ms1 ∧ SysAt K C H q m2 ms2 ∧ Q (.bl (decide (m1 = m2) && decide (ms1 = ms2))) H
theorem scSEq : FnScope ["self", "other"] ["self", "other"] (defScope s_System_eq) := ⟨rfl, rfl, rfl, by decide +kernel, rfl, by decide +kernel, by decide +kernel⟩
theorem ok_seq {f C : Addr} {fd : FuncData} (F : Fun K "__eq__" "System.__eq__" s_System_eq f fd) (T : Nm2 mg) (S : SysT K mg C) : FnOk P w K mg base CX0 1 f fd ["self", "other"] (spSEq K C) := by
  refine F.ok scSEq (fun vs H Q E h => ?_) (fun cdv A outer s H vs Q E hr h => ?_)
  · obtain ⟨p, q, m1, m2, ms1, ms2, rfl, _⟩ := h
    rfl
  · obtain ⟨p, q, m1, m2, ms1, ms2, rfl, h1, h2, k⟩ := h
    obtain ⟨d1, v1, a1, b1⟩ := id h1
    obtain ⟨d2, v2, a2, b2⟩ := id h2
    refine ⟨_, pss_one (ps_ret (pe_and (pe_callB call_isi (by rfl) T.isi (by decide +kernel) (pa_cons (pv 1) (pa_cons (pe_glob (v := .ref C) (u := .ref C) rfl S.mgC rfl) pa_nil)))
      (pe_and (pe_cmpR op_eq (pe_fld (pv 0) rfl) (pe_fld (pv 1) rfl) (nomark _)) (pe_one (pe_cmpR (op_eqD hr.units) (pe_fld (pv 0) rfl) (pe_fld (pv 1) rfl) (nomark _)))))), ?_⟩
    refine ⟨_, rfl, _, _, _, _, _, rfl, .own C, h2.ty S, kit_self (by simp), _, rfl, iteT ?_⟩
    refine ⟨_, rfl, p, C, d1, _, _, rfl, a1, S.cl, S.nK, sysF_many _ _, _, rfl, q, C, d2, _, _, rfl, a2, S.cl, S.nK, sysF_many _ _, rfl, _, rfl, ?_⟩
    have e1 : decide (V.int (m1 : Int) = V.int (m2 : Int)) = decide (m1 = m2) := by
      by_cases e : m1 = m2
      · subst e
        rw [decide_eq_true rfl, decide_eq_true rfl]
      · rw [decide_eq_false e, decide_eq_false (fun z => e (by have := V.int.inj z; omega))]
    rw [e1]
    refine ite2 (fun h => ?_) (fun h => ?_)
    · refine ⟨_, rfl, p, C, d1, _, _, rfl, a1, S.cl, S.nM, sysF_moves _ _, _, rfl, q, C, d2, _, _, rfl, a2, S.cl, S.nM, sysF_moves _ _, mvsD ms1, mvsD ms2, dp_mvsAt b1, dp_mvsAt b2, shaped_of (lay_mvsD _) (by decide), shaped_of (lay_mvsD _) (by decide), ?_⟩
      rw [eqv_mvsD]
      rw [h, Bool.true_and] at k
      exact k
    · rw [Bool.not_eq_true] at h
      rw [h, Bool.false_and] at k
      exact k
end
end Law
namespace Law
open PySem L2
/-! ### the errors: made, held -/
def fldE (j : Nat) : Str := if j = 0 ∨ j = 3 then "part" else if j = 1 ∨ j = 2 then "number" else if j = 4 then "most" else "name"
def spIni (C : Addr) (f : Str) : Sp := fun vs H Q _ => ∃ (a : Addr) (v : V), vs = [.ref a, v] ∧ H a = some (exo a C none) ∧ ∀ dx, H dx = none → dx ≠ a → Q .non (upd (upd H dx (exd dx [(f, v)])) a (exo a C (some dx)))
def spPas : Sp := fun vs H Q _ => ∃ a : Addr, vs = [.ref a] ∧ Q .non H
structure Er1 (P : Program) (w : World) (K : PySem.W.Frag) (mg : Str → Option Value) (base : Heap) (x : Str) (C : Addr) (f : Str) : Prop where
  T : ExV K C
  m : mg x = some (.ref C)
  no : PySem.W.findIn K (.ref C) f = some none
  fn : ∃ fI fd ps, PySem.W.findIn K (.ref C) "__init__" = some (some (.ref fI)) ∧ PySem.W.typeIn K (.ref fI) = some (.type "function") ∧ FnOk P w K mg base CX0 1 fI fd ps (spIni C f) ∧ Binds K fd ps []
structure Er0 (P : Program) (w : World) (K : PySem.W.Frag) (mg : Str → Option Value) (base : Heap) (x : Str) (C : Addr) : Prop where
  T : ExV K C
  m : mg x = some (.ref C)
  fn : ∃ fI fd ps, PySem.W.findIn K (.ref C) "__init__" = some (some (.ref fI)) ∧ PySem.W.typeIn K (.ref fI) = some (.type "function") ∧ FnOk P w K mg base CX0 1 fI fd ps spPas ∧ Binds K fd ps []
theorem Er1.pe {X : Cx} {x f : Str} {C : Addr} {p pos : Pos} {e : Expr} {es : List Expr} {ta : TA} (r : Er1 X.prog X.w X.K X.mg X.base x C f) (hr : Room 2 X.A) (ha : PA X (e :: es) ta) (hg : Gl X x := by rfl) (hdb : (x == ("__debug__" : Str)) = false := by decide)
    (he : starEach (e :: es) X.env = (false, eval e X.env) :: starEach es X.env := by rfl) (hpl : (backTo pos (starEach es X.env)).any (·.1) = false := by rfl) : PE X (.Call (.Name x p) (e :: es) [] pos) (tExV C (spIni C f) ta) := by
  obtain ⟨fI, fd, ps, h1, h2, h3, h4⟩ := r.fn
  exact pe_exv r.T h1 h2 h3 hr h4 hg r.m ha hdb he hpl
theorem Er0.pe {X : Cx} {x : Str} {C : Addr} {p pos : Pos} (r : Er0 X.prog X.w X.K X.mg X.base x C) (hr : Room 2 X.A) (hg : Gl X x := by rfl) (hdb : (x == ("__debug__" : Str)) = false := by decide) : PE X (.Call (.Name x p) [] [] pos) (tExV C spPas tNil) := by
  obtain ⟨fI, fd, ps, h1, h2, h3, h4⟩ := r.fn
  exact pe_exv0 r.T h1 h2 h3 hr h4 hg r.m hdb
/-- the j-th error stands at v, made with the j-th of ts if it has a field -/
def ErrAt (C : Nat → Addr) (ts : List V) (H : Hp) (j : Nat) (v : V) : Prop := ∃ a d, v = .ref a ∧ ExAt H a (C j) d ∧ ∀ t, ts[j]? = some t → ∃ dd, d = some dd ∧ H dd = some (exd dd [(fldE j, t)])
theorem ErrAt.same {C : Nat → Addr} {ts : List V} {H H' : Hp} {j : Nat} {v : V} (s : Same H H') (h : ErrAt C ts H j v) : ErrAt C ts H' j v := by
  obtain ⟨a, d, h1, h2, h3⟩ := h
  exact ⟨a, d, h1, h2.same s, fun t ht => by
    obtain ⟨dd, e, z⟩ := h3 t ht
    exact ⟨dd, e, s _ _ z⟩⟩
theorem exo_lst {e C : Addr} {d : Option Addr} {xs : List V} : exo e C d ≠ .lst xs := fun z => by
  have z' : HO.ext _ = HO.lst xs := z
  cases z'
theorem exd_lst {e : Addr} {fs : List (Str × V)} {xs : List V} : exd e fs ≠ .lst xs := fun z => by
  have z' : HO.ext _ = HO.lst xs := z
  cases z'
theorem ErrAt.lst {C : Nat → Addr} {ts : List V} {H : Hp} {j : Nat} {v : V} {l : Addr} {xs : List V} {o : HO} (hl : H l = some (.lst xs)) (h : ErrAt C ts H j v) : ErrAt C ts (upd H l o) j v := by
  obtain ⟨a, d, h1, ⟨h2, h2'⟩, h3⟩ := h
  refine ⟨a, d, h1, ⟨by rw [upd_ne (ne_of h2 hl exo_lst)]; exact h2, ?_⟩, fun t ht => ?_⟩
  · rcases h2' with z | ⟨dd, fs, z1, z2⟩
    · exact .inl z
    · exact .inr ⟨dd, fs, z1, by rw [upd_ne (ne_of z2 hl exd_lst)]; exact z2⟩
  · obtain ⟨dd, e, z⟩ := h3 t ht
    exact ⟨dd, e, by rw [upd_ne (ne_of z hl exd_lst)]; exact z⟩
def Errs (C : Nat → Addr) (ts : List V) (H : Hp) : Nat → List V → Prop
  | _, [] => True
  | n, v :: vs => ErrAt C ts H n v ∧ Errs C ts H (n + 1) vs
theorem Errs.imp {C : Nat → Addr} {ts : List V} {H H' : Hp} (f : ∀ j v, ErrAt C ts H j v → ErrAt C ts H' j v) : ∀ {vs : List V} {n : Nat}, Errs C ts H n vs → Errs C ts H' n vs
  | [], _, _ => trivial
  | _ :: _, _, h => ⟨f _ _ h.1, Errs.imp f h.2⟩
theorem Errs.app {C : Nat → Addr} {ts : List V} {H : Hp} : ∀ {es vs : List V} {n : Nat}, Errs C ts H n es → Errs C ts H (n + es.length) vs → Errs C ts H n (es ++ vs)
  | [], _, _, _, h => h
  | e :: es, vs, n, h1, h2 => ⟨h1.1, Errs.app h1.2 (by
      have e : n + 1 + es.length = n + (e :: es).length := by rw [List.length_cons]; omega
      rw [e]
      exact h2)⟩
theorem Errs.get {C : Nat → Addr} {ts : List V} {H : Hp} : ∀ {es : List V} {n j : Nat} {v : V}, Errs C ts H n es → es[j]? = some v → ErrAt C ts H (n + j) v
  | [], _, _, _, _, h => by simp at h
  | e :: es, n, 0, v, h, hv => by
    have z : e = v := by simpa using hv
    rw [← z]
    exact h.1
  | e :: es, n, j + 1, v, h, hv => by
    have z := Errs.get (j := j) h.2 (by simpa using hv)
    rw [show n + (j + 1) = n + 1 + j by omega]
    exact z
theorem ex1 {C : Nat → Addr} {ts : List V} {j : Nat} {t : V} {H1 : Hp} {Q : Addr → Hp → Prop} (ht : ts[j]? = some t) (k : ∀ a H2, Same H1 H2 → ErrAt C ts H2 j (.ref a) → Q a H2) :
    [t].length ≤ 1000 ∧ ∀ a, H1 a = none → spIni (C j) (fldE j) (.ref a :: [t]) (upd H1 a (exo a (C j) none)) (fun v H2 => v = .non ∧ Q a H2) E0 := by
  refine ⟨by simp, fun a ha => ⟨a, t, rfl, upd_same, fun dx hd ne => ⟨rfl, k a _ (fun b o e => ?_) ⟨a, some dx, rfl, ⟨upd_same, .inr ⟨dx, _, rfl, by rw [upd_ne ne, upd_same]⟩⟩, fun t' ht' => ?_⟩⟩⟩⟩
  · have z : upd H1 a (exo a (C j) none) b = some o := Same.new ha b o e
    rw [upd_ne (ne_of_none e ha), upd_ne (ne_of_none z hd)]
    exact z
  · rw [ht] at ht'
    cases ht'
    exact ⟨dx, rfl, by rw [upd_ne ne, upd_same]⟩
theorem ex0 {C : Nat → Addr} {ts : List V} {j : Nat} {H1 : Hp} {Q : Addr → Hp → Prop} (ht : ts[j]? = none) (k : ∀ a H2, Same H1 H2 → ErrAt C ts H2 j (.ref a) → Q a H2) :
    ([] : List V).length ≤ 1000 ∧ ∀ a, H1 a = none → spPas (.ref a :: []) (upd H1 a (exo a (C j) none)) (fun v H2 => v = .non ∧ Q a H2) E0 := by
  refine ⟨by simp, fun a ha => ⟨a, rfl, rfl, k a _ (Same.new ha) ⟨a, none, rfl, ⟨upd_same, .inl rfl⟩, fun t' ht' => ?_⟩⟩⟩
  rw [ht] at ht'
  cases ht'
section
variable {P : Program} {w : World} {K : PySem.W.Frag} {mg : Str → Option Value} {base : Heap}
/-! the constructors' own __init__s -/
theorem scE0 : FnScope ["self", "part"] ["self", "part"] (defScope s_BadSystem_init) := ⟨rfl, rfl, rfl, by decide +kernel, rfl, by decide +kernel, by decide +kernel⟩
theorem ok_E0 {f C : Addr} {fd : FuncData} (F : Fun K "__init__" "BadSystem.__init__" s_BadSystem_init f fd) (O : OexC K C) (no : PySem.W.findIn K (.ref C) "part" = some none) : FnOk P w K mg base CX0 1 f fd ["self", "part"] (spIni C "part") := by
  refine F.ok scE0 (fun vs H Q E h => ?_) (fun cdv A outer s H vs Q E hr h => ?_)
  · obtain ⟨a, v, rfl, _⟩ := h
    rfl
  · obtain ⟨a, v, rfl, ha, k⟩ := h
    refine ⟨_, pss_one (ps_ost (pv 0) (pv 1)), ?_⟩
    exact ⟨_, rfl, _, rfl, a, C, rfl, O, no, .inl ⟨ha, fun dx hd ne => k dx hd ne⟩⟩
theorem scE1 : FnScope ["self", "number"] ["self", "number"] (defScope s_BadLine_init) := ⟨rfl, rfl, rfl, by decide +kernel, rfl, by decide +kernel, by decide +kernel⟩
theorem ok_E1 {f C : Addr} {fd : FuncData} (F : Fun K "__init__" "BadLine.__init__" s_BadLine_init f fd) (O : OexC K C) (no : PySem.W.findIn K (.ref C) "number" = some none) : FnOk P w K mg base CX0 1 f fd ["self", "number"] (spIni C "number") := by
  refine F.ok scE1 (fun vs H Q E h => ?_) (fun cdv A outer s H vs Q E hr h => ?_)
  · obtain ⟨a, v, rfl, _⟩ := h
    rfl
  · obtain ⟨a, v, rfl, ha, k⟩ := h
    refine ⟨_, pss_one (ps_ost (pv 0) (pv 1)), ?_⟩
    exact ⟨_, rfl, _, rfl, a, C, rfl, O, no, .inl ⟨ha, fun dx hd ne => k dx hd ne⟩⟩
theorem scE2 : FnScope ["self", "number"] ["self", "number"] (defScope s_BadCoin_init) := ⟨rfl, rfl, rfl, by decide +kernel, rfl, by decide +kernel, by decide +kernel⟩
theorem ok_E2 {f C : Addr} {fd : FuncData} (F : Fun K "__init__" "BadCoin.__init__" s_BadCoin_init f fd) (O : OexC K C) (no : PySem.W.findIn K (.ref C) "number" = some none) : FnOk P w K mg base CX0 1 f fd ["self", "number"] (spIni C "number") := by
  refine F.ok scE2 (fun vs H Q E h => ?_) (fun cdv A outer s H vs Q E hr h => ?_)
  · obtain ⟨a, v, rfl, _⟩ := h
    rfl
  · obtain ⟨a, v, rfl, ha, k⟩ := h
    refine ⟨_, pss_one (ps_ost (pv 0) (pv 1)), ?_⟩
    exact ⟨_, rfl, _, rfl, a, C, rfl, O, no, .inl ⟨ha, fun dx hd ne => k dx hd ne⟩⟩
theorem scE3 : FnScope ["self", "part"] ["self", "part"] (defScope s_BadModel_init) := ⟨rfl, rfl, rfl, by decide +kernel, rfl, by decide +kernel, by decide +kernel⟩
theorem ok_E3 {f C : Addr} {fd : FuncData} (F : Fun K "__init__" "BadModel.__init__" s_BadModel_init f fd) (O : OexC K C) (no : PySem.W.findIn K (.ref C) "part" = some none) : FnOk P w K mg base CX0 1 f fd ["self", "part"] (spIni C "part") := by
  refine F.ok scE3 (fun vs H Q E h => ?_) (fun cdv A outer s H vs Q E hr h => ?_)
  · obtain ⟨a, v, rfl, _⟩ := h
    rfl
  · obtain ⟨a, v, rfl, ha, k⟩ := h
    refine ⟨_, pss_one (ps_ost (pv 0) (pv 1)), ?_⟩
    exact ⟨_, rfl, _, rfl, a, C, rfl, O, no, .inl ⟨ha, fun dx hd ne => k dx hd ne⟩⟩
theorem scE4 : FnScope ["self", "most"] ["self", "most"] (defScope s_TooMany_init) := ⟨rfl, rfl, rfl, by decide +kernel, rfl, by decide +kernel, by decide +kernel⟩
theorem ok_E4 {f C : Addr} {fd : FuncData} (F : Fun K "__init__" "TooMany.__init__" s_TooMany_init f fd) (O : OexC K C) (no : PySem.W.findIn K (.ref C) "most" = some none) : FnOk P w K mg base CX0 1 f fd ["self", "most"] (spIni C "most") := by
  refine F.ok scE4 (fun vs H Q E h => ?_) (fun cdv A outer s H vs Q E hr h => ?_)
  · obtain ⟨a, v, rfl, _⟩ := h
    rfl
  · obtain ⟨a, v, rfl, ha, k⟩ := h
    refine ⟨_, pss_one (ps_ost (pv 0) (pv 1)), ?_⟩
    exact ⟨_, rfl, _, rfl, a, C, rfl, O, no, .inl ⟨ha, fun dx hd ne => k dx hd ne⟩⟩
theorem scE5 : FnScope ["self", "name"] ["self", "name"] (defScope s_NoName_init) := ⟨rfl, rfl, rfl, by decide +kernel, rfl, by decide +kernel, by decide +kernel⟩
theorem ok_E5 {f C : Addr} {fd : FuncData} (F : Fun K "__init__" "NoName.__init__" s_NoName_init f fd) (O : OexC K C) (no : PySem.W.findIn K (.ref C) "name" = some none) : FnOk P w K mg base CX0 1 f fd ["self", "name"] (spIni C "name") := by
  refine F.ok scE5 (fun vs H Q E h => ?_) (fun cdv A outer s H vs Q E hr h => ?_)
  · obtain ⟨a, v, rfl, _⟩ := h
    rfl
  · obtain ⟨a, v, rfl, ha, k⟩ := h
    refine ⟨_, pss_one (ps_ost (pv 0) (pv 1)), ?_⟩
    exact ⟨_, rfl, _, rfl, a, C, rfl, O, no, .inl ⟨ha, fun dx hd ne => k dx hd ne⟩⟩
theorem scE6 : FnScope ["self"] ["self"] (defScope s_NoRow_init) := ⟨rfl, rfl, rfl, by decide +kernel, rfl, by decide +kernel, by decide +kernel⟩
theorem ok_E6 {f : Addr} {fd : FuncData} (F : Fun K "__init__" "NoRow.__init__" s_NoRow_init f fd) : FnOk P w K mg base CX0 1 f fd ["self"] spPas := by
  refine F.ok scE6 (fun vs H Q E h => ?_) (fun cdv A outer s H vs Q E hr h => ?_)
  · obtain ⟨a, rfl, _⟩ := h
    rfl
  · obtain ⟨a, rfl, k⟩ := h
    exact ⟨_, pss_one ps_pass, k⟩
theorem scE7 : FnScope ["self"] ["self"] (defScope s_NoState_init) := ⟨rfl, rfl, rfl, by decide +kernel, rfl, by decide +kernel, by decide +kernel⟩
theorem ok_E7 {f : Addr} {fd : FuncData} (F : Fun K "__init__" "NoState.__init__" s_NoState_init f fd) : FnOk P w K mg base CX0 1 f fd ["self"] spPas := by
  refine F.ok scE7 (fun vs H Q E h => ?_) (fun cdv A outer s H vs Q E hr h => ?_)
  · obtain ⟨a, rfl, _⟩ := h
    rfl
  · obtain ⟨a, rfl, k⟩ := h
    exact ⟨_, pss_one ps_pass, k⟩
theorem scE8 : FnScope ["self"] ["self"] (defScope s_NoSpread_init) := ⟨rfl, rfl, rfl, by decide +kernel, rfl, by decide +kernel, by decide +kernel⟩
theorem ok_E8 {f : Addr} {fd : FuncData} (F : Fun K "__init__" "NoSpread.__init__" s_NoSpread_init f fd) : FnOk P w K mg base CX0 1 f fd ["self"] spPas := by
  refine F.ok scE8 (fun vs H Q E h => ?_) (fun cdv A outer s H vs Q E hr h => ?_)
  · obtain ⟨a, rfl, _⟩ := h
    rfl
  · obtain ⟨a, rfl, k⟩ := h
    exact ⟨_, pss_one ps_pass, k⟩
theorem scE9 : FnScope ["self"] ["self"] (defScope s_NoNumber_init) := ⟨rfl, rfl, rfl, by decide +kernel, rfl, by decide +kernel, by decide +kernel⟩
theorem ok_E9 {f : Addr} {fd : FuncData} (F : Fun K "__init__" "NoNumber.__init__" s_NoNumber_init f fd) : FnOk P w K mg base CX0 1 f fd ["self"] spPas := by
  refine F.ok scE9 (fun vs H Q E h => ?_) (fun cdv A outer s H vs Q E hr h => ?_)
  · obtain ⟨a, rfl, _⟩ := h
    rfl
  · obtain ⟨a, rfl, k⟩ := h
    exact ⟨_, pss_one ps_pass, k⟩
theorem scE10 : FnScope ["self"] ["self"] (defScope s_NoLot_init) := ⟨rfl, rfl, rfl, by decide +kernel, rfl, by decide +kernel, by decide +kernel⟩
theorem ok_E10 {f : Addr} {fd : FuncData} (F : Fun K "__init__" "NoLot.__init__" s_NoLot_init f fd) : FnOk P w K mg base CX0 1 f fd ["self"] spPas := by
  refine F.ok scE10 (fun vs H Q E h => ?_) (fun cdv A outer s H vs Q E hr h => ?_)
  · obtain ⟨a, rfl, _⟩ := h
    rfl
  · obtain ⟨a, rfl, k⟩ := h
    exact ⟨_, pss_one ps_pass, k⟩
theorem scE11 : FnScope ["self"] ["self"] (defScope s_NotOne_init) := ⟨rfl, rfl, rfl, by decide +kernel, rfl, by decide +kernel, by decide +kernel⟩
theorem ok_E11 {f : Addr} {fd : FuncData} (F : Fun K "__init__" "NotOne.__init__" s_NotOne_init f fd) : FnOk P w K mg base CX0 1 f fd ["self"] spPas := by
  refine F.ok scE11 (fun vs H Q E h => ?_) (fun cdv A outer s H vs Q E hr h => ?_)
  · obtain ⟨a, rfl, _⟩ := h
    rfl
  · obtain ⟨a, rfl, k⟩ := h
    exact ⟨_, pss_one ps_pass, k⟩
theorem scE12 : FnScope ["self"] ["self"] (defScope s_NoShare_init) := ⟨rfl, rfl, rfl, by decide +kernel, rfl, by decide +kernel, by decide +kernel⟩
theorem ok_E12 {f : Addr} {fd : FuncData} (F : Fun K "__init__" "NoShare.__init__" s_NoShare_init f fd) : FnOk P w K mg base CX0 1 f fd ["self"] spPas := by
  refine F.ok scE12 (fun vs H Q E h => ?_) (fun cdv A outer s H vs Q E hr h => ?_)
  · obtain ⟨a, rfl, _⟩ := h
    rfl
  · obtain ⟨a, rfl, k⟩ := h
    exact ⟨_, pss_one ps_pass, k⟩
theorem scE13 : FnScope ["self"] ["self"] (defScope s_NothingTold_init) := ⟨rfl, rfl, rfl, by decide +kernel, rfl, by decide +kernel, by decide +kernel⟩
theorem ok_E13 {f : Addr} {fd : FuncData} (F : Fun K "__init__" "NothingTold.__init__" s_NothingTold_init f fd) : FnOk P w K mg base CX0 1 f fd ["self"] spPas := by
  refine F.ok scE13 (fun vs H Q E h => ?_) (fun cdv A outer s H vs Q E hr h => ?_)
  · obtain ⟨a, rfl, _⟩ := h
    rfl
  · obtain ⟨a, rfl, k⟩ := h
    exact ⟨_, pss_one ps_pass, k⟩
theorem scE14 : FnScope ["self"] ["self"] (defScope s_NoCoins_init) := ⟨rfl, rfl, rfl, by decide +kernel, rfl, by decide +kernel, by decide +kernel⟩
theorem ok_E14 {f : Addr} {fd : FuncData} (F : Fun K "__init__" "NoCoins.__init__" s_NoCoins_init f fd) : FnOk P w K mg base CX0 1 f fd ["self"] spPas := by
  refine F.ok scE14 (fun vs H Q E h => ?_) (fun cdv A outer s H vs Q E hr h => ?_)
  · obtain ⟨a, rfl, _⟩ := h
    rfl
  · obtain ⟨a, rfl, k⟩ := h
    exact ⟨_, pss_one ps_pass, k⟩
theorem scE15 : FnScope ["self"] ["self"] (defScope s_NoPlan_init) := ⟨rfl, rfl, rfl, by decide +kernel, rfl, by decide +kernel, by decide +kernel⟩
theorem ok_E15 {f : Addr} {fd : FuncData} (F : Fun K "__init__" "NoPlan.__init__" s_NoPlan_init f fd) : FnOk P w K mg base CX0 1 f fd ["self"] spPas := by
  refine F.ok scE15 (fun vs H Q E h => ?_) (fun cdv A outer s H vs Q E hr h => ?_)
  · obtain ⟨a, rfl, _⟩ := h
    rfl
  · obtain ⟨a, rfl, k⟩ := h
    exact ⟨_, pss_one ps_pass, k⟩
theorem scE16 : FnScope ["self"] ["self"] (defScope s_NoMove_init) := ⟨rfl, rfl, rfl, by decide +kernel, rfl, by decide +kernel, by decide +kernel⟩
theorem ok_E16 {f : Addr} {fd : FuncData} (F : Fun K "__init__" "NoMove.__init__" s_NoMove_init f fd) : FnOk P w K mg base CX0 1 f fd ["self"] spPas := by
  refine F.ok scE16 (fun vs H Q E h => ?_) (fun cdv A outer s H vs Q E hr h => ?_)
  · obtain ⟨a, rfl, _⟩ := h
    rfl
  · obtain ⟨a, rfl, k⟩ := h
    exact ⟨_, pss_one ps_pass, k⟩
theorem scE17 : FnScope ["self"] ["self"] (defScope s_NoLength_init) := ⟨rfl, rfl, rfl, by decide +kernel, rfl, by decide +kernel, by decide +kernel⟩
theorem ok_E17 {f : Addr} {fd : FuncData} (F : Fun K "__init__" "NoLength.__init__" s_NoLength_init f fd) : FnOk P w K mg base CX0 1 f fd ["self"] spPas := by
  refine F.ok scE17 (fun vs H Q E h => ?_) (fun cdv A outer s H vs Q E hr h => ?_)
  · obtain ⟨a, rfl, _⟩ := h
    rfl
  · obtain ⟨a, rfl, k⟩ := h
    exact ⟨_, pss_one ps_pass, k⟩
theorem scE18 : FnScope ["self"] ["self"] (defScope s_NotMerging_init) := ⟨rfl, rfl, rfl, by decide +kernel, rfl, by decide +kernel, by decide +kernel⟩
theorem ok_E18 {f : Addr} {fd : FuncData} (F : Fun K "__init__" "NotMerging.__init__" s_NotMerging_init f fd) : FnOk P w K mg base CX0 1 f fd ["self"] spPas := by
  refine F.ok scE18 (fun vs H Q E h => ?_) (fun cdv A outer s H vs Q E hr h => ?_)
  · obtain ⟨a, rfl, _⟩ := h
    rfl
  · obtain ⟨a, rfl, k⟩ := h
    exact ⟨_, pss_one ps_pass, k⟩
theorem scE19 : FnScope ["self"] ["self"] (defScope s_NoBits_init) := ⟨rfl, rfl, rfl, by decide +kernel, rfl, by decide +kernel, by decide +kernel⟩
theorem ok_E19 {f : Addr} {fd : FuncData} (F : Fun K "__init__" "NoBits.__init__" s_NoBits_init f fd) : FnOk P w K mg base CX0 1 f fd ["self"] spPas := by
  refine F.ok scE19 (fun vs H Q E h => ?_) (fun cdv A outer s H vs Q E hr h => ?_)
  · obtain ⟨a, rfl, _⟩ := h
    rfl
  · obtain ⟨a, rfl, k⟩ := h
    exact ⟨_, pss_one ps_pass, k⟩
theorem scE20 : FnScope ["self"] ["self"] (defScope s_NoOrder_init) := ⟨rfl, rfl, rfl, by decide +kernel, rfl, by decide +kernel, by decide +kernel⟩
theorem ok_E20 {f : Addr} {fd : FuncData} (F : Fun K "__init__" "NoOrder.__init__" s_NoOrder_init f fd) : FnOk P w K mg base CX0 1 f fd ["self"] spPas := by
  refine F.ok scE20 (fun vs H Q E h => ?_) (fun cdv A outer s H vs Q E hr h => ?_)
  · obtain ⟨a, rfl, _⟩ := h
    rfl
  · obtain ⟨a, rfl, k⟩ := h
    exact ⟨_, pss_one ps_pass, k⟩
theorem scE21 : FnScope ["self"] ["self"] (defScope s_NotKept_init) := ⟨rfl, rfl, rfl, by decide +kernel, rfl, by decide +kernel, by decide +kernel⟩
theorem ok_E21 {f : Addr} {fd : FuncData} (F : Fun K "__init__" "NotKept.__init__" s_NotKept_init f fd) : FnOk P w K mg base CX0 1 f fd ["self"] spPas := by
  refine F.ok scE21 (fun vs H Q E h => ?_) (fun cdv A outer s H vs Q E hr h => ?_)
  · obtain ⟨a, rfl, _⟩ := h
    rfl
  · obtain ⟨a, rfl, k⟩ := h
    exact ⟨_, pss_one ps_pass, k⟩
theorem scE22 : FnScope ["self"] ["self"] (defScope s_NoEnds_init) := ⟨rfl, rfl, rfl, by decide +kernel, rfl, by decide +kernel, by decide +kernel⟩
theorem ok_E22 {f : Addr} {fd : FuncData} (F : Fun K "__init__" "NoEnds.__init__" s_NoEnds_init f fd) : FnOk P w K mg base CX0 1 f fd ["self"] spPas := by
  refine F.ok scE22 (fun vs H Q E h => ?_) (fun cdv A outer s H vs Q E hr h => ?_)
  · obtain ⟨a, rfl, _⟩ := h
    rfl
  · obtain ⟨a, rfl, k⟩ := h
    exact ⟨_, pss_one ps_pass, k⟩
theorem scE23 : FnScope ["self"] ["self"] (defScope s_NoPicture_init) := ⟨rfl, rfl, rfl, by decide +kernel, rfl, by decide +kernel, by decide +kernel⟩
theorem ok_E23 {f : Addr} {fd : FuncData} (F : Fun K "__init__" "NoPicture.__init__" s_NoPicture_init f fd) : FnOk P w K mg base CX0 1 f fd ["self"] spPas := by
  refine F.ok scE23 (fun vs H Q E h => ?_) (fun cdv A outer s H vs Q E hr h => ?_)
  · obtain ⟨a, rfl, _⟩ := h
    rfl
  · obtain ⟨a, rfl, k⟩ := h
    exact ⟨_, pss_one ps_pass, k⟩
theorem scE24 : FnScope ["self"] ["self"] (defScope s_NoPlace_init) := ⟨rfl, rfl, rfl, by decide +kernel, rfl, by decide +kernel, by decide +kernel⟩
theorem ok_E24 {f : Addr} {fd : FuncData} (F : Fun K "__init__" "NoPlace.__init__" s_NoPlace_init f fd) : FnOk P w K mg base CX0 1 f fd ["self"] spPas := by
  refine F.ok scE24 (fun vs H Q E h => ?_) (fun cdv A outer s H vs Q E hr h => ?_)
  · obtain ⟨a, rfl, _⟩ := h
    rfl
  · obtain ⟨a, rfl, k⟩ := h
    exact ⟨_, pss_one ps_pass, k⟩
theorem scE25 : FnScope ["self"] ["self"] (defScope s_NoRenewal_init) := ⟨rfl, rfl, rfl, by decide +kernel, rfl, by decide +kernel, by decide +kernel⟩
theorem ok_E25 {f : Addr} {fd : FuncData} (F : Fun K "__init__" "NoRenewal.__init__" s_NoRenewal_init f fd) : FnOk P w K mg base CX0 1 f fd ["self"] spPas := by
  refine F.ok scE25 (fun vs H Q E h => ?_) (fun cdv A outer s H vs Q E hr h => ?_)
  · obtain ⟨a, rfl, _⟩ := h
    rfl
  · obtain ⟨a, rfl, k⟩ := h
    exact ⟨_, pss_one ps_pass, k⟩
theorem scE26 : FnScope ["self"] ["self"] (defScope s_NothingFits_init) := ⟨rfl, rfl, rfl, by decide +kernel, rfl, by decide +kernel, by decide +kernel⟩
theorem ok_E26 {f : Addr} {fd : FuncData} (F : Fun K "__init__" "NothingFits.__init__" s_NothingFits_init f fd) : FnOk P w K mg base CX0 1 f fd ["self"] spPas := by
  refine F.ok scE26 (fun vs H Q E h => ?_) (fun cdv A outer s H vs Q E hr h => ?_)
  · obtain ⟨a, rfl, _⟩ := h
    rfl
  · obtain ⟨a, rfl, k⟩ := h
    exact ⟨_, pss_one ps_pass, k⟩
theorem scE27 : FnScope ["self"] ["self"] (defScope s_NoSizes_init) := ⟨rfl, rfl, rfl, by decide +kernel, rfl, by decide +kernel, by decide +kernel⟩
theorem ok_E27 {f : Addr} {fd : FuncData} (F : Fun K "__init__" "NoSizes.__init__" s_NoSizes_init f fd) : FnOk P w K mg base CX0 1 f fd ["self"] spPas := by
  refine F.ok scE27 (fun vs H Q E h => ?_) (fun cdv A outer s H vs Q E hr h => ?_)
  · obtain ⟨a, rfl, _⟩ := h
    rfl
  · obtain ⟨a, rfl, k⟩ := h
    exact ⟨_, pss_one ps_pass, k⟩
theorem scE28 : FnScope ["self"] ["self"] (defScope s_NoPairs_init) := ⟨rfl, rfl, rfl, by decide +kernel, rfl, by decide +kernel, by decide +kernel⟩
theorem ok_E28 {f : Addr} {fd : FuncData} (F : Fun K "__init__" "NoPairs.__init__" s_NoPairs_init f fd) : FnOk P w K mg base CX0 1 f fd ["self"] spPas := by
  refine F.ok scE28 (fun vs H Q E h => ?_) (fun cdv A outer s H vs Q E hr h => ?_)
  · obtain ⟨a, rfl, _⟩ := h
    rfl
  · obtain ⟨a, rfl, k⟩ := h
    exact ⟨_, pss_one ps_pass, k⟩
theorem scE29 : FnScope ["self"] ["self"] (defScope s_NoFlips_init) := ⟨rfl, rfl, rfl, by decide +kernel, rfl, by decide +kernel, by decide +kernel⟩
theorem ok_E29 {f : Addr} {fd : FuncData} (F : Fun K "__init__" "NoFlips.__init__" s_NoFlips_init f fd) : FnOk P w K mg base CX0 1 f fd ["self"] spPas := by
  refine F.ok scE29 (fun vs H Q E h => ?_) (fun cdv A outer s H vs Q E hr h => ?_)
  · obtain ⟨a, rfl, _⟩ := h
    rfl
  · obtain ⟨a, rfl, k⟩ := h
    exact ⟨_, pss_one ps_pass, k⟩
theorem scE30 : FnScope ["self"] ["self"] (defScope s_NotRising_init) := ⟨rfl, rfl, rfl, by decide +kernel, rfl, by decide +kernel, by decide +kernel⟩
theorem ok_E30 {f : Addr} {fd : FuncData} (F : Fun K "__init__" "NotRising.__init__" s_NotRising_init f fd) : FnOk P w K mg base CX0 1 f fd ["self"] spPas := by
  refine F.ok scE30 (fun vs H Q E h => ?_) (fun cdv A outer s H vs Q E hr h => ?_)
  · obtain ⟨a, rfl, _⟩ := h
    rfl
  · obtain ⟨a, rfl, k⟩ := h
    exact ⟨_, pss_one ps_pass, k⟩
theorem scE31 : FnScope ["self"] ["self"] (defScope s_NoCover_init) := ⟨rfl, rfl, rfl, by decide +kernel, rfl, by decide +kernel, by decide +kernel⟩
theorem ok_E31 {f : Addr} {fd : FuncData} (F : Fun K "__init__" "NoCover.__init__" s_NoCover_init f fd) : FnOk P w K mg base CX0 1 f fd ["self"] spPas := by
  refine F.ok scE31 (fun vs H Q E h => ?_) (fun cdv A outer s H vs Q E hr h => ?_)
  · obtain ⟨a, rfl, _⟩ := h
    rfl
  · obtain ⟨a, rfl, k⟩ := h
    exact ⟨_, pss_one ps_pass, k⟩
theorem scE32 : FnScope ["self"] ["self"] (defScope s_NoOrdering_init) := ⟨rfl, rfl, rfl, by decide +kernel, rfl, by decide +kernel, by decide +kernel⟩
theorem ok_E32 {f : Addr} {fd : FuncData} (F : Fun K "__init__" "NoOrdering.__init__" s_NoOrdering_init f fd) : FnOk P w K mg base CX0 1 f fd ["self"] spPas := by
  refine F.ok scE32 (fun vs H Q E h => ?_) (fun cdv A outer s H vs Q E hr h => ?_)
  · obtain ⟨a, rfl, _⟩ := h
    rfl
  · obtain ⟨a, rfl, k⟩ := h
    exact ⟨_, pss_one ps_pass, k⟩
theorem scE33 : FnScope ["self"] ["self"] (defScope s_NoPlaces_init) := ⟨rfl, rfl, rfl, by decide +kernel, rfl, by decide +kernel, by decide +kernel⟩
theorem ok_E33 {f : Addr} {fd : FuncData} (F : Fun K "__init__" "NoPlaces.__init__" s_NoPlaces_init f fd) : FnOk P w K mg base CX0 1 f fd ["self"] spPas := by
  refine F.ok scE33 (fun vs H Q E h => ?_) (fun cdv A outer s H vs Q E hr h => ?_)
  · obtain ⟨a, rfl, _⟩ := h
    rfl
  · obtain ⟨a, rfl, k⟩ := h
    exact ⟨_, pss_one ps_pass, k⟩
theorem scE34 : FnScope ["self"] ["self"] (defScope s_NoValue_init) := ⟨rfl, rfl, rfl, by decide +kernel, rfl, by decide +kernel, by decide +kernel⟩
theorem ok_E34 {f : Addr} {fd : FuncData} (F : Fun K "__init__" "NoValue.__init__" s_NoValue_init f fd) : FnOk P w K mg base CX0 1 f fd ["self"] spPas := by
  refine F.ok scE34 (fun vs H Q E h => ?_) (fun cdv A outer s H vs Q E hr h => ?_)
  · obtain ⟨a, rfl, _⟩ := h
    rfl
  · obtain ⟨a, rfl, k⟩ := h
    exact ⟨_, pss_one ps_pass, k⟩
theorem scE35 : FnScope ["self"] ["self"] (defScope s_NoEdit_init) := ⟨rfl, rfl, rfl, by decide +kernel, rfl, by decide +kernel, by decide +kernel⟩
theorem ok_E35 {f : Addr} {fd : FuncData} (F : Fun K "__init__" "NoEdit.__init__" s_NoEdit_init f fd) : FnOk P w K mg base CX0 1 f fd ["self"] spPas := by
  refine F.ok scE35 (fun vs H Q E h => ?_) (fun cdv A outer s H vs Q E hr h => ?_)
  · obtain ⟨a, rfl, _⟩ := h
    rfl
  · obtain ⟨a, rfl, k⟩ := h
    exact ⟨_, pss_one ps_pass, k⟩
theorem scE36 : FnScope ["self"] ["self"] (defScope s_NothingDone_init) := ⟨rfl, rfl, rfl, by decide +kernel, rfl, by decide +kernel, by decide +kernel⟩
theorem ok_E36 {f : Addr} {fd : FuncData} (F : Fun K "__init__" "NothingDone.__init__" s_NothingDone_init f fd) : FnOk P w K mg base CX0 1 f fd ["self"] spPas := by
  refine F.ok scE36 (fun vs H Q E h => ?_) (fun cdv A outer s H vs Q E hr h => ?_)
  · obtain ⟨a, rfl, _⟩ := h
    rfl
  · obtain ⟨a, rfl, k⟩ := h
    exact ⟨_, pss_one ps_pass, k⟩
theorem scE37 : FnScope ["self"] ["self"] (defScope s_NoLine_init) := ⟨rfl, rfl, rfl, by decide +kernel, rfl, by decide +kernel, by decide +kernel⟩
theorem ok_E37 {f : Addr} {fd : FuncData} (F : Fun K "__init__" "NoLine.__init__" s_NoLine_init f fd) : FnOk P w K mg base CX0 1 f fd ["self"] spPas := by
  refine F.ok scE37 (fun vs H Q E h => ?_) (fun cdv A outer s H vs Q E hr h => ?_)
  · obtain ⟨a, rfl, _⟩ := h
    rfl
  · obtain ⟨a, rfl, k⟩ := h
    exact ⟨_, pss_one ps_pass, k⟩
/-- what the law may know of the errors' classes -/
structure Ers (P : Program) (w : World) (K : PySem.W.Frag) (mg : Str → Option Value) (base : Heap) (C : Nat → Addr) (D : Addr) : Prop where
  e0 : Er1 P w K mg base "BadSystem" (C 0) (fldE 0)
  e1 : Er1 P w K mg base "BadLine" (C 1) (fldE 1)
  e2 : Er1 P w K mg base "BadCoin" (C 2) (fldE 2)
  e3 : Er1 P w K mg base "BadModel" (C 3) (fldE 3)
  e4 : Er1 P w K mg base "TooMany" (C 4) (fldE 4)
  e5 : Er1 P w K mg base "NoName" (C 5) (fldE 5)
  e6 : Er0 P w K mg base "NoRow" (C 6)
  e7 : Er0 P w K mg base "NoState" (C 7)
  e8 : Er0 P w K mg base "NoSpread" (C 8)
  e9 : Er0 P w K mg base "NoNumber" (C 9)
  e10 : Er0 P w K mg base "NoLot" (C 10)
  e11 : Er0 P w K mg base "NotOne" (C 11)
  e12 : Er0 P w K mg base "NoShare" (C 12)
  e13 : Er0 P w K mg base "NothingTold" (C 13)
  e14 : Er0 P w K mg base "NoCoins" (C 14)
  e15 : Er0 P w K mg base "NoPlan" (C 15)
  e16 : Er0 P w K mg base "NoMove" (C 16)
  e17 : Er0 P w K mg base "NoLength" (C 17)
  e18 : Er0 P w K mg base "NotMerging" (C 18)
  e19 : Er0 P w K mg base "NoBits" (C 19)
  e20 : Er0 P w K mg base "NoOrder" (C 20)
  e21 : Er0 P w K mg base "NotKept" (C 21)
  e22 : Er0 P w K mg base "NoEnds" (C 22)
  e23 : Er0 P w K mg base "NoPicture" (C 23)
  e24 : Er0 P w K mg base "NoPlace" (C 24)
  e25 : Er0 P w K mg base "NoRenewal" (C 25)
  e26 : Er0 P w K mg base "NothingFits" (C 26)
  e27 : Er0 P w K mg base "NoSizes" (C 27)
  e28 : Er0 P w K mg base "NoPairs" (C 28)
  e29 : Er0 P w K mg base "NoFlips" (C 29)
  e30 : Er0 P w K mg base "NotRising" (C 30)
  e31 : Er0 P w K mg base "NoCover" (C 31)
  e32 : Er0 P w K mg base "NoOrdering" (C 32)
  e33 : Er0 P w K mg base "NoPlaces" (C 33)
  e34 : Er0 P w K mg base "NoValue" (C 34)
  e35 : Er0 P w K mg base "NoEdit" (C 35)
  e36 : Er0 P w K mg base "NothingDone" (C 36)
  e37 : Er0 P w K mg base "NoLine" (C 37)
  ex : ∀ i, i < 38 → ExV K (C i)
  no : ∀ i, i < 6 → PySem.W.findIn K (.ref (C i)) (fldE i) = some none
  kit : ∀ i j, i < 38 → j < 38 → PySem.W.kitOne K (.ref (C i)) (.ref (C j)) = some (decide (i = j))
  kitD : ∀ i, i < 38 → PySem.W.kitOne K (.ref (C i)) (.ref D) = some true
  kitV : ∀ i, i < 38 → PySem.W.kitOne K (.ref (C i)) (.type "ValueError") = some true
  mD : mg "DrawError" = some (.ref D)
def spMade (K : PySem.W.Frag) (C : Nat → Addr) : Sp := fun vs H Q _ => ∃ (lt : Addr) (ts : List V), vs = [.ref lt] ∧ SqL K H lt ts ∧ ts.length = 6 ∧ ∀ (l : Addr) (es : List V) (H' : Hp), H l = none → Same H H' → H' l = some (.lst es) → es.length = 38 → Errs C ts H' 0 es → Q (.ref l) H'
theorem scMade : FnScope ["_law_things", "_law_found"] ["_law_things"] (defScope s_law_made) := ⟨rfl, rfl, rfl, by decide +kernel, rfl, by decide +kernel, by decide +kernel⟩
def Bag (C : Nat → Addr) (ts : List V) (lt l : Addr) (H0 : Hp) (n : Nat) (σ : St) (H : Hp) : Prop := σ = [some (.ref lt), some (.ref l)] ∧ Same H0 H ∧ ∃ es, H l = some (.lst es) ∧ es.length = n ∧ Errs C ts H 0 es
theorem bag_add {C : Nat → Addr} {ts : List V} {lt l p : Addr} {H0 H2 : Hp} {n m : Nat} {es vs : List V} (h0 : H0 l = none) (s : Same H0 H2) (hl : H2 l = some (.lst es)) (hn : es.length = n) (he : Errs C ts H2 0 es) (hp : H2 p = none) (hv : Errs C ts H2 n vs) (hm : n + vs.length = m) :
    Bag C ts lt l H0 m [some (.ref lt), some (.ref l)] (upd (upd H2 p (.lst vs)) l (.lst (es ++ vs))) := by
  have s3 : Same H2 (upd H2 p (.lst vs)) := Same.new hp
  have e3 : (upd H2 p (.lst vs)) l = some (.lst es) := s3 _ _ hl
  refine ⟨rfl, (s.trans s3).mut h0, es ++ vs, upd_same, by rw [List.length_append, hn]; exact hm, ?_⟩
  refine Errs.imp (H := upd H2 p (.lst vs)) (fun j v h => h.lst e3) (Errs.app (Errs.imp (fun j v h => h.same s3) he) (Errs.imp (fun j v h => h.same s3) ?_))
  rw [Nat.zero_add, hn]
  exact hv
theorem ok_made {f : Addr} {fd : FuncData} {C : Nat → Addr} {D : Addr} (F : Fun K "_law_made" "_law_made" s_law_made f fd) (Z : Ers P w K mg base C D) : FnOk P w K mg base CX0 3 f fd ["_law_things"] (spMade K C) := by
  refine F.ok scMade (fun vs H Q E h => ?_) (fun cdv A outer s H vs Q E hr h => ?_)
  · obtain ⟨lt, ts, rfl, _⟩ := h
    rfl
  · obtain ⟨lt, ts, rfl, hT, h6, k⟩ := h
    refine ⟨_, pss_cons (ps_set (i := 1) scMade.nd rfl (Or.inl rfl) (pe_lst pa_nil))
      (Evl.pss_cut (ps_expr (pe_bm PySem.F.plainAttrs_list PySem.F.slot_list_extend PySem.F.type_list_extend mt_extend (pv 1) (pa_cons (pe_lst (pa_cons (Z.e0.pe hr (pa_cons (pe_ix ix_list (pv 0) pe_int (fun _ _ => rfl)) pa_nil)) (pa_cons (Z.e1.pe hr (pa_cons (pe_ix ix_list (pv 0) pe_int (fun _ _ => rfl)) pa_nil)) (pa_cons (Z.e2.pe hr (pa_cons (pe_ix ix_list (pv 0) pe_int (fun _ _ => rfl)) pa_nil)) pa_nil)))) pa_nil)))
      (Evl.pss_cut (ps_expr (pe_bm PySem.F.plainAttrs_list PySem.F.slot_list_extend PySem.F.type_list_extend mt_extend (pv 1) (pa_cons (pe_lst (pa_cons (Z.e3.pe hr (pa_cons (pe_ix ix_list (pv 0) pe_int (fun _ _ => rfl)) pa_nil)) (pa_cons (Z.e4.pe hr (pa_cons (pe_ix ix_list (pv 0) pe_int (fun _ _ => rfl)) pa_nil)) (pa_cons (Z.e5.pe hr (pa_cons (pe_ix ix_list (pv 0) pe_int (fun _ _ => rfl)) pa_nil)) pa_nil)))) pa_nil)))
      (Evl.pss_cut (ps_expr (pe_bm PySem.F.plainAttrs_list PySem.F.slot_list_extend PySem.F.type_list_extend mt_extend (pv 1) (pa_cons (pe_lst (pa_cons (Z.e6.pe hr) (pa_cons (Z.e7.pe hr) (pa_cons (Z.e8.pe hr) (pa_cons (Z.e9.pe hr) (pa_cons (Z.e10.pe hr) (pa_cons (Z.e11.pe hr) pa_nil))))))) pa_nil)))
      (Evl.pss_cut (ps_expr (pe_bm PySem.F.plainAttrs_list PySem.F.slot_list_extend PySem.F.type_list_extend mt_extend (pv 1) (pa_cons (pe_lst (pa_cons (Z.e12.pe hr) (pa_cons (Z.e13.pe hr) (pa_cons (Z.e14.pe hr) (pa_cons (Z.e15.pe hr) (pa_cons (Z.e16.pe hr) (pa_cons (Z.e17.pe hr) pa_nil))))))) pa_nil)))
      (Evl.pss_cut (ps_expr (pe_bm PySem.F.plainAttrs_list PySem.F.slot_list_extend PySem.F.type_list_extend mt_extend (pv 1) (pa_cons (pe_lst (pa_cons (Z.e18.pe hr) (pa_cons (Z.e19.pe hr) (pa_cons (Z.e20.pe hr) (pa_cons (Z.e21.pe hr) (pa_cons (Z.e22.pe hr) (pa_cons (Z.e23.pe hr) pa_nil))))))) pa_nil)))
      (Evl.pss_cut (ps_expr (pe_bm PySem.F.plainAttrs_list PySem.F.slot_list_extend PySem.F.type_list_extend mt_extend (pv 1) (pa_cons (pe_lst (pa_cons (Z.e24.pe hr) (pa_cons (Z.e25.pe hr) (pa_cons (Z.e26.pe hr) (pa_cons (Z.e27.pe hr) (pa_cons (Z.e28.pe hr) (pa_cons (Z.e29.pe hr) pa_nil))))))) pa_nil)))
      (Evl.pss_cut (ps_expr (pe_bm PySem.F.plainAttrs_list PySem.F.slot_list_extend PySem.F.type_list_extend mt_extend (pv 1) (pa_cons (pe_lst (pa_cons (Z.e30.pe hr) (pa_cons (Z.e31.pe hr) (pa_cons (Z.e32.pe hr) (pa_cons (Z.e33.pe hr) (pa_cons (Z.e34.pe hr) (pa_cons (Z.e35.pe hr) pa_nil))))))) pa_nil)))
      (Evl.pss_cut (ps_expr (pe_bm PySem.F.plainAttrs_list PySem.F.slot_list_extend PySem.F.type_list_extend mt_extend (pv 1) (pa_cons (pe_lst (pa_cons (Z.e36.pe hr) (pa_cons (Z.e37.pe hr) pa_nil))) pa_nil)))
      (pss_one (ps_ret (pv 1))))))))))), ?_⟩
    refine ⟨by show 0 ≤ sizeLine; decide, fun l hl => ?_⟩
    have h0 : Bag C ts lt l H 0 [some (.ref lt), some (.ref l)] (upd H l (.lst [])) := ⟨rfl, Same.new hl, [], upd_same, rfl, trivial⟩
    have tg : ∀ j, j < 6 → ∃ t, ts[j]? = some t ∧ atI ts ((j : Nat) : Int) = some t := fun j hj => ⟨ts[j], List.getElem?_eq_getElem (by omega), by unfold atI; rw [Evl.ixN_nat (by omega)]; exact List.getElem?_eq_getElem (by omega)⟩
    have tn : ∀ j, 6 ≤ j → ts[j]? = none := fun j hj => List.getElem?_eq_none (by omega)
    -- chunk 0
    refine ⟨fun σ' H' => Bag C ts lt l H 3 σ' H', ?_, ?_⟩
    · obtain ⟨_, s0, es, hL, hn, he⟩ := h0
      refine ⟨_, rfl, .inl ⟨rfl, _, SqL.of hL⟩, ?_⟩
      obtain ⟨t0, g0, q0⟩ := tg 0 (by decide)
      refine ⟨_, rfl, lt, ts, _, _, rfl, rfl, (s0).seq hT, q0, ex1 (C := C) (ts := ts) (j := 0) g0 fun a1 K1 s1 r1 => ?_⟩
      obtain ⟨t1, g1, q1⟩ := tg 1 (by decide)
      refine ⟨_, rfl, lt, ts, _, _, rfl, rfl, ((s0).trans s1).seq hT, q1, ex1 (C := C) (ts := ts) (j := 1) g1 fun a2 K2 s2 r2 => ?_⟩
      obtain ⟨t2, g2, q2⟩ := tg 2 (by decide)
      refine ⟨_, rfl, lt, ts, _, _, rfl, rfl, (((s0).trans s1).trans s2).seq hT, q2, ex1 (C := C) (ts := ts) (j := 2) g2 fun a3 K3 s3 r3 => ?_⟩
      refine ⟨by show 3 ≤ sizeLine; decide, fun p hp => ?_⟩
      have sf := ((s1.trans s2).trans s3)
      have z := bag_add (lt := lt) (m := 3) (vs := [.ref a1, .ref a2, .ref a3]) hl (s0.trans sf) (sf _ _ hL) hn (Errs.imp (fun j v h => h.same sf) he) hp ⟨r1.same (s2.trans s3), r2.same s3, r3, trivial⟩ (by rfl)
      exact ⟨l, p, es, _, rfl, rfl, Same.new hp _ _ (sf _ _ hL), upd_same, Nat.le_trans (by rw [hn]; show 0 + 3 ≤ 1000; decide) (by decide), z⟩
    clear h0
    intro σ1 H1 h0
    obtain ⟨rfl, _⟩ := id h0
    -- chunk 1
    refine ⟨fun σ' H' => Bag C ts lt l H 6 σ' H', ?_, ?_⟩
    · obtain ⟨_, s0, es, hL, hn, he⟩ := h0
      refine ⟨_, rfl, .inl ⟨rfl, _, SqL.of hL⟩, ?_⟩
      obtain ⟨t3, g3, q3⟩ := tg 3 (by decide)
      refine ⟨_, rfl, lt, ts, _, _, rfl, rfl, (s0).seq hT, q3, ex1 (C := C) (ts := ts) (j := 3) g3 fun a1 K1 s1 r1 => ?_⟩
      obtain ⟨t4, g4, q4⟩ := tg 4 (by decide)
      refine ⟨_, rfl, lt, ts, _, _, rfl, rfl, ((s0).trans s1).seq hT, q4, ex1 (C := C) (ts := ts) (j := 4) g4 fun a2 K2 s2 r2 => ?_⟩
      obtain ⟨t5, g5, q5⟩ := tg 5 (by decide)
      refine ⟨_, rfl, lt, ts, _, _, rfl, rfl, (((s0).trans s1).trans s2).seq hT, q5, ex1 (C := C) (ts := ts) (j := 5) g5 fun a3 K3 s3 r3 => ?_⟩
      refine ⟨by show 3 ≤ sizeLine; decide, fun p hp => ?_⟩
      have sf := ((s1.trans s2).trans s3)
      have z := bag_add (lt := lt) (m := 6) (vs := [.ref a1, .ref a2, .ref a3]) hl (s0.trans sf) (sf _ _ hL) hn (Errs.imp (fun j v h => h.same sf) he) hp ⟨r1.same (s2.trans s3), r2.same s3, r3, trivial⟩ (by rfl)
      exact ⟨l, p, es, _, rfl, rfl, Same.new hp _ _ (sf _ _ hL), upd_same, Nat.le_trans (by rw [hn]; show 3 + 3 ≤ 1000; decide) (by decide), z⟩
    clear h0
    intro σ1 H1 h0
    obtain ⟨rfl, _⟩ := id h0
    -- chunk 2
    refine ⟨fun σ' H' => Bag C ts lt l H 12 σ' H', ?_, ?_⟩
    · obtain ⟨_, s0, es, hL, hn, he⟩ := h0
      refine ⟨_, rfl, .inl ⟨rfl, _, SqL.of hL⟩, ?_⟩
      refine ex0 (C := C) (ts := ts) (j := 6) (tn 6 (by decide)) fun a1 K1 s1 r1 => ?_
      refine ex0 (C := C) (ts := ts) (j := 7) (tn 7 (by decide)) fun a2 K2 s2 r2 => ?_
      refine ex0 (C := C) (ts := ts) (j := 8) (tn 8 (by decide)) fun a3 K3 s3 r3 => ?_
      refine ex0 (C := C) (ts := ts) (j := 9) (tn 9 (by decide)) fun a4 K4 s4 r4 => ?_
      refine ex0 (C := C) (ts := ts) (j := 10) (tn 10 (by decide)) fun a5 K5 s5 r5 => ?_
      refine ex0 (C := C) (ts := ts) (j := 11) (tn 11 (by decide)) fun a6 K6 s6 r6 => ?_
      refine ⟨by show 6 ≤ sizeLine; decide, fun p hp => ?_⟩
      have sf := (((((s1.trans s2).trans s3).trans s4).trans s5).trans s6)
      have z := bag_add (lt := lt) (m := 12) (vs := [.ref a1, .ref a2, .ref a3, .ref a4, .ref a5, .ref a6]) hl (s0.trans sf) (sf _ _ hL) hn (Errs.imp (fun j v h => h.same sf) he) hp ⟨r1.same ((((s2.trans s3).trans s4).trans s5).trans s6), r2.same (((s3.trans s4).trans s5).trans s6), r3.same ((s4.trans s5).trans s6), r4.same (s5.trans s6), r5.same s6, r6, trivial⟩ (by rfl)
      exact ⟨l, p, es, _, rfl, rfl, Same.new hp _ _ (sf _ _ hL), upd_same, Nat.le_trans (by rw [hn]; show 6 + 6 ≤ 1000; decide) (by decide), z⟩
    clear h0
    intro σ1 H1 h0
    obtain ⟨rfl, _⟩ := id h0
    -- chunk 3
    refine ⟨fun σ' H' => Bag C ts lt l H 18 σ' H', ?_, ?_⟩
    · obtain ⟨_, s0, es, hL, hn, he⟩ := h0
      refine ⟨_, rfl, .inl ⟨rfl, _, SqL.of hL⟩, ?_⟩
      refine ex0 (C := C) (ts := ts) (j := 12) (tn 12 (by decide)) fun a1 K1 s1 r1 => ?_
      refine ex0 (C := C) (ts := ts) (j := 13) (tn 13 (by decide)) fun a2 K2 s2 r2 => ?_
      refine ex0 (C := C) (ts := ts) (j := 14) (tn 14 (by decide)) fun a3 K3 s3 r3 => ?_
      refine ex0 (C := C) (ts := ts) (j := 15) (tn 15 (by decide)) fun a4 K4 s4 r4 => ?_
      refine ex0 (C := C) (ts := ts) (j := 16) (tn 16 (by decide)) fun a5 K5 s5 r5 => ?_
      refine ex0 (C := C) (ts := ts) (j := 17) (tn 17 (by decide)) fun a6 K6 s6 r6 => ?_
      refine ⟨by show 6 ≤ sizeLine; decide, fun p hp => ?_⟩
      have sf := (((((s1.trans s2).trans s3).trans s4).trans s5).trans s6)
      have z := bag_add (lt := lt) (m := 18) (vs := [.ref a1, .ref a2, .ref a3, .ref a4, .ref a5, .ref a6]) hl (s0.trans sf) (sf _ _ hL) hn (Errs.imp (fun j v h => h.same sf) he) hp ⟨r1.same ((((s2.trans s3).trans s4).trans s5).trans s6), r2.same (((s3.trans s4).trans s5).trans s6), r3.same ((s4.trans s5).trans s6), r4.same (s5.trans s6), r5.same s6, r6, trivial⟩ (by rfl)
      exact ⟨l, p, es, _, rfl, rfl, Same.new hp _ _ (sf _ _ hL), upd_same, Nat.le_trans (by rw [hn]; show 12 + 6 ≤ 1000; decide) (by decide), z⟩
    clear h0
    intro σ1 H1 h0
    obtain ⟨rfl, _⟩ := id h0
    -- chunk 4
    refine ⟨fun σ' H' => Bag C ts lt l H 24 σ' H', ?_, ?_⟩
    · obtain ⟨_, s0, es, hL, hn, he⟩ := h0
      refine ⟨_, rfl, .inl ⟨rfl, _, SqL.of hL⟩, ?_⟩
      refine ex0 (C := C) (ts := ts) (j := 18) (tn 18 (by decide)) fun a1 K1 s1 r1 => ?_
      refine ex0 (C := C) (ts := ts) (j := 19) (tn 19 (by decide)) fun a2 K2 s2 r2 => ?_
      refine ex0 (C := C) (ts := ts) (j := 20) (tn 20 (by decide)) fun a3 K3 s3 r3 => ?_
      refine ex0 (C := C) (ts := ts) (j := 21) (tn 21 (by decide)) fun a4 K4 s4 r4 => ?_
      refine ex0 (C := C) (ts := ts) (j := 22) (tn 22 (by decide)) fun a5 K5 s5 r5 => ?_
      refine ex0 (C := C) (ts := ts) (j := 23) (tn 23 (by decide)) fun a6 K6 s6 r6 => ?_
      refine ⟨by show 6 ≤ sizeLine; decide, fun p hp => ?_⟩
      have sf := (((((s1.trans s2).trans s3).trans s4).trans s5).trans s6)
      have z := bag_add (lt := lt) (m := 24) (vs := [.ref a1, .ref a2, .ref a3, .ref a4, .ref a5, .ref a6]) hl (s0.trans sf) (sf _ _ hL) hn (Errs.imp (fun j v h => h.same sf) he) hp ⟨r1.same ((((s2.trans s3).trans s4).trans s5).trans s6), r2.same (((s3.trans s4).trans s5).trans s6), r3.same ((s4.trans s5).trans s6), r4.same (s5.trans s6), r5.same s6, r6, trivial⟩ (by rfl)
      exact ⟨l, p, es, _, rfl, rfl, Same.new hp _ _ (sf _ _ hL), upd_same, Nat.le_trans (by rw [hn]; show 18 + 6 ≤ 1000; decide) (by decide), z⟩
    clear h0
    intro σ1 H1 h0
    obtain ⟨rfl, _⟩ := id h0
    -- chunk 5
    refine ⟨fun σ' H' => Bag C ts lt l H 30 σ' H', ?_, ?_⟩
    · obtain ⟨_, s0, es, hL, hn, he⟩ := h0
      refine ⟨_, rfl, .inl ⟨rfl, _, SqL.of hL⟩, ?_⟩
      refine ex0 (C := C) (ts := ts) (j := 24) (tn 24 (by decide)) fun a1 K1 s1 r1 => ?_
      refine ex0 (C := C) (ts := ts) (j := 25) (tn 25 (by decide)) fun a2 K2 s2 r2 => ?_
      refine ex0 (C := C) (ts := ts) (j := 26) (tn 26 (by decide)) fun a3 K3 s3 r3 => ?_
      refine ex0 (C := C) (ts := ts) (j := 27) (tn 27 (by decide)) fun a4 K4 s4 r4 => ?_
      refine ex0 (C := C) (ts := ts) (j := 28) (tn 28 (by decide)) fun a5 K5 s5 r5 => ?_
      refine ex0 (C := C) (ts := ts) (j := 29) (tn 29 (by decide)) fun a6 K6 s6 r6 => ?_
      refine ⟨by show 6 ≤ sizeLine; decide, fun p hp => ?_⟩
      have sf := (((((s1.trans s2).trans s3).trans s4).trans s5).trans s6)
      have z := bag_add (lt := lt) (m := 30) (vs := [.ref a1, .ref a2, .ref a3, .ref a4, .ref a5, .ref a6]) hl (s0.trans sf) (sf _ _ hL) hn (Errs.imp (fun j v h => h.same sf) he) hp ⟨r1.same ((((s2.trans s3).trans s4).trans s5).trans s6), r2.same (((s3.trans s4).trans s5).trans s6), r3.same ((s4.trans s5).trans s6), r4.same (s5.trans s6), r5.same s6, r6, trivial⟩ (by rfl)
      exact ⟨l, p, es, _, rfl, rfl, Same.new hp _ _ (sf _ _ hL), upd_same, Nat.le_trans (by rw [hn]; show 24 + 6 ≤ 1000; decide) (by decide), z⟩
    clear h0
    intro σ1 H1 h0
    obtain ⟨rfl, _⟩ := id h0
    -- chunk 6
    refine ⟨fun σ' H' => Bag C ts lt l H 36 σ' H', ?_, ?_⟩
    · obtain ⟨_, s0, es, hL, hn, he⟩ := h0
      refine ⟨_, rfl, .inl ⟨rfl, _, SqL.of hL⟩, ?_⟩
      refine ex0 (C := C) (ts := ts) (j := 30) (tn 30 (by decide)) fun a1 K1 s1 r1 => ?_
      refine ex0 (C := C) (ts := ts) (j := 31) (tn 31 (by decide)) fun a2 K2 s2 r2 => ?_
      refine ex0 (C := C) (ts := ts) (j := 32) (tn 32 (by decide)) fun a3 K3 s3 r3 => ?_
      refine ex0 (C := C) (ts := ts) (j := 33) (tn 33 (by decide)) fun a4 K4 s4 r4 => ?_
      refine ex0 (C := C) (ts := ts) (j := 34) (tn 34 (by decide)) fun a5 K5 s5 r5 => ?_
      refine ex0 (C := C) (ts := ts) (j := 35) (tn 35 (by decide)) fun a6 K6 s6 r6 => ?_
      refine ⟨by show 6 ≤ sizeLine; decide, fun p hp => ?_⟩
      have sf := (((((s1.trans s2).trans s3).trans s4).trans s5).trans s6)
      have z := bag_add (lt := lt) (m := 36) (vs := [.ref a1, .ref a2, .ref a3, .ref a4, .ref a5, .ref a6]) hl (s0.trans sf) (sf _ _ hL) hn (Errs.imp (fun j v h => h.same sf) he) hp ⟨r1.same ((((s2.trans s3).trans s4).trans s5).trans s6), r2.same (((s3.trans s4).trans s5).trans s6), r3.same ((s4.trans s5).trans s6), r4.same (s5.trans s6), r5.same s6, r6, trivial⟩ (by rfl)
      exact ⟨l, p, es, _, rfl, rfl, Same.new hp _ _ (sf _ _ hL), upd_same, Nat.le_trans (by rw [hn]; show 30 + 6 ≤ 1000; decide) (by decide), z⟩
    clear h0
    intro σ1 H1 h0
    obtain ⟨rfl, _⟩ := id h0
    -- chunk 7
    refine ⟨fun σ' H' => Bag C ts lt l H 38 σ' H', ?_, ?_⟩
    · obtain ⟨_, s0, es, hL, hn, he⟩ := h0
      refine ⟨_, rfl, .inl ⟨rfl, _, SqL.of hL⟩, ?_⟩
      refine ex0 (C := C) (ts := ts) (j := 36) (tn 36 (by decide)) fun a1 K1 s1 r1 => ?_
      refine ex0 (C := C) (ts := ts) (j := 37) (tn 37 (by decide)) fun a2 K2 s2 r2 => ?_
      refine ⟨by show 2 ≤ sizeLine; decide, fun p hp => ?_⟩
      have sf := (s1.trans s2)
      have z := bag_add (lt := lt) (m := 38) (vs := [.ref a1, .ref a2]) hl (s0.trans sf) (sf _ _ hL) hn (Errs.imp (fun j v h => h.same sf) he) hp ⟨r1.same s2, r2, trivial⟩ (by rfl)
      exact ⟨l, p, es, _, rfl, rfl, Same.new hp _ _ (sf _ _ hL), upd_same, Nat.le_trans (by rw [hn]; show 36 + 2 ≤ 1000; decide) (by decide), z⟩
    clear h0
    intro σ1 H1 h0
    obtain ⟨rfl, _⟩ := id h0
    obtain ⟨_, s0, es, hL, hn, he⟩ := h0
    exact ⟨_, rfl, k l es H1 hl s0 hL hn he⟩
end
end Law
namespace Law
open PySem L2
section
variable {P : Program} {w : World} {K : PySem.W.Frag} {mg : Str → Option Value} {base : Heap}
def flagL (i n : Nat) : List V := (List.range n).map fun j => V.bl (decide (i = j))
def spFlags (K : PySem.W.Frag) (C : Nat → Addr) (n : Nat) : Sp := fun vs H Q _ => ∃ (v : V) (ts : List V) (i : Nat), vs = [v] ∧ i < 38 ∧ ErrAt C ts H i v ∧ ∀ (l : Addr) (H' : Hp), H l = none → Same H H' → H' l = some (.lst (flagL i n)) → Q (.ref l) H'
def FB (v : V) (l : Addr) (H0 : Hp) (i n : Nat) (σ : St) (H : Hp) : Prop := σ = [some v, some (.ref l)] ∧ Same H0 H ∧ H l = some (.lst (flagL i n))
theorem fb_add {v : V} {l p : Addr} {H0 H : Hp} {i n m : Nat} {vs : List V} (h0 : H0 l = none) (h : FB v l H0 i n [some v, some (.ref l)] H) (hp : H p = none) (e : flagL i n ++ vs = flagL i m) : FB v l H0 i m [some v, some (.ref l)] (upd (upd H p (.lst vs)) l (.lst (flagL i n ++ vs))) := by
  obtain ⟨_, s, hl⟩ := h
  refine ⟨rfl, (s.trans (Same.new hp)).mut h0, ?_⟩
  rw [upd_same, e]
theorem flag_len (i n : Nat) : (flagL i n).length = n := by
  unfold flagL
  rw [List.length_map, List.length_range]
theorem scFFlags : FnScope ["_law_error", "_law_found"] ["_law_error"] (defScope s_law_first_flags) := ⟨rfl, rfl, rfl, by decide +kernel, rfl, by decide +kernel, by decide +kernel⟩
theorem ok_FFlags {f : Addr} {fd : FuncData} {C : Nat → Addr} {D : Addr} (F : Fun K "_law_first_flags" "_law_first_flags" s_law_first_flags f fd) (T : Nm2 mg) (Z : Ers P w K mg base C D) : FnOk P w K mg base CX0 1 f fd ["_law_error"] (spFlags K C 6) := by
  refine F.ok scFFlags (fun vs H Q E h => ?_) (fun cdv A outer s H vs Q E hr h => ?_)
  · obtain ⟨v, ts, i, rfl, _⟩ := h
    rfl
  · obtain ⟨v, ts, i, rfl, hi, hE, k⟩ := h
    refine ⟨_, pss_cons (ps_set (i := 1) scFFlags.nd rfl (Or.inl rfl) (pe_lst pa_nil))
      (Evl.pss_cut (ps_expr (pe_bm PySem.F.plainAttrs_list PySem.F.slot_list_extend PySem.F.type_list_extend mt_extend (pv 1) (pa_cons (pe_lst (pa_cons (pe_callB call_isV (by rfl) T.isi (by decide +kernel) (pa_cons (pv 0) (pa_cons (pe_glob (v := .ref (C 0)) (u := .ref (C 0)) rfl Z.e0.m rfl) pa_nil))) (pa_cons (pe_callB call_isV (by rfl) T.isi (by decide +kernel) (pa_cons (pv 0) (pa_cons (pe_glob (v := .ref (C 1)) (u := .ref (C 1)) rfl Z.e1.m rfl) pa_nil))) (pa_cons (pe_callB call_isV (by rfl) T.isi (by decide +kernel) (pa_cons (pv 0) (pa_cons (pe_glob (v := .ref (C 2)) (u := .ref (C 2)) rfl Z.e2.m rfl) pa_nil))) pa_nil)))) pa_nil)))
      (Evl.pss_cut (ps_expr (pe_bm PySem.F.plainAttrs_list PySem.F.slot_list_extend PySem.F.type_list_extend mt_extend (pv 1) (pa_cons (pe_lst (pa_cons (pe_callB call_isV (by rfl) T.isi (by decide +kernel) (pa_cons (pv 0) (pa_cons (pe_glob (v := .ref (C 3)) (u := .ref (C 3)) rfl Z.e3.m rfl) pa_nil))) (pa_cons (pe_callB call_isV (by rfl) T.isi (by decide +kernel) (pa_cons (pv 0) (pa_cons (pe_glob (v := .ref (C 4)) (u := .ref (C 4)) rfl Z.e4.m rfl) pa_nil))) (pa_cons (pe_callB call_isV (by rfl) T.isi (by decide +kernel) (pa_cons (pv 0) (pa_cons (pe_glob (v := .ref (C 5)) (u := .ref (C 5)) rfl Z.e5.m rfl) pa_nil))) pa_nil)))) pa_nil)))
      (pss_one (ps_ret (pv 1))))), ?_⟩
    refine ⟨by show 0 ≤ sizeLine; decide, fun l hl => ?_⟩
    have h0 : FB v l H i 0 [some v, some (.ref l)] (upd H l (.lst [])) := ⟨rfl, Same.new hl, upd_same⟩
    refine ⟨fun σ' H' => FB v l H i 3 σ' H', ?_, ?_⟩
    · obtain ⟨_, s0, hL⟩ := id h0
      obtain ⟨a, d, rfl, hx, _⟩ := hE.same s0
      refine ⟨_, rfl, .inl ⟨rfl, _, SqL.of hL⟩, ?_⟩
      refine ⟨_, rfl, a, C i, d, .ref (C 0), .ref (C 0), _, rfl, hx, Z.ex i hi, .own _, Z.kit i 0 hi (by decide), ?_⟩
      refine ⟨_, rfl, a, C i, d, .ref (C 1), .ref (C 1), _, rfl, hx, Z.ex i hi, .own _, Z.kit i 1 hi (by decide), ?_⟩
      refine ⟨_, rfl, a, C i, d, .ref (C 2), .ref (C 2), _, rfl, hx, Z.ex i hi, .own _, Z.kit i 2 hi (by decide), ?_⟩
      refine ⟨by show 3 ≤ sizeLine; decide, fun p hp => ⟨l, p, _, _, rfl, rfl, Same.new hp _ _ hL, upd_same, Nat.le_trans (by rw [flag_len]; show 0 + 3 ≤ 1000; decide) (by decide), fb_add (m := 3) hl h0 hp rfl⟩⟩
    clear h0
    intro σ1 H2 h0
    obtain ⟨rfl, _⟩ := id h0
    refine ⟨fun σ' H' => FB v l H i 6 σ' H', ?_, ?_⟩
    · obtain ⟨_, s0, hL⟩ := id h0
      obtain ⟨a, d, rfl, hx, _⟩ := hE.same s0
      refine ⟨_, rfl, .inl ⟨rfl, _, SqL.of hL⟩, ?_⟩
      refine ⟨_, rfl, a, C i, d, .ref (C 3), .ref (C 3), _, rfl, hx, Z.ex i hi, .own _, Z.kit i 3 hi (by decide), ?_⟩
      refine ⟨_, rfl, a, C i, d, .ref (C 4), .ref (C 4), _, rfl, hx, Z.ex i hi, .own _, Z.kit i 4 hi (by decide), ?_⟩
      refine ⟨_, rfl, a, C i, d, .ref (C 5), .ref (C 5), _, rfl, hx, Z.ex i hi, .own _, Z.kit i 5 hi (by decide), ?_⟩
      refine ⟨by show 3 ≤ sizeLine; decide, fun p hp => ⟨l, p, _, _, rfl, rfl, Same.new hp _ _ hL, upd_same, Nat.le_trans (by rw [flag_len]; show 3 + 3 ≤ 1000; decide) (by decide), fb_add (m := 6) hl h0 hp rfl⟩⟩
    clear h0
    intro σ1 H2 h0
    obtain ⟨rfl, _⟩ := id h0
    obtain ⟨_, s0, hL⟩ := h0
    exact ⟨_, rfl, k l H2 hl s0 hL⟩
theorem scFlags : FnScope ["_law_error", "_law_found"] ["_law_error"] (defScope s_law_flags) := ⟨rfl, rfl, rfl, by decide +kernel, rfl, by decide +kernel, by decide +kernel⟩
theorem ok_Flags {f fF : Addr} {fd fdF : FuncData} {C : Nat → Addr} {D : Addr} (F : Fun K "_law_flags" "_law_flags" s_law_flags f fd) (T : Nm2 mg) (Z : Ers P w K mg base C D) (G : Cl P w K mg base CX0 1 "_law_first_flags" fF fdF ["_law_error"] (spFlags K C 6)) : FnOk P w K mg base CX0 2 f fd ["_law_error"] (spFlags K C 38) := by
  refine F.ok scFlags (fun vs H Q E h => ?_) (fun cdv A outer s H vs Q E hr h => ?_)
  · obtain ⟨v, ts, i, rfl, _⟩ := h
    rfl
  · obtain ⟨v, ts, i, rfl, hi, hE, k⟩ := h
    refine ⟨_, pss_cons (ps_set (i := 1) scFlags.nd rfl (Or.inl rfl) (G.call hr (pa_cons (pv 0) pa_nil)))
      (Evl.pss_cut (ps_expr (pe_bm PySem.F.plainAttrs_list PySem.F.slot_list_extend PySem.F.type_list_extend mt_extend (pv 1) (pa_cons (pe_lst (pa_cons (pe_callB call_isV (by rfl) T.isi (by decide +kernel) (pa_cons (pv 0) (pa_cons (pe_glob (v := .ref (C 6)) (u := .ref (C 6)) rfl Z.e6.m rfl) pa_nil))) (pa_cons (pe_callB call_isV (by rfl) T.isi (by decide +kernel) (pa_cons (pv 0) (pa_cons (pe_glob (v := .ref (C 7)) (u := .ref (C 7)) rfl Z.e7.m rfl) pa_nil))) (pa_cons (pe_callB call_isV (by rfl) T.isi (by decide +kernel) (pa_cons (pv 0) (pa_cons (pe_glob (v := .ref (C 8)) (u := .ref (C 8)) rfl Z.e8.m rfl) pa_nil))) pa_nil)))) pa_nil)))
      (Evl.pss_cut (ps_expr (pe_bm PySem.F.plainAttrs_list PySem.F.slot_list_extend PySem.F.type_list_extend mt_extend (pv 1) (pa_cons (pe_lst (pa_cons (pe_callB call_isV (by rfl) T.isi (by decide +kernel) (pa_cons (pv 0) (pa_cons (pe_glob (v := .ref (C 9)) (u := .ref (C 9)) rfl Z.e9.m rfl) pa_nil))) (pa_cons (pe_callB call_isV (by rfl) T.isi (by decide +kernel) (pa_cons (pv 0) (pa_cons (pe_glob (v := .ref (C 10)) (u := .ref (C 10)) rfl Z.e10.m rfl) pa_nil))) (pa_cons (pe_callB call_isV (by rfl) T.isi (by decide +kernel) (pa_cons (pv 0) (pa_cons (pe_glob (v := .ref (C 11)) (u := .ref (C 11)) rfl Z.e11.m rfl) pa_nil))) pa_nil)))) pa_nil)))
      (Evl.pss_cut (ps_expr (pe_bm PySem.F.plainAttrs_list PySem.F.slot_list_extend PySem.F.type_list_extend mt_extend (pv 1) (pa_cons (pe_lst (pa_cons (pe_callB call_isV (by rfl) T.isi (by decide +kernel) (pa_cons (pv 0) (pa_cons (pe_glob (v := .ref (C 12)) (u := .ref (C 12)) rfl Z.e12.m rfl) pa_nil))) (pa_cons (pe_callB call_isV (by rfl) T.isi (by decide +kernel) (pa_cons (pv 0) (pa_cons (pe_glob (v := .ref (C 13)) (u := .ref (C 13)) rfl Z.e13.m rfl) pa_nil))) (pa_cons (pe_callB call_isV (by rfl) T.isi (by decide +kernel) (pa_cons (pv 0) (pa_cons (pe_glob (v := .ref (C 14)) (u := .ref (C 14)) rfl Z.e14.m rfl) pa_nil))) pa_nil)))) pa_nil)))
      (Evl.pss_cut (ps_expr (pe_bm PySem.F.plainAttrs_list PySem.F.slot_list_extend PySem.F.type_list_extend mt_extend (pv 1) (pa_cons (pe_lst (pa_cons (pe_callB call_isV (by rfl) T.isi (by decide +kernel) (pa_cons (pv 0) (pa_cons (pe_glob (v := .ref (C 15)) (u := .ref (C 15)) rfl Z.e15.m rfl) pa_nil))) (pa_cons (pe_callB call_isV (by rfl) T.isi (by decide +kernel) (pa_cons (pv 0) (pa_cons (pe_glob (v := .ref (C 16)) (u := .ref (C 16)) rfl Z.e16.m rfl) pa_nil))) (pa_cons (pe_callB call_isV (by rfl) T.isi (by decide +kernel) (pa_cons (pv 0) (pa_cons (pe_glob (v := .ref (C 17)) (u := .ref (C 17)) rfl Z.e17.m rfl) pa_nil))) pa_nil)))) pa_nil)))
      (Evl.pss_cut (ps_expr (pe_bm PySem.F.plainAttrs_list PySem.F.slot_list_extend PySem.F.type_list_extend mt_extend (pv 1) (pa_cons (pe_lst (pa_cons (pe_callB call_isV (by rfl) T.isi (by decide +kernel) (pa_cons (pv 0) (pa_cons (pe_glob (v := .ref (C 18)) (u := .ref (C 18)) rfl Z.e18.m rfl) pa_nil))) (pa_cons (pe_callB call_isV (by rfl) T.isi (by decide +kernel) (pa_cons (pv 0) (pa_cons (pe_glob (v := .ref (C 19)) (u := .ref (C 19)) rfl Z.e19.m rfl) pa_nil))) (pa_cons (pe_callB call_isV (by rfl) T.isi (by decide +kernel) (pa_cons (pv 0) (pa_cons (pe_glob (v := .ref (C 20)) (u := .ref (C 20)) rfl Z.e20.m rfl) pa_nil))) pa_nil)))) pa_nil)))
      (Evl.pss_cut (ps_expr (pe_bm PySem.F.plainAttrs_list PySem.F.slot_list_extend PySem.F.type_list_extend mt_extend (pv 1) (pa_cons (pe_lst (pa_cons (pe_callB call_isV (by rfl) T.isi (by decide +kernel) (pa_cons (pv 0) (pa_cons (pe_glob (v := .ref (C 21)) (u := .ref (C 21)) rfl Z.e21.m rfl) pa_nil))) (pa_cons (pe_callB call_isV (by rfl) T.isi (by decide +kernel) (pa_cons (pv 0) (pa_cons (pe_glob (v := .ref (C 22)) (u := .ref (C 22)) rfl Z.e22.m rfl) pa_nil))) (pa_cons (pe_callB call_isV (by rfl) T.isi (by decide +kernel) (pa_cons (pv 0) (pa_cons (pe_glob (v := .ref (C 23)) (u := .ref (C 23)) rfl Z.e23.m rfl) pa_nil))) pa_nil)))) pa_nil)))
      (Evl.pss_cut (ps_expr (pe_bm PySem.F.plainAttrs_list PySem.F.slot_list_extend PySem.F.type_list_extend mt_extend (pv 1) (pa_cons (pe_lst (pa_cons (pe_callB call_isV (by rfl) T.isi (by decide +kernel) (pa_cons (pv 0) (pa_cons (pe_glob (v := .ref (C 24)) (u := .ref (C 24)) rfl Z.e24.m rfl) pa_nil))) (pa_cons (pe_callB call_isV (by rfl) T.isi (by decide +kernel) (pa_cons (pv 0) (pa_cons (pe_glob (v := .ref (C 25)) (u := .ref (C 25)) rfl Z.e25.m rfl) pa_nil))) (pa_cons (pe_callB call_isV (by rfl) T.isi (by decide +kernel) (pa_cons (pv 0) (pa_cons (pe_glob (v := .ref (C 26)) (u := .ref (C 26)) rfl Z.e26.m rfl) pa_nil))) pa_nil)))) pa_nil)))
      (Evl.pss_cut (ps_expr (pe_bm PySem.F.plainAttrs_list PySem.F.slot_list_extend PySem.F.type_list_extend mt_extend (pv 1) (pa_cons (pe_lst (pa_cons (pe_callB call_isV (by rfl) T.isi (by decide +kernel) (pa_cons (pv 0) (pa_cons (pe_glob (v := .ref (C 27)) (u := .ref (C 27)) rfl Z.e27.m rfl) pa_nil))) (pa_cons (pe_callB call_isV (by rfl) T.isi (by decide +kernel) (pa_cons (pv 0) (pa_cons (pe_glob (v := .ref (C 28)) (u := .ref (C 28)) rfl Z.e28.m rfl) pa_nil))) (pa_cons (pe_callB call_isV (by rfl) T.isi (by decide +kernel) (pa_cons (pv 0) (pa_cons (pe_glob (v := .ref (C 29)) (u := .ref (C 29)) rfl Z.e29.m rfl) pa_nil))) pa_nil)))) pa_nil)))
      (Evl.pss_cut (ps_expr (pe_bm PySem.F.plainAttrs_list PySem.F.slot_list_extend PySem.F.type_list_extend mt_extend (pv 1) (pa_cons (pe_lst (pa_cons (pe_callB call_isV (by rfl) T.isi (by decide +kernel) (pa_cons (pv 0) (pa_cons (pe_glob (v := .ref (C 30)) (u := .ref (C 30)) rfl Z.e30.m rfl) pa_nil))) (pa_cons (pe_callB call_isV (by rfl) T.isi (by decide +kernel) (pa_cons (pv 0) (pa_cons (pe_glob (v := .ref (C 31)) (u := .ref (C 31)) rfl Z.e31.m rfl) pa_nil))) (pa_cons (pe_callB call_isV (by rfl) T.isi (by decide +kernel) (pa_cons (pv 0) (pa_cons (pe_glob (v := .ref (C 32)) (u := .ref (C 32)) rfl Z.e32.m rfl) pa_nil))) pa_nil)))) pa_nil)))
      (Evl.pss_cut (ps_expr (pe_bm PySem.F.plainAttrs_list PySem.F.slot_list_extend PySem.F.type_list_extend mt_extend (pv 1) (pa_cons (pe_lst (pa_cons (pe_callB call_isV (by rfl) T.isi (by decide +kernel) (pa_cons (pv 0) (pa_cons (pe_glob (v := .ref (C 33)) (u := .ref (C 33)) rfl Z.e33.m rfl) pa_nil))) (pa_cons (pe_callB call_isV (by rfl) T.isi (by decide +kernel) (pa_cons (pv 0) (pa_cons (pe_glob (v := .ref (C 34)) (u := .ref (C 34)) rfl Z.e34.m rfl) pa_nil))) (pa_cons (pe_callB call_isV (by rfl) T.isi (by decide +kernel) (pa_cons (pv 0) (pa_cons (pe_glob (v := .ref (C 35)) (u := .ref (C 35)) rfl Z.e35.m rfl) pa_nil))) pa_nil)))) pa_nil)))
      (Evl.pss_cut (ps_expr (pe_bm PySem.F.plainAttrs_list PySem.F.slot_list_extend PySem.F.type_list_extend mt_extend (pv 1) (pa_cons (pe_lst (pa_cons (pe_callB call_isV (by rfl) T.isi (by decide +kernel) (pa_cons (pv 0) (pa_cons (pe_glob (v := .ref (C 36)) (u := .ref (C 36)) rfl Z.e36.m rfl) pa_nil))) (pa_cons (pe_callB call_isV (by rfl) T.isi (by decide +kernel) (pa_cons (pv 0) (pa_cons (pe_glob (v := .ref (C 37)) (u := .ref (C 37)) rfl Z.e37.m rfl) pa_nil))) pa_nil))) pa_nil)))
      (pss_one (ps_ret (pv 1)))))))))))))), ?_⟩
    refine ⟨_, rfl, v, ts, i, rfl, hi, hE, fun l H1 hl s1 hL1 => ?_⟩
    have h0 : FB v l H i 6 [some v, some (.ref l)] H1 := ⟨rfl, s1, hL1⟩
    refine ⟨fun σ' H' => FB v l H i 9 σ' H', ?_, ?_⟩
    · obtain ⟨_, s0, hL⟩ := id h0
      obtain ⟨a, d, rfl, hx, _⟩ := hE.same s0
      refine ⟨_, rfl, .inl ⟨rfl, _, SqL.of hL⟩, ?_⟩
      refine ⟨_, rfl, a, C i, d, .ref (C 6), .ref (C 6), _, rfl, hx, Z.ex i hi, .own _, Z.kit i 6 hi (by decide), ?_⟩
      refine ⟨_, rfl, a, C i, d, .ref (C 7), .ref (C 7), _, rfl, hx, Z.ex i hi, .own _, Z.kit i 7 hi (by decide), ?_⟩
      refine ⟨_, rfl, a, C i, d, .ref (C 8), .ref (C 8), _, rfl, hx, Z.ex i hi, .own _, Z.kit i 8 hi (by decide), ?_⟩
      refine ⟨by show 3 ≤ sizeLine; decide, fun p hp => ⟨l, p, _, _, rfl, rfl, Same.new hp _ _ hL, upd_same, Nat.le_trans (by rw [flag_len]; show 6 + 3 ≤ 1000; decide) (by decide), fb_add (m := 9) hl h0 hp rfl⟩⟩
    clear h0
    intro σ1 H2 h0
    obtain ⟨rfl, _⟩ := id h0
    refine ⟨fun σ' H' => FB v l H i 12 σ' H', ?_, ?_⟩
    · obtain ⟨_, s0, hL⟩ := id h0
      obtain ⟨a, d, rfl, hx, _⟩ := hE.same s0
      refine ⟨_, rfl, .inl ⟨rfl, _, SqL.of hL⟩, ?_⟩
      refine ⟨_, rfl, a, C i, d, .ref (C 9), .ref (C 9), _, rfl, hx, Z.ex i hi, .own _, Z.kit i 9 hi (by decide), ?_⟩
      refine ⟨_, rfl, a, C i, d, .ref (C 10), .ref (C 10), _, rfl, hx, Z.ex i hi, .own _, Z.kit i 10 hi (by decide), ?_⟩
      refine ⟨_, rfl, a, C i, d, .ref (C 11), .ref (C 11), _, rfl, hx, Z.ex i hi, .own _, Z.kit i 11 hi (by decide), ?_⟩
      refine ⟨by show 3 ≤ sizeLine; decide, fun p hp => ⟨l, p, _, _, rfl, rfl, Same.new hp _ _ hL, upd_same, Nat.le_trans (by rw [flag_len]; show 9 + 3 ≤ 1000; decide) (by decide), fb_add (m := 12) hl h0 hp rfl⟩⟩
    clear h0
    intro σ1 H2 h0
    obtain ⟨rfl, _⟩ := id h0
    refine ⟨fun σ' H' => FB v l H i 15 σ' H', ?_, ?_⟩
    · obtain ⟨_, s0, hL⟩ := id h0
      obtain ⟨a, d, rfl, hx, _⟩ := hE.same s0
      refine ⟨_, rfl, .inl ⟨rfl, _, SqL.of hL⟩, ?_⟩
      refine ⟨_, rfl, a, C i, d, .ref (C 12), .ref (C 12), _, rfl, hx, Z.ex i hi, .own _, Z.kit i 12 hi (by decide), ?_⟩
      refine ⟨_, rfl, a, C i, d, .ref (C 13), .ref (C 13), _, rfl, hx, Z.ex i hi, .own _, Z.kit i 13 hi (by decide), ?_⟩
      refine ⟨_, rfl, a, C i, d, .ref (C 14), .ref (C 14), _, rfl, hx, Z.ex i hi, .own _, Z.kit i 14 hi (by decide), ?_⟩
      refine ⟨by show 3 ≤ sizeLine; decide, fun p hp => ⟨l, p, _, _, rfl, rfl, Same.new hp _ _ hL, upd_same, Nat.le_trans (by rw [flag_len]; show 12 + 3 ≤ 1000; decide) (by decide), fb_add (m := 15) hl h0 hp rfl⟩⟩
    clear h0
    intro σ1 H2 h0
    obtain ⟨rfl, _⟩ := id h0
    refine ⟨fun σ' H' => FB v l H i 18 σ' H', ?_, ?_⟩
    · obtain ⟨_, s0, hL⟩ := id h0
      obtain ⟨a, d, rfl, hx, _⟩ := hE.same s0
      refine ⟨_, rfl, .inl ⟨rfl, _, SqL.of hL⟩, ?_⟩
      refine ⟨_, rfl, a, C i, d, .ref (C 15), .ref (C 15), _, rfl, hx, Z.ex i hi, .own _, Z.kit i 15 hi (by decide), ?_⟩
      refine ⟨_, rfl, a, C i, d, .ref (C 16), .ref (C 16), _, rfl, hx, Z.ex i hi, .own _, Z.kit i 16 hi (by decide), ?_⟩
      refine ⟨_, rfl, a, C i, d, .ref (C 17), .ref (C 17), _, rfl, hx, Z.ex i hi, .own _, Z.kit i 17 hi (by decide), ?_⟩
      refine ⟨by show 3 ≤ sizeLine; decide, fun p hp => ⟨l, p, _, _, rfl, rfl, Same.new hp _ _ hL, upd_same, Nat.le_trans (by rw [flag_len]; show 15 + 3 ≤ 1000; decide) (by decide), fb_add (m := 18) hl h0 hp rfl⟩⟩
    clear h0
    intro σ1 H2 h0
    obtain ⟨rfl, _⟩ := id h0
    refine ⟨fun σ' H' => FB v l H i 21 σ' H', ?_, ?_⟩
    · obtain ⟨_, s0, hL⟩ := id h0
      obtain ⟨a, d, rfl, hx, _⟩ := hE.same s0
      refine ⟨_, rfl, .inl ⟨rfl, _, SqL.of hL⟩, ?_⟩
      refine ⟨_, rfl, a, C i, d, .ref (C 18), .ref (C 18), _, rfl, hx, Z.ex i hi, .own _, Z.kit i 18 hi (by decide), ?_⟩
      refine ⟨_, rfl, a, C i, d, .ref (C 19), .ref (C 19), _, rfl, hx, Z.ex i hi, .own _, Z.kit i 19 hi (by decide), ?_⟩
      refine ⟨_, rfl, a, C i, d, .ref (C 20), .ref (C 20), _, rfl, hx, Z.ex i hi, .own _, Z.kit i 20 hi (by decide), ?_⟩
      refine ⟨by show 3 ≤ sizeLine; decide, fun p hp => ⟨l, p, _, _, rfl, rfl, Same.new hp _ _ hL, upd_same, Nat.le_trans (by rw [flag_len]; show 18 + 3 ≤ 1000; decide) (by decide), fb_add (m := 21) hl h0 hp rfl⟩⟩
    clear h0
    intro σ1 H2 h0
    obtain ⟨rfl, _⟩ := id h0
    refine ⟨fun σ' H' => FB v l H i 24 σ' H', ?_, ?_⟩
    · obtain ⟨_, s0, hL⟩ := id h0
      obtain ⟨a, d, rfl, hx, _⟩ := hE.same s0
      refine ⟨_, rfl, .inl ⟨rfl, _, SqL.of hL⟩, ?_⟩
      refine ⟨_, rfl, a, C i, d, .ref (C 21), .ref (C 21), _, rfl, hx, Z.ex i hi, .own _, Z.kit i 21 hi (by decide), ?_⟩
      refine ⟨_, rfl, a, C i, d, .ref (C 22), .ref (C 22), _, rfl, hx, Z.ex i hi, .own _, Z.kit i 22 hi (by decide), ?_⟩
      refine ⟨_, rfl, a, C i, d, .ref (C 23), .ref (C 23), _, rfl, hx, Z.ex i hi, .own _, Z.kit i 23 hi (by decide), ?_⟩
      refine ⟨by show 3 ≤ sizeLine; decide, fun p hp => ⟨l, p, _, _, rfl, rfl, Same.new hp _ _ hL, upd_same, Nat.le_trans (by rw [flag_len]; show 21 + 3 ≤ 1000; decide) (by decide), fb_add (m := 24) hl h0 hp rfl⟩⟩
    clear h0
    intro σ1 H2 h0
    obtain ⟨rfl, _⟩ := id h0
    refine ⟨fun σ' H' => FB v l H i 27 σ' H', ?_, ?_⟩
    · obtain ⟨_, s0, hL⟩ := id h0
      obtain ⟨a, d, rfl, hx, _⟩ := hE.same s0
      refine ⟨_, rfl, .inl ⟨rfl, _, SqL.of hL⟩, ?_⟩
      refine ⟨_, rfl, a, C i, d, .ref (C 24), .ref (C 24), _, rfl, hx, Z.ex i hi, .own _, Z.kit i 24 hi (by decide), ?_⟩
      refine ⟨_, rfl, a, C i, d, .ref (C 25), .ref (C 25), _, rfl, hx, Z.ex i hi, .own _, Z.kit i 25 hi (by decide), ?_⟩
      refine ⟨_, rfl, a, C i, d, .ref (C 26), .ref (C 26), _, rfl, hx, Z.ex i hi, .own _, Z.kit i 26 hi (by decide), ?_⟩
      refine ⟨by show 3 ≤ sizeLine; decide, fun p hp => ⟨l, p, _, _, rfl, rfl, Same.new hp _ _ hL, upd_same, Nat.le_trans (by rw [flag_len]; show 24 + 3 ≤ 1000; decide) (by decide), fb_add (m := 27) hl h0 hp rfl⟩⟩
    clear h0
    intro σ1 H2 h0
    obtain ⟨rfl, _⟩ := id h0
    refine ⟨fun σ' H' => FB v l H i 30 σ' H', ?_, ?_⟩
    · obtain ⟨_, s0, hL⟩ := id h0
      obtain ⟨a, d, rfl, hx, _⟩ := hE.same s0
      refine ⟨_, rfl, .inl ⟨rfl, _, SqL.of hL⟩, ?_⟩
      refine ⟨_, rfl, a, C i, d, .ref (C 27), .ref (C 27), _, rfl, hx, Z.ex i hi, .own _, Z.kit i 27 hi (by decide), ?_⟩
      refine ⟨_, rfl, a, C i, d, .ref (C 28), .ref (C 28), _, rfl, hx, Z.ex i hi, .own _, Z.kit i 28 hi (by decide), ?_⟩
      refine ⟨_, rfl, a, C i, d, .ref (C 29), .ref (C 29), _, rfl, hx, Z.ex i hi, .own _, Z.kit i 29 hi (by decide), ?_⟩
      refine ⟨by show 3 ≤ sizeLine; decide, fun p hp => ⟨l, p, _, _, rfl, rfl, Same.new hp _ _ hL, upd_same, Nat.le_trans (by rw [flag_len]; show 27 + 3 ≤ 1000; decide) (by decide), fb_add (m := 30) hl h0 hp rfl⟩⟩
    clear h0
    intro σ1 H2 h0
    obtain ⟨rfl, _⟩ := id h0
    refine ⟨fun σ' H' => FB v l H i 33 σ' H', ?_, ?_⟩
    · obtain ⟨_, s0, hL⟩ := id h0
      obtain ⟨a, d, rfl, hx, _⟩ := hE.same s0
      refine ⟨_, rfl, .inl ⟨rfl, _, SqL.of hL⟩, ?_⟩
      refine ⟨_, rfl, a, C i, d, .ref (C 30), .ref (C 30), _, rfl, hx, Z.ex i hi, .own _, Z.kit i 30 hi (by decide), ?_⟩
      refine ⟨_, rfl, a, C i, d, .ref (C 31), .ref (C 31), _, rfl, hx, Z.ex i hi, .own _, Z.kit i 31 hi (by decide), ?_⟩
      refine ⟨_, rfl, a, C i, d, .ref (C 32), .ref (C 32), _, rfl, hx, Z.ex i hi, .own _, Z.kit i 32 hi (by decide), ?_⟩
      refine ⟨by show 3 ≤ sizeLine; decide, fun p hp => ⟨l, p, _, _, rfl, rfl, Same.new hp _ _ hL, upd_same, Nat.le_trans (by rw [flag_len]; show 30 + 3 ≤ 1000; decide) (by decide), fb_add (m := 33) hl h0 hp rfl⟩⟩
    clear h0
    intro σ1 H2 h0
    obtain ⟨rfl, _⟩ := id h0
    refine ⟨fun σ' H' => FB v l H i 36 σ' H', ?_, ?_⟩
    · obtain ⟨_, s0, hL⟩ := id h0
      obtain ⟨a, d, rfl, hx, _⟩ := hE.same s0
      refine ⟨_, rfl, .inl ⟨rfl, _, SqL.of hL⟩, ?_⟩
      refine ⟨_, rfl, a, C i, d, .ref (C 33), .ref (C 33), _, rfl, hx, Z.ex i hi, .own _, Z.kit i 33 hi (by decide), ?_⟩
      refine ⟨_, rfl, a, C i, d, .ref (C 34), .ref (C 34), _, rfl, hx, Z.ex i hi, .own _, Z.kit i 34 hi (by decide), ?_⟩
      refine ⟨_, rfl, a, C i, d, .ref (C 35), .ref (C 35), _, rfl, hx, Z.ex i hi, .own _, Z.kit i 35 hi (by decide), ?_⟩
      refine ⟨by show 3 ≤ sizeLine; decide, fun p hp => ⟨l, p, _, _, rfl, rfl, Same.new hp _ _ hL, upd_same, Nat.le_trans (by rw [flag_len]; show 33 + 3 ≤ 1000; decide) (by decide), fb_add (m := 36) hl h0 hp rfl⟩⟩
    clear h0
    intro σ1 H2 h0
    obtain ⟨rfl, _⟩ := id h0
    refine ⟨fun σ' H' => FB v l H i 38 σ' H', ?_, ?_⟩
    · obtain ⟨_, s0, hL⟩ := id h0
      obtain ⟨a, d, rfl, hx, _⟩ := hE.same s0
      refine ⟨_, rfl, .inl ⟨rfl, _, SqL.of hL⟩, ?_⟩
      refine ⟨_, rfl, a, C i, d, .ref (C 36), .ref (C 36), _, rfl, hx, Z.ex i hi, .own _, Z.kit i 36 hi (by decide), ?_⟩
      refine ⟨_, rfl, a, C i, d, .ref (C 37), .ref (C 37), _, rfl, hx, Z.ex i hi, .own _, Z.kit i 37 hi (by decide), ?_⟩
      refine ⟨by show 2 ≤ sizeLine; decide, fun p hp => ⟨l, p, _, _, rfl, rfl, Same.new hp _ _ hL, upd_same, Nat.le_trans (by rw [flag_len]; show 36 + 2 ≤ 1000; decide) (by decide), fb_add (m := 38) hl h0 hp rfl⟩⟩
    clear h0
    intro σ1 H2 h0
    obtain ⟨rfl, _⟩ := id h0
    obtain ⟨_, s0, hL⟩ := h0
    exact ⟨_, rfl, k l H2 hl s0 hL⟩
end
end Law
namespace Law
open PySem L2
/-! ### a thing is equal to itself -/
def Item (x : V) : Prop := flatB x = true ∨ ∃ b, x = .ref b
def Selfy (K : PySem.W.Frag) (C p : Addr) (H : Hp) (x : V) : Prop :=
  scal x x = true ∨ (∃ a xs, x = .ref a ∧ a ≠ p ∧ SqL K H a xs ∧ ∀ y ∈ xs, Item y) ∨ (∃ a xs, x = .ref a ∧ a ≠ p ∧ SqT K H a xs ∧ ∀ y ∈ xs, Item y) ∨
    (∃ a ks, x = .ref a ∧ a ≠ p ∧ H a = some (.dK ks) ∧ ∀ q ∈ ks, valV ks q.1 = some q.2 ∧ Item q.2) ∨ ∃ a many ms, x = .ref a ∧ a ≠ p ∧ SysAt K C H a many ms
theorem keep_sqT {K : PySem.W.Frag} {H H' : Hp} {a p : Addr} {xs : List V} (k : ∀ b o, b ≠ p → H b = some o → H' b = some o) (hp : ∃ ks, H p = some (.dK ks)) (h : SqT K H a xs) : SqT K H' a xs := by
  obtain ⟨ks, hp⟩ := hp
  rcases h with (h | ⟨o, h⟩) | h
  · exact .inl (.inl (k _ _ (ne_of h hp (by intro z; cases z)) h))
  · exact .inl (.inr ⟨o, k _ _ (ne_of h hp (by intro z; cases z)) h⟩)
  · exact .inr h
theorem HandAt.dk {H : Hp} {p : Addr} (h : HandAt H p) : ∃ ks, H p = some (.dK ks) := by
  obtain ⟨ca, cells, a, g, s, t, hp, _⟩ := h
  exact ⟨_, hp⟩
theorem HandAt.same {H H' : Hp} {p : Addr} (s : Same H H') (h : HandAt H p) : HandAt H' p := by
  obtain ⟨ca, cells, a, g, s0, t, hp, hc, r⟩ := h
  exact ⟨ca, cells, a, g, s0, t, s _ _ hp, s _ _ hc, r⟩
theorem Stp.pre {p : Addr} {H H1 H2 : Hp} (s : Same H H1) (t : Stp p H1 H2) : Stp p H H2 := ⟨fun b o n e => t.keep b o n (s b o e), fun c ⟨a, g, s0, u, h⟩ => t.cell c ⟨a, g, s0, u, s _ _ h⟩, t.hand⟩
theorem Stp.post {p : Addr} {H H1 H2 : Hp} (t : Stp p H H1) (s : Same H1 H2) : Stp p H H2 := ⟨fun b o n e => s _ _ (t.keep b o n e), fun c hc => by
  obtain ⟨a, g, s0, u, h⟩ := t.cell c hc
  exact ⟨a, g, s0, u, s _ _ h⟩, t.hand.same s⟩
theorem keep_mvs {K : PySem.W.Frag} {H H' : Hp} {a p : Addr} {ms : List Mv} (k : ∀ b o, b ≠ p → H b = some o → H' b = some o) (hp : ∃ ks, H p = some (.dK ks)) (h : MvsAt K H a ms) : MvsAt K H' a ms := by
  obtain ⟨vs, h1, h2, h3⟩ := h
  refine ⟨vs, keep_sqT k hp h1, h2, fun i v hv => ?_⟩
  obtain ⟨m, hm, b, s, l, e, g1, g2, g3⟩ := h3 i v hv
  exact ⟨m, hm, b, s, l, e, keep_sqT k hp g1, keep_sqT k hp g2, keep_sqT k hp g3⟩
theorem Selfy.stp {K : PySem.W.Frag} {C p : Addr} {H H' : Hp} {x : V} (hh : HandAt H p) (s : Stp p H H') (h : Selfy K C p H x) : Selfy K C p H' x := by
  rcases h with h | ⟨a, xs, e, n, h, i⟩ | ⟨a, xs, e, n, h, i⟩ | ⟨a, ks, e, n, h, i⟩ | ⟨a, many, ms, e, n, dx, mv, h, h2⟩
  · exact .inl h
  · exact .inr (.inl ⟨a, xs, e, n, s.sqL hh h, i⟩)
  · exact .inr (.inr (.inl ⟨a, xs, e, n, s.sqT hh h, i⟩))
  · exact .inr (.inr (.inr (.inl ⟨a, ks, e, n, s.keep _ _ n h, i⟩)))
  · exact .inr (.inr (.inr (.inr ⟨a, many, ms, e, n, dx, mv, s.keep _ _ n h, keep_mvs s.keep hh.dk h2⟩)))
theorem Selfy.same {K : PySem.W.Frag} {C p : Addr} {H H' : Hp} {x : V} (s : Same H H') (h : Selfy K C p H x) : Selfy K C p H' x := by
  rcases h with h | ⟨a, xs, e, n, h, i⟩ | ⟨a, xs, e, n, h, i⟩ | ⟨a, ks, e, n, h, i⟩ | ⟨a, many, ms, e, n, h⟩
  · exact .inl h
  · exact .inr (.inl ⟨a, xs, e, n, s.seq h, i⟩)
  · exact .inr (.inr (.inl ⟨a, xs, e, n, s.sqT h, i⟩))
  · exact .inr (.inr (.inr (.inl ⟨a, ks, e, n, s _ _ h, i⟩)))
  · exact .inr (.inr (.inr (.inr ⟨a, many, ms, e, n, h.same s⟩)))
section
variable {X : Cx}
def DSame : Eqv := fun x y _ => x = y ∧ Item x
theorem eqG_same : EqG X 0 DSame := by
  intro A pins s σ H x y u v sb I rx ry d
  obtain ⟨rfl, h | ⟨b, rfl⟩⟩ := d
  · exact (eqAt_same (A := A) (s := s) rx ry h) X.prog X.w X.xe _ ⟨rfl, H, I, Ext.rfl'⟩
  · cases (show u = Value.ref b from rx)
    cases (show v = Value.ref b from ry)
    exact SeqAt.EqAt.same (A := A) (s := s) (.ref b) X.prog X.w X.xe _ ⟨rfl, H, I, Ext.rfl'⟩
theorem mon_same : Mon DSame := fun _ _ _ _ _ d => d
/-- what the class System's == must be -/
structure SEq (P : Program) (w : World) (K : PySem.W.Frag) (mg : Str → Option Value) (base : Heap) (C : Addr) : Prop where
  fn : ∃ f fd, FnOk P w K mg base CX0 1 f fd ["self", "other"] (spSEq K C) ∧ PySem.W.findIn K (.ref C) "__eq__" = some (some (.ref f)) ∧ PySem.W.isFn K (.ref f) = true ∧ Binds K fd ["self", "other"] []
def RSys (K : PySem.W.Frag) (C : Addr) : Addr → Addr → Hp → Prop := fun a b H => a = b ∧ ∃ many ms, SysAt K C H a many ms
def rSelf (K : PySem.W.Frag) (C : Addr) : R2 := fun x y H Q => x = y ∧ (∃ p, Selfy K C p H x) ∧ ∀ H', Same H H' → Q (.bl true) H'
theorem pairedItems {E : V → V → Prop} : ∀ {xs : List V}, (∀ y ∈ xs, E y y) → Paired E xs xs
  | [], _ => .nil
  | x :: xs, h => .cons (h x List.mem_cons_self) (pairedItems fun y hy => h y (List.mem_cons_of_mem _ hy))
theorem eqV1 {K : PySem.W.Frag} {H : Hp} {y : V} (h : Item y) : EqV K H 1 y y := by
  rcases h with h | ⟨b, rfl⟩
  · exact .inl ⟨rfl, h⟩
  · exact .inr (.inl ⟨b, rfl, rfl⟩)
theorem op_self {C : Addr} (S : SEq X.prog X.w X.K X.mg X.base C) (hr : Room 1 X.A) : OpR X (compareOp .Eq) (rSelf X.K C) := by
  intro pins s σ H x y v u Q I rx ry hq
  obtain ⟨rfl, ⟨p, h⟩, q⟩ := hq
  rcases h with h | ⟨a, xs, e, n, h, i⟩ | ⟨a, xs, e, n, h, i⟩ | ⟨a, ks, e, n, h, i⟩ | ⟨a, many, ms, e, n, h⟩
  · refine op_eq pins s σ H x x v u Q I rx ry ⟨h, ?_⟩
    rw [decide_eq_true rfl]
    exact q H (Same.refl H)
  · exact op_eqV hr.units pins s σ H x x v u Q I rx ry ⟨1, by decide, .inl ⟨a, a, xs, xs, e, e, h, h, pairedItems fun y hy => eqV1 (i y hy)⟩, q H (Same.refl H)⟩
  · exact op_eqG (rcG_tup mon_same eqG_same) hr pins s σ H x x v u Q I rx ry ⟨⟨a, a, xs, xs, e, e, h, h, rfl, fun j y z h1 h2 => by
      rw [h1] at h2
      cases h2
      exact ⟨rfl, i y (List.mem_of_getElem? h1)⟩⟩, fun H' z => q H' z⟩
  · exact op_eqV hr.units pins s σ H x x v u Q I rx ry ⟨1, by decide, .inr ⟨a, a, ks, ks, e, e, h, h, rfl, fun q hq => ⟨q.2, (i q hq).1, eqV1 (i q hq).2⟩⟩, q H (Same.refl H)⟩
  · obtain ⟨f, fd, F, hs, hf, hb⟩ := S.fn
    have F' : FnOk X.prog X.w X.K X.mg X.base CX0 1 f fd ["self", "other"] (spEq (RSys X.K C)) := F.imp fun vs H Q E z => by
      obtain ⟨a, b, rfl, ⟨rfl, many, ms, g⟩, k⟩ := z
      refine ⟨a, a, many, many, ms, ms, rfl, g, g, ?_⟩
      rw [decide_eq_true rfl, decide_eq_true rfl]
      exact k H Ext.rfl'
    obtain ⟨dx, mv, g, g2⟩ := id h
    exact op_eqG (rcG_ins F' hs hf hb pass0) hr pins s σ H x x v u Q I rx ry ⟨⟨a, a, dx, dx, _, _, e, e, g, g, rfl, many, ms, h⟩, fun H' z => q H' z⟩
end
/-- whether it is a truth value is known -/
theorem Selfy.ty {K : PySem.W.Frag} {mg : Str → Option Value} {C p : Addr} {H : Hp} {x : V} (S : SysT K mg C) (kB : PySem.W.kitOne K (.ref C) (.type "bool") = some false) (h : Selfy K C p H x) : ∃ t bb, TyX K H x t ∧ PySem.W.kitOne K t (.type "bool") = some bb := by
  rcases h with h | ⟨a, xs, rfl, n, h, i⟩ | ⟨a, xs, rfl, n, h, i⟩ | ⟨a, ks, rfl, n, h, i⟩ | ⟨a, many, ms, rfl, n, h⟩
  · cases x with
    | non => exact ⟨_, false, .base .non, kit_ty (by decide +kernel)⟩
    | bl b => exact ⟨_, true, .base (.bl b), kit_ty (by decide +kernel)⟩
    | int i => exact ⟨_, false, .base (.int i), kit_ty (by decide +kernel)⟩
    | str z => exact ⟨_, false, .base (.str z), kit_ty (by decide +kernel)⟩
    | byt z => exact ⟨_, false, .byt z, kit_ty (by decide +kernel)⟩
    | flt z => cases h
    | ref z => cases h
    | ty z => cases h
  · refine ⟨.type "list", false, ?_, kit_ty (by decide +kernel)⟩
    rcases h with (h | ⟨o, h⟩) | ⟨o, its, n, hk, hc, _⟩
    · exact .base (.lst h)
    · exact .base (.frz h)
    · exact .kList hk hc
  · exact ⟨.type "tuple", false, tyx_tup h, kit_ty (by decide +kernel)⟩
  · exact ⟨.type "dict", false, .base (.dK h), kit_ty (by decide +kernel)⟩
  · exact ⟨.ref C, false, h.ty S, kB⟩
section
variable {P : Program} {w : World} {K : PySem.W.Frag} {mg : Str → Option Value} {base : Heap}
def spIs (K : PySem.W.Frag) (C : Addr) : Sp := fun vs H Q _ => ∃ (x : V) (p : Addr), vs = [x, x] ∧ Selfy K C p H x ∧ ∀ H', Same H H' → Q (.bl true) H'
theorem scIs : FnScope ["_law_told", "_law_due"] ["_law_told", "_law_due"] (defScope s_law_is) := ⟨rfl, rfl, rfl, by decide +kernel, rfl, by decide +kernel, by decide +kernel⟩
theorem ok_is {f C : Addr} {fd : FuncData} (F : Fun K "_law_is" "_law_is" s_law_is f fd) (T : Nm2 mg) (Y : SysT K mg C) (S : SEq P w K mg base C) (kB : PySem.W.kitOne K (.ref C) (.type "bool") = some false) : FnOk P w K mg base CX0 2 f fd ["_law_told", "_law_due"] (spIs K C) := by
  refine F.ok scIs (fun vs H Q E h => ?_) (fun cdv A outer s H vs Q E hr h => ?_)
  · obtain ⟨x, p, rfl, _⟩ := h
    rfl
  · obtain ⟨x, p, rfl, hx, k⟩ := h
    refine ⟨_, pss_one (ps_ret (pe_and (pe_cmpR (op_self S hr) (pv 0) (pv 1) (nomark _)) (pe_one (pe_cmpR op_eq (pe_callB call_isi (by rfl) T.isi (by decide +kernel) (pa_cons (pv 0) (pa_cons (pe_bltn (v := .ty "bool") (u := .type "bool") (by rfl) T.bool (by decide +kernel) rfl) pa_nil)))
      (pe_callB call_isi (by rfl) T.isi (by decide +kernel) (pa_cons (pv 1) (pa_cons (pe_bltn (v := .ty "bool") (u := .type "bool") (by rfl) T.bool (by decide +kernel) rfl) pa_nil))) (nomark _))))), ?_⟩
    refine ⟨_, rfl, _, rfl, rfl, ⟨p, hx⟩, fun H' s1 => ⟨_, rfl, iteT ?_⟩⟩
    obtain ⟨t, bb, h1, h2⟩ := (hx.same s1).ty Y kB
    refine ⟨_, rfl, _, _, _, _, _, rfl, .ty "bool", h1, h2, _, rfl, _, _, _, _, _, rfl, .ty "bool", h1, h2, rfl, ?_⟩
    rw [decide_eq_true rfl]
    exact k H' s1
def spField (K : PySem.W.Frag) (C : Nat → Addr) : Sp := fun vs H Q _ => ∃ (v : V) (ts : List V) (j : Nat) (t : V), vs = [v, .int (j : Int)] ∧ j < 6 ∧ ErrAt C ts H j v ∧ ts[j]? = some t ∧ ∀ H', Same H H' → Q t H'
theorem scField : FnScope ["_law_error", "_law_number"] ["_law_error", "_law_number"] (defScope s_law_field) := ⟨rfl, rfl, rfl, by decide +kernel, rfl, by decide +kernel, by decide +kernel⟩
theorem lk1 (f : Str) (t : V) : ([(f, t)] : List (Str × V)).lookup f = some t := by simp [List.lookup]
theorem exf_rd {C : Nat → Addr} {ts : List V} {H H' : Hp} {j : Nat} {v t : V} {n : Str} {Q : VK} (T : ExV K (C j)) (no : PySem.W.findIn K (.ref (C j)) (fldE j) = some none) (hE : ErrAt C ts H j v) (s : Same H H') (ht : ts[j]? = some t) (hn : fldE j = n) (q : Q t H') :
    ∃ (a C' dd : Addr) (fs : List (Str × V)) (v' : V), v = .ref a ∧ ExV K C' ∧ PySem.W.findIn K (.ref C') n = some none ∧ H' a = some (exo a C' (some dd)) ∧ H' dd = some (exd dd fs) ∧ fs.lookup n = some v' ∧ Q v' H' := by
  subst hn
  obtain ⟨a, d, rfl, ⟨h1, _⟩, h2⟩ := hE.same s
  obtain ⟨dd, rfl, h3⟩ := h2 t ht
  exact ⟨a, C j, dd, _, t, rfl, T, no, h1, h3, lk1 _ _, q⟩
theorem ok_field {f : Addr} {fd : FuncData} {C : Nat → Addr} {D : Addr} (F : Fun K "_law_field" "_law_field" s_law_field f fd) (Z : Ers P w K mg base C D) : FnOk P w K mg base CX0 1 f fd ["_law_error", "_law_number"] (spField K C) := by
  refine F.ok scField (fun vs H Q E h => ?_) (fun cdv A outer s H vs Q E hr h => ?_)
  · obtain ⟨v, ts, j, t, rfl, _⟩ := h
    rfl
  · obtain ⟨v, ts, j, t, rfl, hj, hE, ht, k⟩ := h
    refine ⟨_, pss_cons (ps_if (pt_cmpR op_in_seq (pv 1) (pe_tup (pa_cons pe_int (pa_cons pe_int pa_nil))) (by rfl)) (pss_one (ps_ret (pe_exf (pv 0)))) pss_nil)
      (pss_cons (ps_if (pt_cmpR op_in_seq (pv 1) (pe_tup (pa_cons pe_int (pa_cons pe_int pa_nil))) (by rfl)) (pss_one (ps_ret (pe_exf (pv 0)))) pss_nil)
      (pss_cons (ps_if (pt_cmpR op_eq (pv 1) pe_int (nomark _)) (pss_one (ps_ret (pe_exf (pv 0)))) pss_nil)
      (pss_cons (ps_if (pt_cmpR op_eq (pv 1) pe_int (nomark _)) (pss_one (ps_ret (pe_exf (pv 0)))) pss_nil)
      (pss_one (ps_ret pe_non))))), ?_⟩
    have go : ∀ {H' : Hp} {n : Str}, Same H H' → fldE j = n → ∃ (a C' dd : Addr) (fs : List (Str × V)) (v' : V), v = .ref a ∧ ExV K C' ∧ PySem.W.findIn K (.ref C') n = some none ∧ H' a = some (exo a C' (some dd)) ∧ H' dd = some (exd dd fs) ∧ fs.lookup n = some v' ∧ Q v' H' :=
      fun s1 hn => exf_rd (Z.ex j (by omega)) (Z.no j hj) hE s1 ht hn (k _ s1)
    refine ⟨_, rfl, by show 2 ≤ sizeLine; decide, fun q hq => ⟨q, _, rfl, .inr (SqT.of upd_same), rfl, rfl, _, rfl, ?_⟩⟩
    have s1 : Same H (upd H q (.tup [V.int 0, V.int 3])) := Same.new hq
    obtain rfl | rfl | rfl | rfl | rfl | rfl : j = 0 ∨ j = 1 ∨ j = 2 ∨ j = 3 ∨ j = 4 ∨ j = 5 := by omega
    · exact iteT ⟨_, rfl, go s1 (by decide +kernel)⟩
    · refine iteF ⟨_, rfl, by show 2 ≤ sizeLine; decide, fun q2 hq2 => ⟨q2, _, rfl, .inr (SqT.of upd_same), rfl, rfl, _, rfl, ?_⟩⟩
      exact iteT ⟨_, rfl, go (s1.trans (Same.new hq2)) (by decide +kernel)⟩
    · refine iteF ⟨_, rfl, by show 2 ≤ sizeLine; decide, fun q2 hq2 => ⟨q2, _, rfl, .inr (SqT.of upd_same), rfl, rfl, _, rfl, ?_⟩⟩
      exact iteT ⟨_, rfl, go (s1.trans (Same.new hq2)) (by decide +kernel)⟩
    · exact iteT ⟨_, rfl, go s1 (by decide +kernel)⟩
    · refine iteF ⟨_, rfl, by show 2 ≤ sizeLine; decide, fun q2 hq2 => ⟨q2, _, rfl, .inr (SqT.of upd_same), rfl, rfl, _, rfl, ?_⟩⟩
      refine iteF ⟨_, rfl, rfl, _, rfl, ?_⟩
      exact iteT ⟨_, rfl, go (s1.trans (Same.new hq2)) (by decide +kernel)⟩
    · refine iteF ⟨_, rfl, by show 2 ≤ sizeLine; decide, fun q2 hq2 => ⟨q2, _, rfl, .inr (SqT.of upd_same), rfl, rfl, _, rfl, ?_⟩⟩
      refine iteF ⟨_, rfl, rfl, _, rfl, ?_⟩
      refine iteF ⟨_, rfl, rfl, _, rfl, ?_⟩
      exact iteT ⟨_, rfl, go (s1.trans (Same.new hq2)) (by decide +kernel)⟩
end
end Law
namespace Law
open PySem PySem.Spec PyProof.Rows L2
section
variable {X : Cx} {a : Addr} {oe : Obj} {cls : Value} {d : Option Addr} {pn : List (Addr × Obj)}
/-- isinstance of the error that a suite holds, its dict there -/
def rIsS (K : PySem.W.Frag) (a : Addr) (cls : Value) (d : Option Addr) : List V → Hp → VK → Prop := fun xs H Q => ∃ (C dd : Addr) (fs : List (Str × V)) (c : V) (cv : Value) (b : Bool), xs = [.ref a, c] ∧ cls = .ref C ∧ ExV K C ∧ d = some dd ∧ H dd = some (.xd fs) ∧ ClsV c cv ∧ PySem.W.kitOne K (.ref C) cv = some b ∧ Q (.bl b) H
theorem call_isS (hz : Zc cls d oe) (hf : ∃ vs, oe.data = .fields vs) : CallR (X.suite a ((a, oe) :: pn)) (.builtin "isinstance") (rIsS X.K a cls d) := by
  intro pins s σ H xs us Q I r h
  obtain ⟨C, dd, fs, c, cv, b, rfl, rfl, T, rfl, hd, k, e, q⟩ := h
  obtain ⟨u1, u2, rfl, r1, r2⟩ := vals2 r
  cases (show u1 = Value.ref a from r1)
  have e2 := k.eq r2
  subst e2
  obtain ⟨hget, _⟩ := I.pin (a, oe) (List.mem_append.mpr (.inl List.mem_cons_self))
  obtain ⟨vs, hv⟩ := hf
  have hx : ObjOk X.prog X.w H s.heap dd (.xd fs) := I.hok dd _ hd
  obtain ⟨mA, hns, hr⟩ := hx
  obtain ⟨od, ho, hl⟩ := lookIn_ns hns
  have J : PySem.W.InstAt s.heap a oe C (some od) := ⟨hget, hz.1, by unfold PySem.W.notCls; rw [hv] <;> rfl, by rw [hz.2]; exact ho⟩
  exact PySem.W.kia_one (PySem.W.kitx_exc T.cl T.ga T.gg T.ox.exC T.ha T.hn T.ht T.hm) I.kIn J e (fun z => nomatch z) fun tk => ⟨.bl b, H, I.kept (t' := tk) fun _ _ z => z, rfl, q⟩
def tXs (K : PySem.W.Frag) (a : Addr) (cls : Value) (d : Option Addr) (n : Str) (te : TE) : TE := fun σ H Q => te σ H fun x H1 => x = .ref a ∧ ∃ (C dd : Addr) (fs : List (Str × V)) (v : V), cls = .ref C ∧ ExV K C ∧ PySem.W.findIn K (.ref C) n = some none ∧ d = some dd ∧ H1 dd = some (.xd fs) ∧ fs.lookup n = some v ∧ Q v H1
theorem pe_xs {e : Expr} {te : TE} {pos : Pos} {n : Str} (hz : Zc cls d oe) (hf : ∃ vs, oe.data = .fields vs) (he : PE (X.suite a ((a, oe) :: pn)) e te) (hb : attributeBase e n X.env (eval e X.env) = eval e X.env := by rfl) :
    PE (X.suite a ((a, oe) :: pn)) (.Attribute e n pos) (tXs X.K a cls d n te) := by
  refine ⟨fun pins s σ H Q I h => ?_⟩
  refine attr_of hb (thn (he.run pins s σ H _ I h) fun u s1 hh => ?_)
  obtain ⟨x, H1, I1, rx, ex, C, dd, fs, v, ec, T, hno, ed, ea, l, q⟩ := hh
  subst ex
  obtain rfl : u = Value.ref a := rx
  subst ec
  subst ed
  obtain ⟨ha, _⟩ := I1.pin (a, oe) (List.mem_append_left _ List.mem_cons_self)
  obtain ⟨vs, hd⟩ := hf
  have hx : ObjOk X.prog X.w H1 s1.heap dd (.xd fs) := I1.hok dd _ ea
  obtain ⟨mA, hns, hr⟩ := hx
  obtain ⟨od, ho, hl⟩ := lookIn_ns hns
  obtain ⟨u, hu, ru⟩ := RelO.some_of (v := v) (o := mA n) (by rw [← l]; exact hr n)
  have J : PySem.W.InstAt s1.heap a oe C (some od) := ⟨ha, hz.1, by unfold PySem.W.notCls; rw [hd] <;> rfl, by rw [hz.2]; exact ho⟩
  exact HandSPX.exc_get I1.kIn J T.ga T.gg T.ox.exC (PySem.W.findObj_own T.hd hno rfl (by rw [hl, hu])) (handed_of ru) ⟨v, H1, I1.tok _, ru, q⟩
end
theorem Er1.pmk {X : Cx} {x f : Str} {C : Addr} {p pos : Pos} {e : Expr} {es : List Expr} {ta : TA} (r : Er1 X.prog X.w X.K X.mg X.base x C f) (hr : Room 2 X.A) (ha : PA X (e :: es) ta) (hg : Gl X x := by rfl) (hdb : (x == ("__debug__" : Str)) = false := by decide)
    (he : starEach (e :: es) X.env = (false, eval e X.env) :: starEach es X.env := by rfl) (hpl : (backTo pos (starEach es X.env)).any (·.1) = false := by rfl) : PMk X (.Call (.Name x p) (e :: es) [] pos) (tMkO C (spIni C f) [] ta) := by
  obtain ⟨fI, fd, ps, h1, h2, h3, h4⟩ := r.fn
  exact pmk_oex r.T.ox h1 h2 h3 hr h4 .nil pass0 hg r.m ha hdb he hpl
section
variable {P : Program} {w : World} {K : PySem.W.Frag} {mg : Str → Option Value} {base : Heap}
def tRz (C : Addr) (f : Str) (W : WX) : TS := fun _ σ H => tMkO C (spIni C f) [] (tCons (tVar 1) tNil) σ H fun cls d H' => W cls d σ H'
def tbC (C : Nat → Addr) (W : WX) : TS :=
  tSeq (tIfS (tTest (tOp rEq (tVar 0) (tC (.int 0)))) (tRz (C 0) (fldE 0) W) tNext) (tSeq (tIfS (tTest (tOp rEq (tVar 0) (tC (.int 1)))) (tRz (C 1) (fldE 1) W) tNext)
    (tSeq (tIfS (tTest (tOp rEq (tVar 0) (tC (.int 2)))) (tRz (C 2) (fldE 2) W) tNext) (tRz (C 4) (fldE 4) W)))
def tsC (K : PySem.W.Frag) (C : Nat → Addr) (a : Addr) (cls : Value) (d : Option Addr) : TS :=
  tSeq (tIfS (tB (tCB (rIsS K a cls d) (tCons (tVar 2) (tCons (tC (.ref (C 0))) tNil)))) (tRet (tXs K a cls d "part" (tVar 2))) tNext)
    (tRet (tIf (tB (tCB (rIsS K a cls d) (tCons (tVar 2) (tCons (tC (.ref (C 4))) tNil)))) (tXs K a cls d "most" (tVar 2)) (tXs K a cls d "number" (tVar 2))))
def spCaught (K : PySem.W.Frag) : Sp := fun vs H Q _ => ∃ (j : Nat) (v : V), vs = [.int (j : Int), v] ∧ j < 4 ∧ ∀ H', Same H H' → Q v H'
theorem scCaught : FnScope ["_law_which", "_law_thing", "e"] ["_law_which", "_law_thing"] (defScope s_law_caught) := ⟨rfl, rfl, rfl, by decide +kernel, rfl, by decide +kernel, by decide +kernel⟩
theorem del_new {H : Hp} {a : Addr} {o : HO} (h : H a = none) : del (upd H a o) a = H := by
  funext b
  unfold del
  by_cases e : b = a
  · rw [if_pos e, e, h]
  · rw [if_neg e, upd_ne e]
theorem rz_same {H : Hp} {a dx : Addr} {o1 o2 o3 o4 : HO} (ha : H a = none) (hd : (upd H a o1) dx = none) : Same H (upd (del (upd (upd (upd H a o1) dx o2) a o3) a) dx o4) := fun b o e => by
  have nb : b ≠ a := ne_of_none e ha
  have z : upd H a o1 b = some o := by
    rw [upd_ne nb]
    exact e
  have nd : b ≠ dx := ne_of_none z hd
  rw [upd_ne nd, del_ne nb, upd_ne nb, upd_ne nd, upd_ne nb]
  exact e
theorem rz_free {H : Hp} {a dx : Addr} {o1 : HO} (hd : (upd H a o1) dx = none) (ne : dx ≠ a) : H dx = none := by
  rw [upd_ne ne] at hd
  exact hd
theorem ok_caught {f : Addr} {fd : FuncData} {C : Nat → Addr} {D : Addr} (F : Fun K "_law_caught" "_law_caught" s_law_caught f fd) (T : Nm2 mg) (Z : Ers P w K mg base C D) (hx : ∀ i, i < 6 → PySem.W.exmOne K (.ref (C i)) (.ref D) = some true) : FnOk P w K mg base CX0 3 f fd ["_law_which", "_law_thing"] (spCaught K) := by
  refine F.ok scCaught (fun vs H Q E h => ?_) (fun cdv A outer s H vs Q E hr h => ?_)
  · obtain ⟨j, v, rfl, _⟩ := h
    rfl
  · obtain ⟨j, v, rfl, hj, k⟩ := h
    refine ⟨_, pss_one (ps_try_as (i := 2) (c := .ref D) (tb := tbC C) (ts := tsC K C) (Wout := fun _ _ _ _ => False) rfl rfl scCaught.nd rfl rfl ⟨rfl, by decide, .inl Z.mD⟩ takes0
      (fun W pn xe tk _ => pss_cons (ps_if (pt_cmpR op_eq (pv 0) pe_int (nomark _)) (pss_one (ps_raise rfl tk (Z.e0.pmk hr (pa_cons (pv 1) pa_nil)))) pss_nil)
        (pss_cons (ps_if (pt_cmpR op_eq (pv 0) pe_int (nomark _)) (pss_one (ps_raise rfl tk (Z.e1.pmk hr (pa_cons (pv 1) pa_nil)))) pss_nil)
        (pss_cons (ps_if (pt_cmpR op_eq (pv 0) pe_int (nomark _)) (pss_one (ps_raise rfl tk (Z.e2.pmk hr (pa_cons (pv 1) pa_nil)))) pss_nil)
        (pss_one (ps_raise rfl tk (Z.e4.pmk hr (pa_cons (pv 1) pa_nil)))))))
      (fun a oe cls d pn hz hf => pss_cons (ps_if (pt_val (pe_callB (call_isS hz hf) (by rfl) T.isi (by decide +kernel) (pa_cons (pv 2) (pa_cons (pe_glob (v := .ref (C 0)) (u := .ref (C 0)) rfl Z.e0.m rfl) pa_nil)))) (pss_one (ps_ret (pe_xs hz hf (pv 2)))) pss_nil)
        (pss_one (ps_ret (pe_ifExp (pt_val (pe_callB (call_isS hz hf) (by rfl) T.isi (by decide +kernel) (pa_cons (pv 2) (pa_cons (pe_glob (v := .ref (C 4)) (u := .ref (C 4)) rfl Z.e4.m rfl) pa_nil)))) (pe_xs hz hf (pv 2)) (pe_xs hz hf (pv 2))))))), ?_⟩
    have f0 : fldE 0 = "part" := by decide +kernel
    have f1 : fldE 1 = "number" := by decide +kernel
    have f2 : fldE 2 = "number" := by decide +kernel
    have f4 : fldE 4 = "most" := by decide +kernel
    have n0 : PySem.W.findIn K (.ref (C 0)) "part" = some none := f0 ▸ Z.no 0 (by decide)
    have n1 : PySem.W.findIn K (.ref (C 1)) "number" = some none := f1 ▸ Z.no 1 (by decide)
    have n2 : PySem.W.findIn K (.ref (C 2)) "number" = some none := f2 ▸ Z.no 2 (by decide)
    have n4 : PySem.W.findIn K (.ref (C 4)) "most" = some none := f4 ▸ Z.no 4 (by decide)
    have l0 : ([(fldE 0, v)] : List (Str × V)).lookup ("part" : Str) = some v := by rw [f0]; exact lk1 _ _
    have l1 : ([(fldE 1, v)] : List (Str × V)).lookup ("number" : Str) = some v := by rw [f1]; exact lk1 _ _
    have l2 : ([(fldE 2, v)] : List (Str × V)).lookup ("number" : Str) = some v := by rw [f2]; exact lk1 _ _
    have l4 : ([(fldE 4, v)] : List (Str × V)).lookup ("most" : Str) = some v := by rw [f4]; exact lk1 _ _
    have d01 : decide ((0 : Nat) = 0) = true := rfl
    obtain rfl | rfl | rfl | rfl : j = 0 ∨ j = 1 ∨ j = 2 ∨ j = 3 := by omega
    · refine ⟨_, rfl, rfl, _, rfl, iteT ⟨_, rfl, by simp, fun ax hax => ⟨ax, v, rfl, upd_same, fun dd hd ne => ⟨rfl, dd, [(_, v)], upd_same, by rw [upd_ne ne, upd_same], rz_free hd ne, ⟨true, hx 0 (by decide), fun _ a ha => ?_, fun q => nomatch q⟩⟩⟩⟩⟩
      refine ⟨_, rfl, C 0, dd, _, .ref (C 0), .ref (C 0), true, rfl, rfl, Z.ex 0 (by decide), rfl, upd_same, .own _, Z.kit 0 0 (by decide) (by decide), _, rfl, iteT ?_⟩
      exact ⟨_, rfl, rfl, C 0, dd, _, v, rfl, Z.ex 0 (by decide), n0, rfl, upd_same, l0, k _ (rz_same hax hd)⟩
    · refine ⟨_, rfl, rfl, _, rfl, iteF ⟨_, rfl, rfl, _, rfl, iteT ⟨_, rfl, by simp, fun ax hax => ⟨ax, v, rfl, upd_same, fun dd hd ne => ⟨rfl, dd, [(_, v)], upd_same, by rw [upd_ne ne, upd_same], rz_free hd ne, ⟨true, hx 1 (by decide), fun _ a ha => ?_, fun q => nomatch q⟩⟩⟩⟩⟩⟩
      refine ⟨_, rfl, C 1, dd, _, .ref (C 0), .ref (C 0), false, rfl, rfl, Z.ex 1 (by decide), rfl, upd_same, .own _, Z.kit 1 0 (by decide) (by decide), _, rfl, iteF ?_⟩
      refine ⟨_, rfl, C 1, dd, _, .ref (C 4), .ref (C 4), false, rfl, rfl, Z.ex 1 (by decide), rfl, upd_same, .own _, Z.kit 1 4 (by decide) (by decide), _, rfl, iteF ?_⟩
      exact ⟨_, rfl, rfl, C 1, dd, _, v, rfl, Z.ex 1 (by decide), n1, rfl, upd_same, l1, k _ (rz_same hax hd)⟩
    · refine ⟨_, rfl, rfl, _, rfl, iteF ⟨_, rfl, rfl, _, rfl, iteF ⟨_, rfl, rfl, _, rfl, iteT ⟨_, rfl, by simp, fun ax hax => ⟨ax, v, rfl, upd_same, fun dd hd ne => ⟨rfl, dd, [(_, v)], upd_same, by rw [upd_ne ne, upd_same], rz_free hd ne, ⟨true, hx 2 (by decide), fun _ a ha => ?_, fun q => nomatch q⟩⟩⟩⟩⟩⟩⟩
      refine ⟨_, rfl, C 2, dd, _, .ref (C 0), .ref (C 0), false, rfl, rfl, Z.ex 2 (by decide), rfl, upd_same, .own _, Z.kit 2 0 (by decide) (by decide), _, rfl, iteF ?_⟩
      refine ⟨_, rfl, C 2, dd, _, .ref (C 4), .ref (C 4), false, rfl, rfl, Z.ex 2 (by decide), rfl, upd_same, .own _, Z.kit 2 4 (by decide) (by decide), _, rfl, iteF ?_⟩
      exact ⟨_, rfl, rfl, C 2, dd, _, v, rfl, Z.ex 2 (by decide), n2, rfl, upd_same, l2, k _ (rz_same hax hd)⟩
    · refine ⟨_, rfl, rfl, _, rfl, iteF ⟨_, rfl, rfl, _, rfl, iteF ⟨_, rfl, rfl, _, rfl, iteF ⟨_, rfl, by simp, fun ax hax => ⟨ax, v, rfl, upd_same, fun dd hd ne => ⟨rfl, dd, [(_, v)], upd_same, by rw [upd_ne ne, upd_same], rz_free hd ne, ⟨true, hx 4 (by decide), fun _ a ha => ?_, fun q => nomatch q⟩⟩⟩⟩⟩⟩⟩
      refine ⟨_, rfl, C 4, dd, _, .ref (C 0), .ref (C 0), false, rfl, rfl, Z.ex 4 (by decide), rfl, upd_same, .own _, Z.kit 4 0 (by decide) (by decide), _, rfl, iteF ?_⟩
      refine ⟨_, rfl, C 4, dd, _, .ref (C 4), .ref (C 4), true, rfl, rfl, Z.ex 4 (by decide), rfl, upd_same, .own _, Z.kit 4 4 (by decide) (by decide), _, rfl, iteT ?_⟩
      exact ⟨_, rfl, rfl, C 4, dd, _, v, rfl, Z.ex 4 (by decide), n4, rfl, upd_same, l4, k _ (rz_same hax hd)⟩
end
end Law
namespace Law
open PySem L2
section
variable {P : Program} {w : World} {K : PySem.W.Frag} {mg : Str → Option Value} {base : Heap}
/-- a thing that may stand in the menu -/
def Thing (K : PySem.W.Frag) (C p : Addr) (H : Hp) (x : V) : Prop := Selfy K C p H x ∧ Item x
theorem Thing.same {C p : Addr} {H H' : Hp} {x : V} (s : Same H H') (h : Thing K C p H x) : Thing K C p H' x := ⟨h.1.same s, h.2⟩
theorem Thing.stp {C p : Addr} {H H' : Hp} {x : V} (hh : HandAt H p) (s : Stp p H H') (h : Thing K C p H x) : Thing K C p H' x := ⟨h.1.stp hh s, h.2⟩
theorem thing_non {C p : Addr} {H : Hp} : Thing K C p H .non := ⟨.inl rfl, .inl rfl⟩
theorem thing_str {C p : Addr} {H : Hp} (z : Str) : Thing K C p H (.str z) := ⟨.inl rfl, .inl rfl⟩
theorem thing_int {C p : Addr} {H : Hp} (z : Int) : Thing K C p H (.int z) := ⟨.inl rfl, .inl rfl⟩
theorem thing_bl {C p : Addr} {H : Hp} (z : Bool) : Thing K C p H (.bl z) := ⟨.inl rfl, .inl rfl⟩
theorem thing_lst {C p a : Addr} {H : Hp} {xs : List V} (n : a ≠ p) (h : H a = some (.lst xs)) (i : ∀ y ∈ xs, Item y) : Thing K C p H (.ref a) := ⟨.inr (.inl ⟨a, xs, rfl, n, SqL.of h, i⟩), .inr ⟨a, rfl⟩⟩
theorem thing_tup {C p a : Addr} {H : Hp} {xs : List V} (n : a ≠ p) (h : H a = some (.tup xs)) (i : ∀ y ∈ xs, Item y) : Thing K C p H (.ref a) := ⟨.inr (.inr (.inl ⟨a, xs, rfl, n, SqT.of h, i⟩)), .inr ⟨a, rfl⟩⟩
theorem thing_dict {C p a : Addr} {H : Hp} {ks : List (Key × V)} (n : a ≠ p) (h : H a = some (.dK ks)) (i : ∀ q ∈ ks, valV ks q.1 = some q.2 ∧ Item q.2) : Thing K C p H (.ref a) := ⟨.inr (.inr (.inr (.inl ⟨a, ks, rfl, n, h, i⟩))), .inr ⟨a, rfl⟩⟩
theorem one_item {x : V} (h : Item x) : ∀ y ∈ [x], Item y := fun y hy => by
  rw [List.mem_singleton.mp hy]
  exact h
theorem no_item : ∀ y ∈ ([] : List V), Item y := fun y hy => by cases hy
theorem at_pick {xs : List V} {d : Int} (d0 : 0 ≤ d) (d1 : d < (xs.length : Int)) : ∃ x, x ∈ xs ∧ atI xs d = some x := by
  obtain ⟨j, rfl⟩ := Int.eq_ofNat_of_zero_le d0
  have hj : j < xs.length := by omega
  exact ⟨xs[j], List.getElem_mem hj, atI_nat (List.getElem?_eq_getElem hj)⟩
def spDeep (K : PySem.W.Frag) (C : Addr) : Sp := fun vs H Q _ => ∃ p : Addr, vs = [.ref p] ∧ HandAt H p ∧ ∀ (x : V) (H' : Hp), Stp p H H' → Thing K C p H' x → Q x H'
theorem scDeep : FnScope ["_law_hand_here", "_law_found", "_law_turn"] ["_law_hand_here"] (defScope s_law_deep) := ⟨rfl, rfl, rfl, by decide +kernel, rfl, by decide +kernel, by decide +kernel⟩
theorem ok_deep {f fD C : Addr} {fd fdD : FuncData} (F : Fun K "_law_deep" "_law_deep" s_law_deep f fd) (mR : mg "range" = none) (D : Cl P w K mg base CX0 1 "_law_draw" fD fdD ["_law_hand_here", "_law_many"] spDraw) : FnOk P w K mg base CX0 2 f fd ["_law_hand_here"] (spDeep K C) := by
  refine F.ok scDeep (fun vs H Q E h => ?_) (fun cdv A outer s H vs Q E hr h => ?_)
  · obtain ⟨p, rfl, _⟩ := h
    rfl
  · obtain ⟨p, rfl, hH, k⟩ := h
    refine ⟨_, pss_cons (ps_set (i := 1) scDeep.nd rfl (Or.inl rfl) (pe_ix ix_list (pe_lst (pa_cons pe_non (pa_cons (pe_tup pa_nil) (pa_cons pe_str pa_nil)))) (D.call hr (pa_cons (pv 0) (pa_cons pe_int pa_nil))) (fun _ _ => rfl)))
      (pss_cons (ps_for PassesOwn.never rfl (pi_range1 rfl mR (pa_cons (pe_op op_add pe_int (D.call hr (pa_cons (pv 0) (pa_cons pe_int pa_nil)))) pa_nil)) (pg_name (i := 2) scDeep.nd rfl (Or.inl rfl))
        (pss_one (ps_set (i := 1) scDeep.nd rfl (Or.inl rfl) (pe_ix ix_list (pe_lst (pa_cons (pe_lst (pa_cons (pv 1) pa_nil)) (pa_cons (pe_tup (pa_cons (pv 1) pa_nil)) (pa_cons (pe_disp (pps_cons pe_int (pv 1) pps_nil) (by rfl) (by rfl) (fun z => by cases z) (by decide)) pa_nil))))
          (D.call hr (pa_cons (pv 0) (pa_cons pe_int pa_nil))) (fun _ _ => rfl)))))
      (pss_one (ps_ret (pv 1)))), ?_⟩
    have hp := hH.dk
    obtain ⟨ks, hp⟩ := hp
    refine ⟨by show 0 ≤ sizeLine; decide, fun t ht => ⟨by show 3 ≤ sizeLine; decide, fun l hl => ?_⟩⟩
    have s1 : Same H (upd H t (.tup [])) := Same.new ht
    have s2 := s1.trans (Same.new (o := .lst [.non, .ref t, .str (Str.ofString "x")]) hl)
    have tp : t ≠ p := fun z => by rw [z, hp] at ht; cases ht
    refine ⟨_, rfl, p, 3, rfl, by decide, by decide, hH.same s2, fun d H1 d0 d1 S => ?_⟩
    obtain ⟨x, hx, ha⟩ := at_pick (xs := [.non, .ref t, .str (Str.ofString "x")]) d0 (by simpa using d1)
    have hl1 : SqL K H1 l [.non, .ref t, .str (Str.ofString "x")] := S.sqL (hH.same s2) (SqL.of upd_same)
    refine ⟨l, _, _, _, rfl, rfl, hl1, ha, ?_⟩
    have T1 : Thing K C p H1 x := by
      rcases List.mem_cons.mp hx with rfl | hx
      · exact thing_non
      rcases List.mem_cons.mp hx with rfl | hx
      · refine thing_tup tp (S.keep _ _ tp ?_) no_item
        rw [upd_ne (ne_of_none upd_same hl), upd_same]
      · rw [List.mem_singleton.mp hx]
        exact thing_str _
    have S1 : Stp p H H1 := S.pre s2
    refine ⟨_, rfl, p, 8, rfl, by decide, by decide, S1.hand, fun d' H2 e0 e1 S2 => ⟨_, _, rfl, rfl, _, rfl, by omega, by omega, ?_⟩⟩
    refine for_range (n := (14 + d').toNat) (fun i σ H' => ∃ (x : V) (u : Option V), σ = [some (.ref p), some x, u] ∧ Stp p H H' ∧ Thing K C p H' x) ⟨x, none, rfl, S1.trans S2, T1.stp S1.hand S2⟩ ?_ ?_
    · rintro i σ H3 hi ⟨x, u, rfl, S3, T3⟩
      obtain ⟨ks3, hp3⟩ := S3.hand.dk
      -- [found], (found,), {0: found}
      refine ⟨_, rfl, by show 1 ≤ sizeLine; decide, fun a ha => ⟨_, rfl, by show 1 ≤ sizeLine; decide, fun b hb c hc => ⟨_, rfl, upd_same, [(Sum.inl 0, x)], rfl, (show 1 ≤ 15 by decide), by show 3 ≤ sizeLine; decide, fun l hl => ?_⟩⟩⟩
      have ap : a ≠ p := fun z => by rw [z, hp3] at ha; cases ha
      have z1 : (upd H3 a (.lst [x])) p = some (.dK ks3) := by rw [upd_ne (Ne.symm ap)]; exact hp3
      have bp : b ≠ p := fun z => by rw [z, z1] at hb; cases hb
      have z2 : (upd (upd H3 a (.lst [x])) b (.tup [x])) p = some (.dK ks3) := by rw [upd_ne (Ne.symm bp)]; exact z1
      have cp : c ≠ p := fun z => by rw [z, z2] at hc; cases hc
      have q1 : Same H3 (upd H3 a (.lst [x])) := Same.new ha
      have q2 : Same (upd H3 a (.lst [x])) (upd (upd H3 a (.lst [x])) b (.tup [x])) := Same.new hb
      have e3 : upd (upd (upd (upd H3 a (.lst [x])) b (.tup [x])) c (.dK [])) c (.dK (mergeK [] [(Sum.inl 0, x)])) = upd (upd (upd H3 a (.lst [x])) b (.tup [x])) c (.dK [(Sum.inl 0, x)]) := upd_upd
      rw [e3] at hl ⊢
      have q3 : Same (upd (upd H3 a (.lst [x])) b (.tup [x])) (upd (upd (upd H3 a (.lst [x])) b (.tup [x])) c (.dK [(Sum.inl 0, x)])) := Same.new hc
      have q4 := Same.new (o := .lst [.ref a, .ref b, .ref c]) hl
      have q := ((q1.trans q2).trans q3).trans q4
      have ga : Thing K C p (upd (upd (upd (upd H3 a (.lst [x])) b (.tup [x])) c (.dK [(Sum.inl 0, x)])) l (.lst [.ref a, .ref b, .ref c])) (.ref a) := thing_lst ap (((q2.trans q3).trans q4) _ _ upd_same) (one_item T3.2)
      have gb : Thing K C p (upd (upd (upd (upd H3 a (.lst [x])) b (.tup [x])) c (.dK [(Sum.inl 0, x)])) l (.lst [.ref a, .ref b, .ref c])) (.ref b) := thing_tup bp ((q3.trans q4) _ _ upd_same) (one_item T3.2)
      have gc : Thing K C p (upd (upd (upd (upd H3 a (.lst [x])) b (.tup [x])) c (.dK [(Sum.inl 0, x)])) l (.lst [.ref a, .ref b, .ref c])) (.ref c) := thing_dict cp (q4 _ _ upd_same) (fun q hq => by
        rw [List.mem_singleton.mp hq]
        exact ⟨valV_pos rfl, T3.2⟩)
      refine ⟨_, rfl, p, 3, rfl, by decide, by decide, S3.hand.same q, fun d H4 d0 d1 S4 => ?_⟩
      obtain ⟨y, hy, hat⟩ := at_pick (xs := [.ref a, .ref b, .ref c]) d0 (by simpa using d1)
      refine ⟨l, _, _, _, rfl, rfl, S4.sqL (S3.hand.same q) (SqL.of upd_same), hat, y, _, rfl, S3.trans (S4.pre q), ?_⟩
      refine Thing.stp (S3.hand.same q) S4 ?_
      rcases List.mem_cons.mp hy with rfl | hy
      · exact ga
      rcases List.mem_cons.mp hy with rfl | hy
      · exact gb
      · rw [List.mem_singleton.mp hy]
        exact gc
    · rintro σ H3 ⟨x, u, rfl, S3, T3⟩
      exact ⟨_, rfl, k x H3 S3 T3⟩
end
end Law
namespace Law
open PySem L2
theorem flag_cnt : ∀ i : Fin 38, ((List.range 38).map fun j => decide (i.val = j)).count true = 1 := by decide +kernel
theorem flag_count {i : Nat} (h : i < 38) : ((List.range 38).map fun j => decide (i = j)).count true = 1 := flag_cnt ⟨i, h⟩
theorem flag_bl (i n : Nat) : flagL i n = ((List.range n).map fun j => decide (i = j)).map V.bl := by
  unfold flagL
  rw [List.map_map]
  rfl
theorem flag_at {i : Nat} (h : i < 38) : atI (flagL i 38) ((i : Nat) : Int) = some (.bl true) := by
  refine atI_nat ?_
  unfold flagL
  rw [List.getElem?_map, List.getElem?_range h, Option.map_some, decide_eq_true rfl]
theorem at_len {xs : List V} {i : Nat} (h : i < xs.length) : ∃ x, xs[i]? = some x ∧ x ∈ xs ∧ atI xs ((i : Nat) : Int) = some x := ⟨xs[i], List.getElem?_eq_getElem h, List.getElem_mem h, atI_nat (List.getElem?_eq_getElem h)⟩
theorem sys1 : SysOk 1 [((1, 1), [0])] where
  m1 := by decide
  m2 := by decide
  l1 := by decide
  l2 := by decide
  mv := fun m hm => by
    rw [List.mem_singleton.mp hm]
    exact ⟨⟨by decide, by decide, by decide⟩, by decide, by decide, rfl, by decide⟩
  one := by decide
section
variable {P : Program} {w : World} {K : PySem.W.Frag} {mg : Str → Option Value} {base : Heap}
def spLaw (K : PySem.W.Frag) : Sp := fun vs H Q _ => ∃ (a : Addr) (ns : List Int), vs = [.ref a] ∧ SqL K H a (ns.map V.int) ∧ ns.length ≤ 63 ∧ ∀ H', Q (.bl true) H'
abbrev NL : List Str := ["_law_script", "_law_hand_here", "_law_menu", "_law_number", "_law_things", "_law_errors", "_law_error", "_law_flags_here", "_law_which"]
theorem scLaw : FnScope NL ["_law_script"] (defScope s_law) := ⟨rfl, rfl, rfl, by decide +kernel, rfl, by decide +kernel, by decide +kernel⟩
structure Ctx (P : Program) (w : World) (K : PySem.W.Frag) (mg : Str → Option Value) (base : Heap) (C : Nat → Addr) (D S : Addr) : Prop where
  T : Nm2 mg
  Z : Ers P w K mg base C D
  Y : SysT K mg S
  rng : mg "range" = none
  ve : mg "ValueError" = none
  hand : ∃ f fd, Cl P w K mg base CX0 1 "_law_hand" f fd ["_law_script"] (spHand K)
  draw : ∃ f fd, Cl P w K mg base CX0 1 "_law_draw" f fd ["_law_hand_here", "_law_many"] spDraw
  any : ∃ f fd, Cl P w K mg base CX0 2 "_law_any" f fd ["_law_hand_here", "_law_things"] (spAny K)
  deep : ∃ f fd, Cl P w K mg base CX0 2 "_law_deep" f fd ["_law_hand_here"] (spDeep K S)
  made : ∃ f fd, Cl P w K mg base CX0 3 "_law_made" f fd ["_law_things"] (spMade K C)
  flags : ∃ f fd, Cl P w K mg base CX0 2 "_law_flags" f fd ["_law_error"] (spFlags K C 38)
  field : ∃ f fd, Cl P w K mg base CX0 1 "_law_field" f fd ["_law_error", "_law_number"] (spField K C)
  caught : ∃ f fd, Cl P w K mg base CX0 3 "_law_caught" f fd ["_law_which", "_law_thing"] (spCaught K)
  is_ : ∃ f fd, Cl P w K mg base CX0 2 "_law_is" f fd ["_law_told", "_law_due"] (spIs K S)
  mkS : ∃ f fd, Mk K S f ∧ FnOk P w K mg base CX0 5 f fd ["self", "many", "moves"] (spSInit K S) ∧ Binds K fd ["self", "many", "moves"] []
theorem ok_law {f : Addr} {fd : FuncData} {C : Nat → Addr} {D S : Addr} (F : Fun K "law" "law" s_law f fd) (X : Ctx P w K mg base C D S) : FnOk P w K mg base CX0 7 f fd ["_law_script"] (spLaw K) := by
  obtain ⟨T, Z, Y, mR, mV, ⟨fH, dH, hand⟩, ⟨fD, dD, draw⟩, ⟨fA, dA, any⟩, ⟨fP, dP, deep⟩, ⟨fM, dM, made⟩, ⟨fF, dF, flags⟩, ⟨fI, dI, field⟩, ⟨fC, dC, caught⟩, ⟨fS, dS, is_⟩, ⟨fK, dK, MK, GK, BK⟩⟩ := X
  refine F.ok scLaw (fun vs H Q E h => ?_) (fun cdv A outer s H vs Q E hr h => ?_)
  · obtain ⟨a, ns, rfl, _⟩ := h
    rfl
  · obtain ⟨a, ns, rfl, hS, h63, k⟩ := h
    have r1 : Room 1 _ := hr.mono (by decide)
    have r2 : Room 2 _ := hr.mono (by decide)
    have r3 : Room 3 _ := hr.mono (by decide)
    refine ⟨_, pss_cons (ps_set (i := 1) scLaw.nd rfl (Or.inr rfl) (hand.call r1 (pa_cons (pv 0) pa_nil)))
      (pss_cons (ps_set (i := 2) scLaw.nd rfl (Or.inr rfl) (pe_lst (pa_cons pe_str (pa_cons pe_int (pa_cons pe_int (pa_cons (pe_un un_neg pe_int) (pa_cons pe_non (pa_cons pe_bl (pa_cons (pe_tup (pa_cons pe_str (pa_cons pe_int pa_nil))) (pa_cons (pe_tup pa_nil)
          (pa_cons (pe_lst (pa_cons pe_int (pa_cons (pe_lst (pa_cons pe_int pa_nil)) pa_nil))) (pa_cons (pe_disp (pps_cons pe_str pe_int pps_nil) (by rfl) (by rfl) (fun z => by cases z) (by decide)) (pa_cons (pe_op op_pow pe_int pe_int) (pa_cons pe_str
          (pa_cons (pe_tup (pa_cons (pe_tup (pa_cons pe_int (pa_cons pe_int pa_nil))) pa_nil)) pa_nil)))))))))))))))
      (pss_cons (ps_set (i := 2) scLaw.nd rfl (Or.inr rfl) (pe_op op_cat (pv 2) (pe_lst (pa_cons (deep.call r2 (pa_cons (pv 1) pa_nil)) (pa_cons (pe_make MK GK hr (by rfl) Y.mgC BK .nil pass0
          (pa_cons pe_int (pa_cons (pe_tup (pa_cons (pe_tup (pa_cons (pe_tup (pa_cons pe_int (pa_cons pe_int pa_nil))) (pa_cons (pe_tup (pa_cons pe_int pa_nil)) pa_nil))) pa_nil)) pa_nil))) pa_nil)))))
      (pss_cons (ps_setLc (i := 4) (own := [("_law_number", 3)]) (g := gName 3) (tt := tYes) rfl scLaw.nd rfl rfl (sw_true rfl rfl rfl (by decide +kernel)) (pi_range1 (by rfl) mR (pa_cons pe_int pa_nil))
          (blkOk_by (own := [("_law_number", 3)]) (N := NL) (sc := defScope s_law) (by decide +kernel)) (fun _ _ _ _ _ => pg_name (i := 3) scLaw.nd rfl (Or.inl rfl)) (fun _ _ _ _ _ => pts_nil)
          (fun _ _ _ _ _ => any.call r2 (pa_cons (pv 1) (pa_cons (pv 2) pa_nil))))
      (pss_cons (ps_set (i := 5) scLaw.nd rfl (Or.inl rfl) (made.call r3 (pa_cons (pv 4) pa_nil)))
      (pss_cons (ps_if (pt_cmpR op_ne (pe_callB call_len_seq (by rfl) T.len PySem.boot_len (pa_cons (pv 5) pa_nil)) pe_int (nomark _)) (pss_one (ps_ret pe_bl)) pss_nil)
      (pss_cons (ps_for PassesOwn.never rfl (pi_range1 (by rfl) mR (pa_cons (pe_callB call_len_seq (by rfl) T.len PySem.boot_len (pa_cons (pv 5) pa_nil)) pa_nil)) (pg_name (i := 3) scLaw.nd rfl (Or.inl rfl))
        (pss_cons (ps_set (i := 6) scLaw.nd rfl (Or.inl rfl) (pe_ix ix_list (pv 5) (pv 3) (fun _ _ => rfl)))
        (pss_cons (ps_set (i := 7) scLaw.nd rfl (Or.inl rfl) (flags.call r2 (pa_cons (pv 6) pa_nil)))
        (pss_cons (ps_if (PW.pt (pw_or (pt_not (pt_val (pe_ix ix_list (pv 7) (pv 3) (fun _ _ => rfl)))) (pw_or (pt_cmpR op_ne (pe_bm PySem.F.plainAttrs_list PySem.F.slot_list_count PySem.F.type_list_count mt_bcount (pv 7) (pa_cons pe_bl pa_nil)) pe_int (nomark _))
            (pw_or1 (pt_cmpR op_ne (pe_callB call_len_seq (by rfl) T.len PySem.boot_len (pa_cons (pv 7) pa_nil)) (pe_callB call_len_seq (by rfl) T.len PySem.boot_len (pa_cons (pv 5) pa_nil)) (nomark _)))))) (pss_one (ps_ret pe_bl)) pss_nil)
        (pss_cons (ps_if (PW.pt (pw_or (pt_not (pt_val (pe_callB call_isV (by rfl) T.isi (by decide +kernel) (pa_cons (pv 6) (pa_cons (pe_glob (v := .ref D) (u := .ref D) (by rfl) Z.mD (by rfl)) pa_nil)))))
            (pw_or1 (pt_not (pt_val (pe_callB call_isV (by rfl) T.isi (by decide +kernel) (pa_cons (pv 6) (pa_cons (pe_bltn (v := .ty "ValueError") (u := .type "ValueError") (by rfl) mV (by decide +kernel) rfl) pa_nil)))))))) (pss_one (ps_ret pe_bl)) pss_nil)
        (pss_one (ps_if (PW.pt (pw_and (pt_cmpR op_lt (pv 3) pe_int (nomark _)) (pw_and1 (pt_not (pt_val (is_.call r2 (pa_cons (field.call r1 (pa_cons (pv 6) (pa_cons (pv 3) pa_nil))) (pa_cons (pe_ix ix_list (pv 4) (pv 3) (fun _ _ => rfl)) pa_nil)))))))) (pss_one (ps_ret pe_bl)) pss_nil)))))))
      (pss_cons (ps_set (i := 8) scLaw.nd rfl (Or.inl rfl) (draw.call r1 (pa_cons (pv 1) (pa_cons pe_int pa_nil))))
      (pss_one (ps_ret (is_.call r2 (pa_cons (caught.call r3 (pa_cons (pv 8) (pa_cons (pe_ix ix_list (pv 4) (pe_ix ix_list (pe_lst (pa_cons pe_int (pa_cons pe_int (pa_cons pe_int (pa_cons pe_int pa_nil))))) (pv 8) (fun _ _ => rfl)) (fun _ _ => rfl)) pa_nil)))
        (pa_cons (pe_ix ix_list (pv 4) (pe_ix ix_list (pe_lst (pa_cons pe_int (pa_cons pe_int (pa_cons pe_int (pa_cons pe_int pa_nil))))) (pv 8) (fun _ _ => rfl)) (fun _ _ => rfl)) pa_nil)))))))))))), ?_⟩
    -- the hand
    refine ⟨_, rfl, a, ns, rfl, hS, h63, fun p H1 hp0 s1 hH => ?_⟩
    obtain ⟨ks, hp⟩ := hH.dk
    have nw : ∀ {H' : Hp} {t : Addr}, Same H1 H' → H' t = none → t ≠ p := fun s ht z => by
      have q := s _ _ hp
      rw [z, q] at ht
      cases ht
    -- the menu
    refine ⟨_, rfl, by show 2 ≤ sizeLine; decide, fun t1 ht1 => ?_⟩
    have g1 : (upd H1 t1 (.tup [.str (Str.ofString "tie"), .int 1])) t1 = some (.tup [.str (Str.ofString "tie"), .int 1]) := upd_same
    have s2 : Same H1 (upd H1 t1 (.tup [.str (Str.ofString "tie"), .int 1])) := Same.new ht1
    have n1 := nw (Same.refl H1) ht1
    generalize upd H1 t1 (.tup [.str (Str.ofString "tie"), .int 1]) = H2 at g1 s2 ⊢
    have T1 : Thing K S p H2 (.ref t1) := thing_tup n1 g1 (fun y hy => by
      rcases List.mem_cons.mp hy with rfl | hy
      · exact .inl rfl
      · rw [List.mem_singleton.mp hy]
        exact .inl rfl)
    refine ⟨by show 0 ≤ sizeLine; decide, fun t2 ht2 => ?_⟩
    have g2 : (upd H2 t2 (.tup [])) t2 = some (.tup []) := upd_same
    have s3 : Same H2 (upd H2 t2 (.tup [])) := Same.new ht2
    have n2 := nw s2 ht2
    generalize upd H2 t2 (.tup []) = H3 at g2 s3 ⊢
    have T2 : Thing K S p H3 (.ref t2) := thing_tup n2 g2 no_item
    have u3 := s2.trans s3
    refine ⟨by show 1 ≤ sizeLine; decide, fun l1 hl1 => ?_⟩
    have s4 : Same H3 (upd H3 l1 (.lst [.int 2])) := Same.new hl1
    generalize upd H3 l1 (.lst [.int 2]) = H4 at s4 ⊢
    have u4 := u3.trans s4
    refine ⟨by show 2 ≤ sizeLine; decide, fun l2 hl2 => ?_⟩
    have g5 : (upd H4 l2 (.lst [.int 1, .ref l1])) l2 = some (.lst [.int 1, .ref l1]) := upd_same
    have s5 : Same H4 (upd H4 l2 (.lst [.int 1, .ref l1])) := Same.new hl2
    have n5 := nw u4 hl2
    generalize upd H4 l2 (.lst [.int 1, .ref l1]) = H5 at g5 s5 ⊢
    have u5 := u4.trans s5
    have T5 : Thing K S p H5 (.ref l2) := thing_lst n5 g5 (fun y hy => by
      rcases List.mem_cons.mp hy with rfl | hy
      · exact .inl rfl
      · rw [List.mem_singleton.mp hy]
        exact .inr ⟨_, rfl⟩)
    intro d1 hd1
    refine ⟨upd_same, [(Sum.inr (Str.ofString "a"), .int 1)], rfl, (show 1 ≤ 15 by decide), ?_⟩
    have e6 : upd (upd H5 d1 (.dK [])) d1 (.dK (mergeK [] [(Sum.inr (Str.ofString "a"), .int 1)])) = upd H5 d1 (.dK [(Sum.inr (Str.ofString "a"), .int 1)]) := upd_upd
    rw [e6]
    have g6 : (upd H5 d1 (.dK [(Sum.inr (Str.ofString "a"), .int 1)])) d1 = some (.dK [(Sum.inr (Str.ofString "a"), .int 1)]) := upd_same
    have s6 : Same H5 (upd H5 d1 (.dK [(Sum.inr (Str.ofString "a"), .int 1)])) := Same.new hd1
    have n6 := nw u5 hd1
    generalize upd H5 d1 (.dK [(Sum.inr (Str.ofString "a"), .int 1)]) = H6 at g6 s6 ⊢
    have u6 := u5.trans s6
    have T6 : Thing K S p H6 (.ref d1) := thing_dict n6 g6 (fun q hq => by
      rw [List.mem_singleton.mp hq]
      exact ⟨valV_pos rfl, .inl rfl⟩)
    refine ⟨_, _, rfl, rfl, ⟨by decide, by decide, by decide⟩, by show 2 ≤ sizeLine; decide, fun t3 ht3 => ?_⟩
    have s7 : Same H6 (upd H6 t3 (.tup [.int 0, .int 1])) := Same.new ht3
    generalize upd H6 t3 (.tup [.int 0, .int 1]) = H7 at s7 ⊢
    have u7 := u6.trans s7
    refine ⟨by show 1 ≤ sizeLine; decide, fun t4 ht4 => ?_⟩
    have g8 : (upd H7 t4 (.tup [.ref t3])) t4 = some (.tup [.ref t3]) := upd_same
    have s8 : Same H7 (upd H7 t4 (.tup [.ref t3])) := Same.new ht4
    have n8 := nw u7 ht4
    generalize upd H7 t4 (.tup [.ref t3]) = H8 at g8 s8 ⊢
    have u8 := u7.trans s8
    have T8 : Thing K S p H8 (.ref t4) := thing_tup n8 g8 (one_item (.inr ⟨_, rfl⟩))
    have menu : ∃ xs : List V, xs.length = 13 ∧ (∀ y ∈ xs, Thing K S p H8 y) ∧ xs = [.str (Str.ofString "many"), .int 0, .int 3, .int (-1), .non, .bl true, .ref t1, .ref t2, .ref l2, .ref d1, .int ((10 : Int) ^ (11 : Int).toNat), .str (Str.ofString ""), .ref t4] := by
      refine ⟨_, rfl, ?_, rfl⟩
      intro y hy
      simp only [List.mem_cons, List.not_mem_nil, or_false] at hy
      rcases hy with rfl | rfl | rfl | rfl | rfl | rfl | rfl | rfl | rfl | rfl | rfl | rfl | rfl
      · exact thing_str _
      · exact thing_int _
      · exact thing_int _
      · exact thing_int _
      · exact thing_non
      · exact thing_bl _
      · exact T1.same (((((s3.trans s4).trans s5).trans s6).trans s7).trans s8)
      · exact T2.same ((((s4.trans s5).trans s6).trans s7).trans s8)
      · exact T5.same ((s6.trans s7).trans s8)
      · exact T6.same (s7.trans s8)
      · exact thing_int _
      · exact thing_str _
      · exact T8
    obtain ⟨xs, hxl, hxT, hxe⟩ := menu
    refine ⟨by show 13 ≤ sizeLine; decide, fun m1 hm1 => ?_⟩
    rw [← hxe]
    clear hxe
    have g9 : (upd H8 m1 (.lst xs)) m1 = some (.lst xs) := upd_same
    have s9 : Same H8 (upd H8 m1 (.lst xs)) := Same.new hm1
    have n9 := nw u8 hm1
    generalize upd H8 m1 (.lst xs) = H9 at g9 s9 ⊢
    have u9 := u8.trans s9
    -- + [_law_deep(..), System(1, ..)]
    refine ⟨_, rfl, _, rfl, p, rfl, hH.same u9, fun x HA SA TA => ?_⟩
    refine ⟨by show 2 ≤ sizeLine; decide, fun q1 hq1 => ⟨by show 1 ≤ sizeLine; decide, fun q2 hq2 => ⟨by show 2 ≤ sizeLine; decide, fun q3 hq3 => ⟨by show 1 ≤ sizeLine; decide, fun q4 hq4 => ?_⟩⟩⟩⟩
    have b1 : Same HA (upd HA q1 (.tup [.int 1, .int 1])) := Same.new hq1
    have b2 : Same (upd HA q1 (.tup [.int 1, .int 1])) (upd (upd HA q1 (.tup [.int 1, .int 1])) q2 (.tup [.int 0])) := Same.new hq2
    have b3 : Same (upd (upd HA q1 (.tup [.int 1, .int 1])) q2 (.tup [.int 0])) (upd (upd (upd HA q1 (.tup [.int 1, .int 1])) q2 (.tup [.int 0])) q3 (.tup [.ref q1, .ref q2])) := Same.new hq3
    have b4 : Same (upd (upd (upd HA q1 (.tup [.int 1, .int 1])) q2 (.tup [.int 0])) q3 (.tup [.ref q1, .ref q2])) (upd (upd (upd (upd HA q1 (.tup [.int 1, .int 1])) q2 (.tup [.int 0])) q3 (.tup [.ref q1, .ref q2])) q4 (.tup [.ref q3])) := Same.new hq4
    have MV : MvsAt K (upd (upd (upd (upd HA q1 (.tup [.int 1, .int 1])) q2 (.tup [.int 0])) q3 (.tup [.ref q1, .ref q2])) q4 (.tup [.ref q3])) q4 [((1, 1), [0])] :=
      ⟨[.ref q3], SqT.of upd_same, rfl, fun i v hv => by
        cases i with
        | zero =>
          cases hv
          exact ⟨_, rfl, q3, q1, q2, rfl, SqT.of (b4 _ _ upd_same), SqT.of ((b2.trans (b3.trans b4)) _ _ upd_same), SqT.of ((b3.trans b4) _ _ upd_same)⟩
        | succ i => simp at hv⟩
    have bA := ((b1.trans b2).trans b3).trans b4
    generalize upd (upd (upd (upd HA q1 (.tup [.int 1, .int 1])) q2 (.tup [.int 0])) q3 (.tup [.ref q1, .ref q2])) q4 (.tup [.ref q3]) = HB at MV bA ⊢
    intro y dy hy hdy ney
    have c1 : Same HB (upd (upd HB dy (.own y)) y (.ins S dy [])) := fun b o e => by
      rw [upd_ne (ne_of_none e hy), upd_ne (ne_of_none e hdy)]
      exact e
    refine ⟨y, dy, 1, q4, [((1, 1), [0])], rfl, upd_same, MV.same c1, sys1, fun HC kC hC => ⟨rfl, ?_⟩⟩
    have cC : Same HB HC := fun b o e => kC b o (ne_of_none e hy) (c1 b o e)
    have yp : y ≠ p := fun z => by
      obtain ⟨k2, h2⟩ := (SA.hand.same bA).dk
      rw [z, h2] at hy
      cases hy
    have TY : Thing K S p HC (.ref y) := ⟨.inr (.inr (.inr (.inr ⟨y, 1, _, rfl, yp, dy, q4, hC, MV.same cC⟩))), .inr ⟨y, rfl⟩⟩
    have sAC := bA.trans cC
    refine ⟨by show 2 ≤ sizeLine; decide, fun l3 hl3 => ?_⟩
    have g10 : (upd HC l3 (.lst [x, .ref y])) l3 = some (.lst [x, .ref y]) := upd_same
    have s10 : Same HC (upd HC l3 (.lst [x, .ref y])) := Same.new hl3
    generalize upd HC l3 (.lst [x, .ref y]) = HD at g10 s10 ⊢
    have S9 : Stp p H9 HD := (SA.post sAC).post s10
    refine ⟨m1, l3, xs, _, rfl, rfl, S9.keep _ _ n9 g9, g10, Nat.le_trans (by rw [hxl]; show 13 + 2 ≤ 1000; decide) (by decide), fun m2 hm2 => ?_⟩
    have s11 : Same HD (upd HD m2 (.lst (xs ++ [x, .ref y]))) := Same.new hm2
    have g11 : (upd HD m2 (.lst (xs ++ [x, .ref y]))) m2 = some (.lst (xs ++ [x, .ref y])) := upd_same
    generalize upd HD m2 (.lst (xs ++ [x, .ref y])) = HM at g11 s11 ⊢
    have SM : Stp p H9 HM := S9.post s11
    have TM : ∀ z ∈ xs ++ [x, .ref y], Thing K S p HM z := fun z hz => by
      rcases List.mem_append.mp hz with hz | hz
      · exact ((hxT z hz).same s9).stp (hH.same u9) SM
      rcases List.mem_cons.mp hz with rfl | hz
      · exact (TA.same sAC).same (s10.trans s11)
      · rw [List.mem_singleton.mp hz]
        exact TY.same (s10.trans s11)
    have hlM : (xs ++ [x, V.ref y]).length = 15 := by rw [List.length_append, hxl]; rfl
    generalize hms : xs ++ [x, V.ref y] = ms at g11 TM hlM
    have hHM := SM.hand
    obtain ⟨kM, hpM⟩ := hHM.dk
    -- the things
    refine ⟨6, rfl, by decide, by decide, fun Dt hD => ?_⟩
    have sD : Same HM (upd HM Dt (.lst [])) := Same.new hD
    have np : Dt ≠ p := fun z => by rw [z, hpM] at hD; cases hD
    refine lc_range (lo := 0) (n := 6) (fun i H' => Stp p HM H' ∧ ∃ acc : List V, H' Dt = some (.lst acc) ∧ acc.length = i ∧ ∀ z ∈ acc, z ∈ ms) ⟨(Stp.refl hHM).post sD, [], upd_same, rfl, fun z hz => by cases hz⟩ ?_ ?_
    · rintro i H' hi ⟨S1, acc, h1, h2, h3⟩
      refine ⟨rfl, _, rfl, _, rfl, p, m2, ms, rfl, .inl (S1.sqL hHM (SqL.of g11)), by omega, by omega, S1.hand, fun j z H2 hz S2 => ?_⟩
      have hD2 := S2.keep _ _ np h1
      refine ⟨acc, hD2, small1000 (by omega), (S1.trans S2).mut hHM hD, acc ++ [z], upd_same, by rw [List.length_append, h2]; rfl, fun z' hz' => ?_⟩
      rcases List.mem_append.mp hz' with hz' | hz'
      · exact h3 z' hz'
      · rw [List.mem_singleton.mp hz']
        exact List.mem_of_getElem? hz
    · rintro HT ⟨ST, ts, hT, h6, TTm⟩
      have TT : ∀ z ∈ ts, Thing K S p HT z := fun z hz => (TM z (TTm z hz)).stp hHM ST
      have hHT := ST.hand
      clear TTm
      -- the errors
      refine ⟨_, rfl, Dt, ts, rfl, SqL.of hT, h6, fun l es HE hl sE hE h38 hEs => ?_⟩
      refine ⟨_, rfl, l, _, rfl, .inl (SqL.of hE), rfl, _, rfl, ?_⟩
      rw [h38, decide_eq_true (show V.int ((38 : Nat) : Int) = V.int 38 from rfl)]
      refine iteF ?_
      refine ⟨_, rfl, l, _, rfl, .inl (SqL.of hE), ((es.length : Nat) : Int), rfl, by rw [h38]; decide, by rw [h38]; decide, ?_⟩
      rw [h38]
      refine for_range (lo := 0) (n := 38) (fun i σ H' => Same HE H' ∧ ∃ u3 u6 u7 : Option V, σ = [some (.ref a), some (.ref p), some (.ref m2), u3, some (.ref Dt), some (.ref l), u6, u7, none]) ⟨Same.refl HE, _, _, _, rfl⟩ ?_ ?_
      · rintro i σ H' hi ⟨s1, u3, u6, u7, rfl⟩
        rw [Int.zero_add]
        obtain ⟨v, hv, hvm, hat⟩ := at_len (xs := es) (i := i) (by rw [h38]; exact hi)
        have hEi : ErrAt C ts HE i v := by
          have z := hEs.get hv
          rw [Nat.zero_add] at z
          exact z
        refine ⟨_, rfl, _, rfl, l, es, _, _, rfl, rfl, SqL.of (s1 _ _ hE), hat, ?_⟩
        refine ⟨_, rfl, v, ts, i, rfl, hi, hEi.same s1, fun fl H2 hfl s2 hL => ?_⟩
        have s12 := s1.trans s2
        have hLb : SqL K H2 fl (((List.range 38).map fun j => decide (i = j)).map V.bl) := by
          rw [← flag_bl]
          exact SqL.of hL
        -- its flags
        refine ⟨_, rfl, _, rfl, fl, _, _, _, rfl, rfl, SqL.of hL, flag_at hi, _, rfl, iteF ?_⟩
        refine ⟨_, rfl, .inl ⟨rfl, _, SqL.of hL⟩, fl, _, true, rfl, rfl, hLb, rfl, _, rfl, ?_⟩
        rw [flag_count hi, decide_eq_true (show V.int ((1 : Nat) : Int) = V.int 1 from rfl)]
        refine iteF ⟨_, rfl, fl, _, rfl, .inl (SqL.of hL), _, rfl, l, _, rfl, .inl (SqL.of (s12 _ _ hE)), rfl, _, rfl, ?_⟩
        rw [flag_len, h38, decide_eq_true rfl]
        refine iteF ?_
        -- DrawError, ValueError
        obtain ⟨av, dv, rfl, hx, hx2⟩ := hEi.same s12
        refine ⟨_, rfl, av, C i, dv, .ref D, .ref D, true, rfl, hx, Z.ex i hi, .own D, Z.kitD i hi, _, rfl, iteF ?_⟩
        refine ⟨_, rfl, av, C i, dv, .ty "ValueError", .type "ValueError", true, rfl, hx, Z.ex i hi, .ty _, Z.kitV i hi, _, rfl, iteF ?_⟩
        -- the field
        refine ⟨_, rfl, _, _, rfl, rfl, _, rfl, ite2 (fun h => ?_) (fun h => ?_)⟩
        · have hi6 : i < 6 := by
            have z := of_decide_eq_true h
            omega
          obtain ⟨t, ht, htm, hat2⟩ := at_len (xs := ts) (i := i) (by rw [h6]; exact hi6)
          refine ⟨_, rfl, _, rfl, _, ts, i, t, rfl, hi6, hEi.same s12, ht, fun H3 s3 => ?_⟩
          have s123 := s12.trans s3
          have tl : SqL K H3 Dt ts := SqL.of ((sE.trans s123) _ _ hT)
          refine ⟨_, rfl, _, rfl, Dt, ts, _, t, rfl, rfl, tl, hat2, t, p, rfl, ((TT t htm).same (sE.trans s123)).1, fun H4 s4 => ⟨_, rfl, iteF ?_⟩⟩
          exact ⟨s123.trans s4, _, _, _, rfl⟩
        · exact ⟨s12, _, _, _, rfl⟩
      · rintro σ H' ⟨s1, u3, u6, u7, rfl⟩
        have sE1 := sE.trans s1
        refine ⟨_, rfl, p, 4, rfl, by decide, by decide, hHT.same sE1, fun d H2 d0 d1 S2 => ?_⟩
        have npT : Dt ≠ p := np
        have tl2 : H2 Dt = some (.lst ts) := S2.keep _ _ npT (sE1 _ _ hT)
        have TT2 : ∀ z ∈ ts, Thing K S p H2 z := fun z hz => ((TT z hz).same sE1).stp (hHT.same sE1) S2
        obtain ⟨j, rfl⟩ := Int.eq_ofNat_of_zero_le d0
        have hj : j < 4 := by omega
        have pick : ∃ kk : Int, atI [V.int 0, V.int 1, V.int 2, V.int 4] ((j : Nat) : Int) = some (.int kk) ∧ ∃ t, t ∈ ts ∧ atI ts kk = some t := by
          obtain rfl | rfl | rfl | rfl : j = 0 ∨ j = 1 ∨ j = 2 ∨ j = 3 := by omega
          · obtain ⟨t, _, h1, h2⟩ := at_len (xs := ts) (i := 0) (by omega)
            exact ⟨0, atI_nat rfl, t, h1, h2⟩
          · obtain ⟨t, _, h1, h2⟩ := at_len (xs := ts) (i := 1) (by omega)
            exact ⟨1, atI_nat rfl, t, h1, h2⟩
          · obtain ⟨t, _, h1, h2⟩ := at_len (xs := ts) (i := 2) (by omega)
            exact ⟨2, atI_nat rfl, t, h1, h2⟩
          · obtain ⟨t, _, h1, h2⟩ := at_len (xs := ts) (i := 4) (by omega)
            exact ⟨4, atI_nat rfl, t, h1, h2⟩
        obtain ⟨kk, hk1, t, htm, hk2⟩ := pick
        refine ⟨_, rfl, _, rfl, by show 4 ≤ sizeLine; decide, fun q1 hq1 => ?_⟩
        have c1 : Same H2 (upd H2 q1 (.lst [.int 0, .int 1, .int 2, .int 4])) := Same.new hq1
        refine ⟨_, rfl, q1, _, _, _, rfl, rfl, SqL.of upd_same, hk1, Dt, ts, _, t, rfl, rfl, SqL.of (c1 _ _ tl2), hk2, ?_⟩
        refine ⟨j, t, rfl, hj, fun H3 s3 => ?_⟩
        refine ⟨_, rfl, by show 4 ≤ sizeLine; decide, fun q2 hq2 => ?_⟩
        have c2 : Same H3 (upd H3 q2 (.lst [.int 0, .int 1, .int 2, .int 4])) := Same.new hq2
        refine ⟨_, rfl, q2, _, _, _, rfl, rfl, SqL.of upd_same, hk1, Dt, ts, _, t, rfl, rfl, SqL.of (((c1.trans s3).trans c2) _ _ tl2), hk2, ?_⟩
        exact ⟨t, p, rfl, ((TT2 t htm).same ((c1.trans s3).trans c2)).1, fun H4 s4 => k H4⟩
end
end Law
set_option maxHeartbeats 0
namespace Law
open PySem PySem.Spec PyProof.Rows L2
theorem ba3 {a b : Bool} (h : (a && b) = true) : a = true ∧ b = true := Bool.and_eq_true_iff.mp h
theorem optT_ok {o : Option Bool} (h : optT o = true) : o = some true := by
  cases o with
  | none => cases h
  | some b =>
    cases b with
    | true => rfl
    | false => cases h
theorem clsB_ok {K : PySem.W.Frag} {C : Addr} (h : clsB K C = true) : ∃ nm q N bs bm sn sub ab col dd k0 k1 k2 k3 k5, K.lookup C = some (excClassObj nm q C N bs bm true sn sub ab col dd k0 k1 k2 k3 k5 "ValueError.__new__") ∧ PySem.HandSPX.refsVE bm = true := by
  unfold clsB at h
  split at h
  · rename_i dd cd sl ho
    split at h
    · rename_i C' bm k0 k1 k2 k3 n k5 hm hs
      obtain ⟨h1, h⟩ := ba3 h
      obtain ⟨h2, h⟩ := ba3 h
      obtain ⟨h3, h⟩ := ba3 h
      obtain ⟨h4, h5⟩ := ba3 h
      obtain ⟨nm, bs, mro, ns, qn, hd, sn, sb, ab, col, del⟩ := cd
      have e1 := of_decide_eq_true h1
      have e2 := of_decide_eq_true h2
      dsimp only at hm h3 h4
      have e3 : del = false := by simpa using h3
      have es : sl = #[k0, k1, k2, k3, some (.builtin n), k5] := by
        have z := congrArg List.toArray hs
        simpa using z
      subst e1 e2 e3 es hm h4
      exact ⟨nm, qn, ns, bs, bm, sn, sb, ab, col, dd, k0, k1, k2, k3, k5, ho, h5⟩
    · cases h
  · cases h
theorem exvB_ok {K : PySem.W.Frag} {C : Addr} (h : exvB K C = true) : ExV K C := by
  obtain ⟨h1, h⟩ := ba3 h
  obtain ⟨h2, h⟩ := ba3 h
  obtain ⟨h3, h⟩ := ba3 h
  obtain ⟨h4, h⟩ := ba3 h
  obtain ⟨h5, h⟩ := ba3 h
  obtain ⟨h6, h⟩ := ba3 h
  obtain ⟨h7, h⟩ := ba3 h
  obtain ⟨h8, h⟩ := ba3 h
  obtain ⟨h9, h⟩ := ba3 h
  obtain ⟨h10, h⟩ := ba3 h
  obtain ⟨h11, h⟩ := ba3 h
  obtain ⟨h12, h13⟩ := ba3 h
  exact ⟨⟨clsB_ok h1, He.eqO_ok h2, optT_ok h3, of_decide_eq_true h4, h5⟩, h6, He.eqO_ok h7, He.eqO_ok h8, He.eqO_ok h9, He.eqO_ok h10, optT_ok h11, optT_ok h12, h13⟩
theorem kit_mro {K : PySem.W.Frag} {Ci Cj D : Addr} (hm : mroB K Ci D = true) (hj : (PySem.W.clsIn K Cj).isSome = true) (tj : PySem.W.typeIn K (.ref Cj) = some (.type "type")) : PySem.W.kitOne K (.ref Ci) (.ref Cj) = some (decide (Ci = Cj) || decide (D = Cj)) := by
  have e := of_decide_eq_true hm
  obtain ⟨cd, hc, hr⟩ := Option.map_eq_some_iff.mp e
  unfold PySem.W.kitOne
  by_cases h : Ci = Cj
  · subst h
    rw [if_pos (by simp), decide_eq_true rfl] <;> rfl
  · rw [if_neg (by simp [h])]
    show (if ((PySem.W.clsIn K Cj).isSome && PySem.W.typeIn K (.ref Cj) == some (.type "type")) = true then PySem.W.subIn K (.ref Ci) (.ref Cj) else none) = _
    rw [if_pos (by rw [hj, tj]; rfl)]
    show ((PySem.W.clsIn K Ci).bind fun cd => if cd.mro.isEmpty then none else some (cd.mro.contains (.ref Cj))) = _
    rw [hc]
    show (if cd.mro.isEmpty = true then none else some (cd.mro.contains (Value.ref Cj))) = _
    rw [hr, if_neg (by simp), decide_eq_false h]
    by_cases h2 : D = Cj
    · subst h2
      simp
    · simp [h, h2, Ne.symm h, Ne.symm h2, eq_comm]
theorem kit_ve {K : PySem.W.Frag} {Ci D : Addr} (hm : mroB K Ci D = true) : PySem.W.kitOne K (.ref Ci) (.type "ValueError") = some true := by
  have e := of_decide_eq_true hm
  obtain ⟨cd, hc, hr⟩ := Option.map_eq_some_iff.mp e
  unfold PySem.W.kitOne
  rw [if_neg (by simp)]
  show (if PySem.W.kitMeta "ValueError" = true then PySem.W.subIn K (.ref Ci) (.type "ValueError") else none) = _
  rw [if_pos (by decide +kernel)]
  show ((PySem.W.clsIn K Ci).bind fun cd => if cd.mro.isEmpty then none else some (cd.mro.contains (.type "ValueError"))) = _
  rw [hc]
  show (if cd.mro.isEmpty = true then none else some (cd.mro.contains (Value.type "ValueError"))) = _
  rw [hr, if_neg (by simp)]
  simp
theorem asc_head {K : PySem.W.Frag} : ∀ (l : List Str) (a : Str), ascB K (a :: l) = true → ∀ x ∈ l, He.ga K a < He.ga K x
  | [], _, _, x, hx => by cases hx
  | b :: l, a, h, x, hx => by
    obtain ⟨h1, h2⟩ := ba3 (show (Nat.blt (He.ga K a) (He.ga K b) && ascB K (b :: l)) = true from h)
    have e : He.ga K a < He.ga K b := Nat.le_of_ble_eq_true h1
    rcases List.mem_cons.mp hx with rfl | hx
    · exact e
    · exact Nat.lt_trans e (asc_head l b h2 x hx)
theorem asc_tail {K : PySem.W.Frag} {a : Str} {l : List Str} (h : ascB K (a :: l) = true) : ascB K l = true := by
  cases l with
  | nil => rfl
  | cons b l => exact (ba3 (show (Nat.blt (He.ga K a) (He.ga K b) && ascB K (b :: l)) = true from h)).2
theorem asc_lt {K : PySem.W.Frag} : ∀ (l : List Str) (i j : Nat), ascB K l = true → i < j → j < l.length → He.ga K (l.getD i "") < He.ga K (l.getD j "")
  | [], _, _, _, _, h => absurd h (Nat.not_lt_zero _)
  | a :: l, 0, j + 1, h, _, hj => by
    have hj' : j < l.length := by simpa using hj
    show He.ga K a < He.ga K (l.getD j "")
    refine asc_head l a h _ ?_
    rw [List.getD_eq_getElem?_getD, List.getElem?_eq_getElem hj']
    exact List.getElem_mem hj'
  | a :: l, i + 1, j + 1, h, hij, hj => asc_lt l i j (asc_tail h) (by omega) (by simpa using hj)
  | _ :: _, _, 0, _, h, _ => absurd h (Nat.not_lt_zero _)
def adrE (K : PySem.W.Frag) (j : Nat) : Addr := He.ga K (errNames.getD j "")
theorem fldE_0 : fldE 0 = "part" := by decide +kernel
theorem fldE_1 : fldE 1 = "number" := by decide +kernel
theorem fldE_2 : fldE 2 = "number" := by decide +kernel
theorem fldE_3 : fldE 3 = "part" := by decide +kernel
theorem fldE_4 : fldE 4 = "most" := by decide +kernel
theorem fldE_5 : fldE 5 = "name" := by decide +kernel
theorem err_len : errNames.length = 38 := rfl
section
variable {P : Program} {w : World} {K : PySem.W.Frag} {h : Heap} {mg : Str → Option Value} {base : Heap}
theorem err_at (e : errB K = true) (j : Nat) (hj : j < 38) : ExV K (adrE K j) ∧ mroB K (adrE K j) (He.ga K "DrawError") = true ∧ iniB K (adrE K j) = true := by
  obtain ⟨h1, _⟩ := ba3 e
  have hm : errNames.getD j "" ∈ errNames := by
    rw [List.getD_eq_getElem?_getD, List.getElem?_eq_getElem (by rw [err_len]; exact hj)]
    exact List.getElem_mem _
  obtain ⟨a, b⟩ := ba3 (List.all_eq_true.mp h1 _ hm)
  obtain ⟨b, c⟩ := ba3 b
  exact ⟨exvB_ok a, b, c⟩
theorem adr_ne (e : errB K = true) {i j : Nat} (hi : i < 38) (hj : j < 38) (h : adrE K i = adrE K j) : i = j := by
  have h2 := (ba3 (ba3 e).2).1
  have g : ∀ a b, a < b → b < 38 → adrE K a < adrE K b := fun a b hab hb => asc_lt ("DrawError" :: errNames) (a + 1) (b + 1) h2 (by omega) (by rw [List.length_cons, err_len]; omega)
  rcases Nat.lt_trichotomy i j with z | z | z
  · exact absurd h (Nat.ne_of_lt (g i j z hj))
  · exact z
  · exact absurd h.symm (Nat.ne_of_lt (g j i z hi))
theorem adr_neD (e : errB K = true) {j : Nat} (hj : j < 38) : He.ga K "DrawError" ≠ adrE K j := by
  have h2 := (ba3 (ba3 e).2).1
  exact Nat.ne_of_lt (asc_lt ("DrawError" :: errNames) 0 (j + 1) h2 (by omega) (by rw [List.length_cons, err_len]; omega))
theorem kit_ij (e : errB K = true) (i j : Nat) (hi : i < 38) (hj : j < 38) : PySem.W.kitOne K (.ref (adrE K i)) (.ref (adrE K j)) = some (decide (i = j)) := by
  have a := err_at e i hi
  have b := err_at e j hj
  rw [kit_mro a.2.1 b.1.cl b.1.ox.tyC, decide_eq_false (adr_neD e hj), Bool.or_false]
  by_cases z : i = j
  · subst z
    rw [decide_eq_true rfl, decide_eq_true rfl]
  · rw [decide_eq_false z, decide_eq_false fun y => z (adr_ne e hi hj y)]
theorem kit_D (e : errB K = true) (i : Nat) (hi : i < 38) : PySem.W.kitOne K (.ref (adrE K i)) (.ref (He.ga K "DrawError")) = some true := by
  obtain ⟨h3, h4⟩ := ba3 (ba3 (ba3 e).2).2
  rw [kit_mro (err_at e i hi).2.1 h3 (of_decide_eq_true h4), decide_eq_true (p := He.ga K "DrawError" = He.ga K "DrawError") rfl, Bool.or_true]

theorem ers_of (X : K.In h) (G : h.Ns mainGlobals mg) (c : He.SaysD fas fns K) (e : errB K = true) : Ers P w K mg base (adrE K) (He.ga K "DrawError") where
  e0 := by
    obtain ⟨T, _, i⟩ := err_at e 0 (by decide)
    obtain ⟨i1, i2⟩ := ba3 i
    obtain ⟨fd, F⟩ := c.def_ 0 rfl
    have F := funD_fun (st := s_BadSystem_init) F
    have no : PySem.W.findIn K (.ref (adrE K 0)) (fldE 0) = some none := by
      rw [fldE_0]
      exact He.noat_ok (c.fact 81 (f := .noat "BadSystem" "part") rfl)
    have ok := ok_E0 (P := P) (w := w) (mg := mg) (base := base) F T.ox (by rw [← fldE_0]; exact no)
    rw [← fldE_0] at ok
    exact ⟨T, He.glo_ok X G (c.fact 1 (f := .glo "BadSystem") rfl), no, _, fd, _, He.eqO_ok i1, of_decide_eq_true i2, ok, F.binds fun _ _ _ _ _ _ us hl => match us, hl with | [_, _], _ => rfl⟩
  e1 := by
    obtain ⟨T, _, i⟩ := err_at e 1 (by decide)
    obtain ⟨i1, i2⟩ := ba3 i
    obtain ⟨fd, F⟩ := c.def_ 1 rfl
    have F := funD_fun (st := s_BadLine_init) F
    have no : PySem.W.findIn K (.ref (adrE K 1)) (fldE 1) = some none := by
      rw [fldE_1]
      exact He.noat_ok (c.fact 82 (f := .noat "BadLine" "number") rfl)
    have ok := ok_E1 (P := P) (w := w) (mg := mg) (base := base) F T.ox (by rw [← fldE_1]; exact no)
    rw [← fldE_1] at ok
    exact ⟨T, He.glo_ok X G (c.fact 2 (f := .glo "BadLine") rfl), no, _, fd, _, He.eqO_ok i1, of_decide_eq_true i2, ok, F.binds fun _ _ _ _ _ _ us hl => match us, hl with | [_, _], _ => rfl⟩
  e2 := by
    obtain ⟨T, _, i⟩ := err_at e 2 (by decide)
    obtain ⟨i1, i2⟩ := ba3 i
    obtain ⟨fd, F⟩ := c.def_ 2 rfl
    have F := funD_fun (st := s_BadCoin_init) F
    have no : PySem.W.findIn K (.ref (adrE K 2)) (fldE 2) = some none := by
      rw [fldE_2]
      exact He.noat_ok (c.fact 83 (f := .noat "BadCoin" "number") rfl)
    have ok := ok_E2 (P := P) (w := w) (mg := mg) (base := base) F T.ox (by rw [← fldE_2]; exact no)
    rw [← fldE_2] at ok
    exact ⟨T, He.glo_ok X G (c.fact 3 (f := .glo "BadCoin") rfl), no, _, fd, _, He.eqO_ok i1, of_decide_eq_true i2, ok, F.binds fun _ _ _ _ _ _ us hl => match us, hl with | [_, _], _ => rfl⟩
  e3 := by
    obtain ⟨T, _, i⟩ := err_at e 3 (by decide)
    obtain ⟨i1, i2⟩ := ba3 i
    obtain ⟨fd, F⟩ := c.def_ 3 rfl
    have F := funD_fun (st := s_BadModel_init) F
    have no : PySem.W.findIn K (.ref (adrE K 3)) (fldE 3) = some none := by
      rw [fldE_3]
      exact He.noat_ok (c.fact 84 (f := .noat "BadModel" "part") rfl)
    have ok := ok_E3 (P := P) (w := w) (mg := mg) (base := base) F T.ox (by rw [← fldE_3]; exact no)
    rw [← fldE_3] at ok
    exact ⟨T, He.glo_ok X G (c.fact 4 (f := .glo "BadModel") rfl), no, _, fd, _, He.eqO_ok i1, of_decide_eq_true i2, ok, F.binds fun _ _ _ _ _ _ us hl => match us, hl with | [_, _], _ => rfl⟩
  e4 := by
    obtain ⟨T, _, i⟩ := err_at e 4 (by decide)
    obtain ⟨i1, i2⟩ := ba3 i
    obtain ⟨fd, F⟩ := c.def_ 4 rfl
    have F := funD_fun (st := s_TooMany_init) F
    have no : PySem.W.findIn K (.ref (adrE K 4)) (fldE 4) = some none := by
      rw [fldE_4]
      exact He.noat_ok (c.fact 85 (f := .noat "TooMany" "most") rfl)
    have ok := ok_E4 (P := P) (w := w) (mg := mg) (base := base) F T.ox (by rw [← fldE_4]; exact no)
    rw [← fldE_4] at ok
    exact ⟨T, He.glo_ok X G (c.fact 5 (f := .glo "TooMany") rfl), no, _, fd, _, He.eqO_ok i1, of_decide_eq_true i2, ok, F.binds fun _ _ _ _ _ _ us hl => match us, hl with | [_, _], _ => rfl⟩
  e5 := by
    obtain ⟨T, _, i⟩ := err_at e 5 (by decide)
    obtain ⟨i1, i2⟩ := ba3 i
    obtain ⟨fd, F⟩ := c.def_ 5 rfl
    have F := funD_fun (st := s_NoName_init) F
    have no : PySem.W.findIn K (.ref (adrE K 5)) (fldE 5) = some none := by
      rw [fldE_5]
      exact He.noat_ok (c.fact 86 (f := .noat "NoName" "name") rfl)
    have ok := ok_E5 (P := P) (w := w) (mg := mg) (base := base) F T.ox (by rw [← fldE_5]; exact no)
    rw [← fldE_5] at ok
    exact ⟨T, He.glo_ok X G (c.fact 6 (f := .glo "NoName") rfl), no, _, fd, _, He.eqO_ok i1, of_decide_eq_true i2, ok, F.binds fun _ _ _ _ _ _ us hl => match us, hl with | [_, _], _ => rfl⟩
  e6 := by
    obtain ⟨T, _, i⟩ := err_at e 6 (by decide)
    obtain ⟨i1, i2⟩ := ba3 i
    obtain ⟨fd, F⟩ := c.def_ 6 rfl
    have F := funD_fun (st := s_NoRow_init) F
    exact ⟨T, He.glo_ok X G (c.fact 7 (f := .glo "NoRow") rfl), _, fd, _, He.eqO_ok i1, of_decide_eq_true i2, ok_E6 F, F.binds fun _ _ _ _ _ _ us hl => match us, hl with | [_], _ => rfl⟩
  e7 := by
    obtain ⟨T, _, i⟩ := err_at e 7 (by decide)
    obtain ⟨i1, i2⟩ := ba3 i
    obtain ⟨fd, F⟩ := c.def_ 7 rfl
    have F := funD_fun (st := s_NoState_init) F
    exact ⟨T, He.glo_ok X G (c.fact 8 (f := .glo "NoState") rfl), _, fd, _, He.eqO_ok i1, of_decide_eq_true i2, ok_E7 F, F.binds fun _ _ _ _ _ _ us hl => match us, hl with | [_], _ => rfl⟩
  e8 := by
    obtain ⟨T, _, i⟩ := err_at e 8 (by decide)
    obtain ⟨i1, i2⟩ := ba3 i
    obtain ⟨fd, F⟩ := c.def_ 8 rfl
    have F := funD_fun (st := s_NoSpread_init) F
    exact ⟨T, He.glo_ok X G (c.fact 9 (f := .glo "NoSpread") rfl), _, fd, _, He.eqO_ok i1, of_decide_eq_true i2, ok_E8 F, F.binds fun _ _ _ _ _ _ us hl => match us, hl with | [_], _ => rfl⟩
  e9 := by
    obtain ⟨T, _, i⟩ := err_at e 9 (by decide)
    obtain ⟨i1, i2⟩ := ba3 i
    obtain ⟨fd, F⟩ := c.def_ 9 rfl
    have F := funD_fun (st := s_NoNumber_init) F
    exact ⟨T, He.glo_ok X G (c.fact 10 (f := .glo "NoNumber") rfl), _, fd, _, He.eqO_ok i1, of_decide_eq_true i2, ok_E9 F, F.binds fun _ _ _ _ _ _ us hl => match us, hl with | [_], _ => rfl⟩
  e10 := by
    obtain ⟨T, _, i⟩ := err_at e 10 (by decide)
    obtain ⟨i1, i2⟩ := ba3 i
    obtain ⟨fd, F⟩ := c.def_ 10 rfl
    have F := funD_fun (st := s_NoLot_init) F
    exact ⟨T, He.glo_ok X G (c.fact 11 (f := .glo "NoLot") rfl), _, fd, _, He.eqO_ok i1, of_decide_eq_true i2, ok_E10 F, F.binds fun _ _ _ _ _ _ us hl => match us, hl with | [_], _ => rfl⟩
  e11 := by
    obtain ⟨T, _, i⟩ := err_at e 11 (by decide)
    obtain ⟨i1, i2⟩ := ba3 i
    obtain ⟨fd, F⟩ := c.def_ 11 rfl
    have F := funD_fun (st := s_NotOne_init) F
    exact ⟨T, He.glo_ok X G (c.fact 12 (f := .glo "NotOne") rfl), _, fd, _, He.eqO_ok i1, of_decide_eq_true i2, ok_E11 F, F.binds fun _ _ _ _ _ _ us hl => match us, hl with | [_], _ => rfl⟩
  e12 := by
    obtain ⟨T, _, i⟩ := err_at e 12 (by decide)
    obtain ⟨i1, i2⟩ := ba3 i
    obtain ⟨fd, F⟩ := c.def_ 12 rfl
    have F := funD_fun (st := s_NoShare_init) F
    exact ⟨T, He.glo_ok X G (c.fact 13 (f := .glo "NoShare") rfl), _, fd, _, He.eqO_ok i1, of_decide_eq_true i2, ok_E12 F, F.binds fun _ _ _ _ _ _ us hl => match us, hl with | [_], _ => rfl⟩
  e13 := by
    obtain ⟨T, _, i⟩ := err_at e 13 (by decide)
    obtain ⟨i1, i2⟩ := ba3 i
    obtain ⟨fd, F⟩ := c.def_ 13 rfl
    have F := funD_fun (st := s_NothingTold_init) F
    exact ⟨T, He.glo_ok X G (c.fact 14 (f := .glo "NothingTold") rfl), _, fd, _, He.eqO_ok i1, of_decide_eq_true i2, ok_E13 F, F.binds fun _ _ _ _ _ _ us hl => match us, hl with | [_], _ => rfl⟩
  e14 := by
    obtain ⟨T, _, i⟩ := err_at e 14 (by decide)
    obtain ⟨i1, i2⟩ := ba3 i
    obtain ⟨fd, F⟩ := c.def_ 14 rfl
    have F := funD_fun (st := s_NoCoins_init) F
    exact ⟨T, He.glo_ok X G (c.fact 15 (f := .glo "NoCoins") rfl), _, fd, _, He.eqO_ok i1, of_decide_eq_true i2, ok_E14 F, F.binds fun _ _ _ _ _ _ us hl => match us, hl with | [_], _ => rfl⟩
  e15 := by
    obtain ⟨T, _, i⟩ := err_at e 15 (by decide)
    obtain ⟨i1, i2⟩ := ba3 i
    obtain ⟨fd, F⟩ := c.def_ 15 rfl
    have F := funD_fun (st := s_NoPlan_init) F
    exact ⟨T, He.glo_ok X G (c.fact 16 (f := .glo "NoPlan") rfl), _, fd, _, He.eqO_ok i1, of_decide_eq_true i2, ok_E15 F, F.binds fun _ _ _ _ _ _ us hl => match us, hl with | [_], _ => rfl⟩
  e16 := by
    obtain ⟨T, _, i⟩ := err_at e 16 (by decide)
    obtain ⟨i1, i2⟩ := ba3 i
    obtain ⟨fd, F⟩ := c.def_ 16 rfl
    have F := funD_fun (st := s_NoMove_init) F
    exact ⟨T, He.glo_ok X G (c.fact 17 (f := .glo "NoMove") rfl), _, fd, _, He.eqO_ok i1, of_decide_eq_true i2, ok_E16 F, F.binds fun _ _ _ _ _ _ us hl => match us, hl with | [_], _ => rfl⟩
  e17 := by
    obtain ⟨T, _, i⟩ := err_at e 17 (by decide)
    obtain ⟨i1, i2⟩ := ba3 i
    obtain ⟨fd, F⟩ := c.def_ 17 rfl
    have F := funD_fun (st := s_NoLength_init) F
    exact ⟨T, He.glo_ok X G (c.fact 18 (f := .glo "NoLength") rfl), _, fd, _, He.eqO_ok i1, of_decide_eq_true i2, ok_E17 F, F.binds fun _ _ _ _ _ _ us hl => match us, hl with | [_], _ => rfl⟩
  e18 := by
    obtain ⟨T, _, i⟩ := err_at e 18 (by decide)
    obtain ⟨i1, i2⟩ := ba3 i
    obtain ⟨fd, F⟩ := c.def_ 18 rfl
    have F := funD_fun (st := s_NotMerging_init) F
    exact ⟨T, He.glo_ok X G (c.fact 19 (f := .glo "NotMerging") rfl), _, fd, _, He.eqO_ok i1, of_decide_eq_true i2, ok_E18 F, F.binds fun _ _ _ _ _ _ us hl => match us, hl with | [_], _ => rfl⟩
  e19 := by
    obtain ⟨T, _, i⟩ := err_at e 19 (by decide)
    obtain ⟨i1, i2⟩ := ba3 i
    obtain ⟨fd, F⟩ := c.def_ 19 rfl
    have F := funD_fun (st := s_NoBits_init) F
    exact ⟨T, He.glo_ok X G (c.fact 20 (f := .glo "NoBits") rfl), _, fd, _, He.eqO_ok i1, of_decide_eq_true i2, ok_E19 F, F.binds fun _ _ _ _ _ _ us hl => match us, hl with | [_], _ => rfl⟩
  e20 := by
    obtain ⟨T, _, i⟩ := err_at e 20 (by decide)
    obtain ⟨i1, i2⟩ := ba3 i
    obtain ⟨fd, F⟩ := c.def_ 20 rfl
    have F := funD_fun (st := s_NoOrder_init) F
    exact ⟨T, He.glo_ok X G (c.fact 21 (f := .glo "NoOrder") rfl), _, fd, _, He.eqO_ok i1, of_decide_eq_true i2, ok_E20 F, F.binds fun _ _ _ _ _ _ us hl => match us, hl with | [_], _ => rfl⟩
  e21 := by
    obtain ⟨T, _, i⟩ := err_at e 21 (by decide)
    obtain ⟨i1, i2⟩ := ba3 i
    obtain ⟨fd, F⟩ := c.def_ 21 rfl
    have F := funD_fun (st := s_NotKept_init) F
    exact ⟨T, He.glo_ok X G (c.fact 22 (f := .glo "NotKept") rfl), _, fd, _, He.eqO_ok i1, of_decide_eq_true i2, ok_E21 F, F.binds fun _ _ _ _ _ _ us hl => match us, hl with | [_], _ => rfl⟩
  e22 := by
    obtain ⟨T, _, i⟩ := err_at e 22 (by decide)
    obtain ⟨i1, i2⟩ := ba3 i
    obtain ⟨fd, F⟩ := c.def_ 22 rfl
    have F := funD_fun (st := s_NoEnds_init) F
    exact ⟨T, He.glo_ok X G (c.fact 23 (f := .glo "NoEnds") rfl), _, fd, _, He.eqO_ok i1, of_decide_eq_true i2, ok_E22 F, F.binds fun _ _ _ _ _ _ us hl => match us, hl with | [_], _ => rfl⟩
  e23 := by
    obtain ⟨T, _, i⟩ := err_at e 23 (by decide)
    obtain ⟨i1, i2⟩ := ba3 i
    obtain ⟨fd, F⟩ := c.def_ 23 rfl
    have F := funD_fun (st := s_NoPicture_init) F
    exact ⟨T, He.glo_ok X G (c.fact 24 (f := .glo "NoPicture") rfl), _, fd, _, He.eqO_ok i1, of_decide_eq_true i2, ok_E23 F, F.binds fun _ _ _ _ _ _ us hl => match us, hl with | [_], _ => rfl⟩
  e24 := by
    obtain ⟨T, _, i⟩ := err_at e 24 (by decide)
    obtain ⟨i1, i2⟩ := ba3 i
    obtain ⟨fd, F⟩ := c.def_ 24 rfl
    have F := funD_fun (st := s_NoPlace_init) F
    exact ⟨T, He.glo_ok X G (c.fact 25 (f := .glo "NoPlace") rfl), _, fd, _, He.eqO_ok i1, of_decide_eq_true i2, ok_E24 F, F.binds fun _ _ _ _ _ _ us hl => match us, hl with | [_], _ => rfl⟩
  e25 := by
    obtain ⟨T, _, i⟩ := err_at e 25 (by decide)
    obtain ⟨i1, i2⟩ := ba3 i
    obtain ⟨fd, F⟩ := c.def_ 25 rfl
    have F := funD_fun (st := s_NoRenewal_init) F
    exact ⟨T, He.glo_ok X G (c.fact 26 (f := .glo "NoRenewal") rfl), _, fd, _, He.eqO_ok i1, of_decide_eq_true i2, ok_E25 F, F.binds fun _ _ _ _ _ _ us hl => match us, hl with | [_], _ => rfl⟩
  e26 := by
    obtain ⟨T, _, i⟩ := err_at e 26 (by decide)
    obtain ⟨i1, i2⟩ := ba3 i
    obtain ⟨fd, F⟩ := c.def_ 26 rfl
    have F := funD_fun (st := s_NothingFits_init) F
    exact ⟨T, He.glo_ok X G (c.fact 27 (f := .glo "NothingFits") rfl), _, fd, _, He.eqO_ok i1, of_decide_eq_true i2, ok_E26 F, F.binds fun _ _ _ _ _ _ us hl => match us, hl with | [_], _ => rfl⟩
  e27 := by
    obtain ⟨T, _, i⟩ := err_at e 27 (by decide)
    obtain ⟨i1, i2⟩ := ba3 i
    obtain ⟨fd, F⟩ := c.def_ 27 rfl
    have F := funD_fun (st := s_NoSizes_init) F
    exact ⟨T, He.glo_ok X G (c.fact 28 (f := .glo "NoSizes") rfl), _, fd, _, He.eqO_ok i1, of_decide_eq_true i2, ok_E27 F, F.binds fun _ _ _ _ _ _ us hl => match us, hl with | [_], _ => rfl⟩
  e28 := by
    obtain ⟨T, _, i⟩ := err_at e 28 (by decide)
    obtain ⟨i1, i2⟩ := ba3 i
    obtain ⟨fd, F⟩ := c.def_ 28 rfl
    have F := funD_fun (st := s_NoPairs_init) F
    exact ⟨T, He.glo_ok X G (c.fact 29 (f := .glo "NoPairs") rfl), _, fd, _, He.eqO_ok i1, of_decide_eq_true i2, ok_E28 F, F.binds fun _ _ _ _ _ _ us hl => match us, hl with | [_], _ => rfl⟩
  e29 := by
    obtain ⟨T, _, i⟩ := err_at e 29 (by decide)
    obtain ⟨i1, i2⟩ := ba3 i
    obtain ⟨fd, F⟩ := c.def_ 29 rfl
    have F := funD_fun (st := s_NoFlips_init) F
    exact ⟨T, He.glo_ok X G (c.fact 30 (f := .glo "NoFlips") rfl), _, fd, _, He.eqO_ok i1, of_decide_eq_true i2, ok_E29 F, F.binds fun _ _ _ _ _ _ us hl => match us, hl with | [_], _ => rfl⟩
  e30 := by
    obtain ⟨T, _, i⟩ := err_at e 30 (by decide)
    obtain ⟨i1, i2⟩ := ba3 i
    obtain ⟨fd, F⟩ := c.def_ 30 rfl
    have F := funD_fun (st := s_NotRising_init) F
    exact ⟨T, He.glo_ok X G (c.fact 31 (f := .glo "NotRising") rfl), _, fd, _, He.eqO_ok i1, of_decide_eq_true i2, ok_E30 F, F.binds fun _ _ _ _ _ _ us hl => match us, hl with | [_], _ => rfl⟩
  e31 := by
    obtain ⟨T, _, i⟩ := err_at e 31 (by decide)
    obtain ⟨i1, i2⟩ := ba3 i
    obtain ⟨fd, F⟩ := c.def_ 31 rfl
    have F := funD_fun (st := s_NoCover_init) F
    exact ⟨T, He.glo_ok X G (c.fact 32 (f := .glo "NoCover") rfl), _, fd, _, He.eqO_ok i1, of_decide_eq_true i2, ok_E31 F, F.binds fun _ _ _ _ _ _ us hl => match us, hl with | [_], _ => rfl⟩
  e32 := by
    obtain ⟨T, _, i⟩ := err_at e 32 (by decide)
    obtain ⟨i1, i2⟩ := ba3 i
    obtain ⟨fd, F⟩ := c.def_ 32 rfl
    have F := funD_fun (st := s_NoOrdering_init) F
    exact ⟨T, He.glo_ok X G (c.fact 33 (f := .glo "NoOrdering") rfl), _, fd, _, He.eqO_ok i1, of_decide_eq_true i2, ok_E32 F, F.binds fun _ _ _ _ _ _ us hl => match us, hl with | [_], _ => rfl⟩
  e33 := by
    obtain ⟨T, _, i⟩ := err_at e 33 (by decide)
    obtain ⟨i1, i2⟩ := ba3 i
    obtain ⟨fd, F⟩ := c.def_ 33 rfl
    have F := funD_fun (st := s_NoPlaces_init) F
    exact ⟨T, He.glo_ok X G (c.fact 34 (f := .glo "NoPlaces") rfl), _, fd, _, He.eqO_ok i1, of_decide_eq_true i2, ok_E33 F, F.binds fun _ _ _ _ _ _ us hl => match us, hl with | [_], _ => rfl⟩
  e34 := by
    obtain ⟨T, _, i⟩ := err_at e 34 (by decide)
    obtain ⟨i1, i2⟩ := ba3 i
    obtain ⟨fd, F⟩ := c.def_ 34 rfl
    have F := funD_fun (st := s_NoValue_init) F
    exact ⟨T, He.glo_ok X G (c.fact 35 (f := .glo "NoValue") rfl), _, fd, _, He.eqO_ok i1, of_decide_eq_true i2, ok_E34 F, F.binds fun _ _ _ _ _ _ us hl => match us, hl with | [_], _ => rfl⟩
  e35 := by
    obtain ⟨T, _, i⟩ := err_at e 35 (by decide)
    obtain ⟨i1, i2⟩ := ba3 i
    obtain ⟨fd, F⟩ := c.def_ 35 rfl
    have F := funD_fun (st := s_NoEdit_init) F
    exact ⟨T, He.glo_ok X G (c.fact 36 (f := .glo "NoEdit") rfl), _, fd, _, He.eqO_ok i1, of_decide_eq_true i2, ok_E35 F, F.binds fun _ _ _ _ _ _ us hl => match us, hl with | [_], _ => rfl⟩
  e36 := by
    obtain ⟨T, _, i⟩ := err_at e 36 (by decide)
    obtain ⟨i1, i2⟩ := ba3 i
    obtain ⟨fd, F⟩ := c.def_ 36 rfl
    have F := funD_fun (st := s_NothingDone_init) F
    exact ⟨T, He.glo_ok X G (c.fact 37 (f := .glo "NothingDone") rfl), _, fd, _, He.eqO_ok i1, of_decide_eq_true i2, ok_E36 F, F.binds fun _ _ _ _ _ _ us hl => match us, hl with | [_], _ => rfl⟩
  e37 := by
    obtain ⟨T, _, i⟩ := err_at e 37 (by decide)
    obtain ⟨i1, i2⟩ := ba3 i
    obtain ⟨fd, F⟩ := c.def_ 37 rfl
    have F := funD_fun (st := s_NoLine_init) F
    exact ⟨T, He.glo_ok X G (c.fact 38 (f := .glo "NoLine") rfl), _, fd, _, He.eqO_ok i1, of_decide_eq_true i2, ok_E37 F, F.binds fun _ _ _ _ _ _ us hl => match us, hl with | [_], _ => rfl⟩
  ex := fun i hi => (err_at e i hi).1
  no := fun i hi => by
    obtain rfl | rfl | rfl | rfl | rfl | rfl : i = 0 ∨ i = 1 ∨ i = 2 ∨ i = 3 ∨ i = 4 ∨ i = 5 := by omega
    · rw [fldE_0]
      exact He.noat_ok (c.fact 81 (f := .noat "BadSystem" "part") rfl)
    · rw [fldE_1]
      exact He.noat_ok (c.fact 82 (f := .noat "BadLine" "number") rfl)
    · rw [fldE_2]
      exact He.noat_ok (c.fact 83 (f := .noat "BadCoin" "number") rfl)
    · rw [fldE_3]
      exact He.noat_ok (c.fact 84 (f := .noat "BadModel" "part") rfl)
    · rw [fldE_4]
      exact He.noat_ok (c.fact 85 (f := .noat "TooMany" "most") rfl)
    · rw [fldE_5]
      exact He.noat_ok (c.fact 86 (f := .noat "NoName" "name") rfl)
  kit := fun i j hi hj => kit_ij e i j hi hj
  kitD := fun i hi => kit_D e i hi
  kitV := fun i hi => kit_ve (err_at e i hi).2.1
  mD := He.glo_ok X G (c.fact 0 (f := .glo "DrawError") rfl)
theorem exm_of (c : He.SaysD fas fns K) (i : Nat) (hi : i < 6) : PySem.W.exmOne K (.ref (adrE K i)) (.ref (He.ga K "DrawError")) = some true := by
  obtain rfl | rfl | rfl | rfl | rfl | rfl : i = 0 ∨ i = 1 ∨ i = 2 ∨ i = 3 ∨ i = 4 ∨ i = 5 := by omega
  · exact He.exm_ok (c.fact 75 (f := .exm "BadSystem" "DrawError" true) rfl)
  · exact He.exm_ok (c.fact 76 (f := .exm "BadLine" "DrawError" true) rfl)
  · exact He.exm_ok (c.fact 77 (f := .exm "BadCoin" "DrawError" true) rfl)
  · exact He.exm_ok (c.fact 78 (f := .exm "BadModel" "DrawError" true) rfl)
  · exact He.exm_ok (c.fact 79 (f := .exm "TooMany" "DrawError" true) rfl)
  · exact He.exm_ok (c.fact 80 (f := .exm "NoName" "DrawError" true) rfl)
theorem facts {f : Addr} (X : K.In h) (G : h.Ns mainGlobals mg) (hfa : mg ("law" : Str) = some (.ref f)) (c : He.SaysD fas fns K) (e : exK K = true) :
    ∃ fd : FuncData, (∀ (s : Shared) (v : Value), BindsTo s fd ⟨[v], []⟩ [("_law_script", v)]) ∧ ∀ base : Heap, K.In base → base.Ns mainGlobals mg → FnOk P w K mg base CX0 7 f fd ["_law_script"] (spLaw K) := by
  have eL := hfa.symm.trans (He.glo_ok X G (c.fact 58 (f := .glo "law") rfl))
  cases eL
  obtain ⟨e1, e2⟩ := ba3 e
  obtain ⟨e3, e4⟩ := ba3 e2
  obtain ⟨e5, e6⟩ := ba3 e4
  obtain ⟨x1, x2⟩ := ba3 e5
  obtain ⟨x2, x3⟩ := ba3 x2
  obtain ⟨x3, x4⟩ := ba3 x3
  obtain ⟨y1, y2⟩ := ba3 e1
  have T1 : Nm mg := ⟨He.free_ok X G (c.fact 66 (f := .free "len") rfl), He.free_ok X G (c.fact 64 (f := .free "int") rfl), He.free_ok X G (c.fact 60 (f := .free "abs") rfl)⟩
  have T2 : Nm2 mg := ⟨He.free_ok X G (c.fact 65 (f := .free "isinstance") rfl), He.free_ok X G (c.fact 64 (f := .free "int") rfl), He.free_ok X G (c.fact 62 (f := .free "bool") rfl), He.free_ok X G (c.fact 69 (f := .free "tuple") rfl), He.free_ok X G (c.fact 66 (f := .free "len") rfl), He.free_ok X G (c.fact 61 (f := .free "all") rfl), He.free_ok X G (c.fact 68 (f := .free "sum") rfl), He.free_ok X G (c.fact 63 (f := .free "enumerate") rfl), PySem.W.mg_of X G (He.eqO_ok y1), PySem.W.mg_of X G (He.eqO_ok y2)⟩
  have Y : SysT K mg (He.ga K "System") := ⟨He.cls_ok (c.fact 70 (f := .cls "System") rfl), He.noat_ok (c.fact 71 (f := .noat "System" "many") rfl), He.noat_ok (c.fact 72 (f := .noat "System" "moves") rfl), He.glo_ok X G (c.fact 46 (f := .glo "System") rfl),
    He.eqO_ok x1, He.eqO_ok x2, optT_ok x3, optT_ok x4⟩
  obtain ⟨fdii, Fii⟩ := c.def_ 38 rfl
  have FDii := Fii
  have Fii := funD_fun (st := s_is_integer) Fii
  have Bii := Fii.binds (ps := ["thing"]) fun _ _ _ _ _ _ us hl => match us, hl with | [_], _ => rfl
  have Mii := He.glo_ok X G (c.fact 39 (f := .glo "is_integer") rfl)
  obtain ⟨fdiw, Fiw⟩ := c.def_ 39 rfl
  have FDiw := Fiw
  have Fiw := funD_fun (st := s_is_within) Fiw
  have Biw := Fiw.binds (ps := ["low", "high", "thing"]) fun _ _ _ _ _ _ us hl => match us, hl with | [_, _, _], _ => rfl
  have Miw := He.glo_ok X G (c.fact 40 (f := .glo "is_within") rfl)
  obtain ⟨fdrb, Frb⟩ := c.def_ 40 rfl
  have FDrb := Frb
  have Frb := funD_fun (st := s_is_row_below) Frb
  have Brb := Frb.binds (ps := ["bound", "thing"]) fun _ _ _ _ _ _ us hl => match us, hl with | [_, _], _ => rfl
  have Mrb := He.glo_ok X G (c.fact 41 (f := .glo "is_row_below") rfl)
  obtain ⟨fdfr, Ffr⟩ := c.def_ 41 rfl
  have FDfr := Ffr
  have Ffr := funD_fun (st := s_is_fraction) Ffr
  have Bfr := Ffr.binds (ps := ["thing"]) fun _ _ _ _ _ _ us hl => match us, hl with | [_], _ => rfl
  have Mfr := He.glo_ok X G (c.fact 42 (f := .glo "is_fraction") rfl)
  obtain ⟨fdcb, Fcb⟩ := c.def_ 42 rfl
  have FDcb := Fcb
  have Fcb := funD_fun (st := s_common_bottom) Fcb
  have Bcb := Fcb.binds (ps := ["fractions"]) fun _ _ _ _ _ _ us hl => match us, hl with | [_], _ => rfl
  have Mcb := He.glo_ok X G (c.fact 43 (f := .glo "common_bottom") rfl)
  obtain ⟨fdto, Fto⟩ := c.def_ 43 rfl
  have FDto := Fto
  have Fto := funD_fun (st := s_tops_over) Fto
  have Bto := Fto.binds (ps := ["fractions", "bottom"]) fun _ _ _ _ _ _ us hl => match us, hl with | [_, _], _ => rfl
  have Mto := He.glo_ok X G (c.fact 44 (f := .glo "tops_over") rfl)
  obtain ⟨fdao, Fao⟩ := c.def_ 44 rfl
  have FDao := Fao
  have Fao := funD_fun (st := s_are_one_together) Fao
  have Bao := Fao.binds (ps := ["fractions"]) fun _ _ _ _ _ _ us hl => match us, hl with | [_], _ => rfl
  have Mao := He.glo_ok X G (c.fact 45 (f := .glo "are_one_together") rfl)
  obtain ⟨fdmv, Fmv⟩ := c.def_ 47 rfl
  have FDmv := Fmv
  have Fmv := funD_fun (st := s_is_move) Fmv
  have Bmv := Fmv.binds (ps := ["many", "thing"]) fun _ _ _ _ _ _ us hl => match us, hl with | [_, _], _ => rfl
  have Mmv := He.glo_ok X G (c.fact 47 (f := .glo "is_move") rfl)
  obtain ⟨fdha, Fha⟩ := c.def_ 48 rfl
  have FDha := Fha
  have Fha := funD_fun (st := s_law_hand) Fha
  have Bha := Fha.binds (ps := ["_law_script"]) fun _ _ _ _ _ _ us hl => match us, hl with | [_], _ => rfl
  have Mha := He.glo_ok X G (c.fact 48 (f := .glo "_law_hand") rfl)
  obtain ⟨fddr, Fdr⟩ := c.def_ 49 rfl
  have FDdr := Fdr
  have Fdr := funD_fun (st := s_law_draw) Fdr
  have Bdr := Fdr.binds (ps := ["_law_hand_here", "_law_many"]) fun _ _ _ _ _ _ us hl => match us, hl with | [_, _], _ => rfl
  have Mdr := He.glo_ok X G (c.fact 49 (f := .glo "_law_draw") rfl)
  obtain ⟨fdan, Fan⟩ := c.def_ 50 rfl
  have FDan := Fan
  have Fan := funD_fun (st := s_law_any) Fan
  have Ban := Fan.binds (ps := ["_law_hand_here", "_law_things"]) fun _ _ _ _ _ _ us hl => match us, hl with | [_, _], _ => rfl
  have Man := He.glo_ok X G (c.fact 50 (f := .glo "_law_any") rfl)
  obtain ⟨fdde, Fde⟩ := c.def_ 51 rfl
  have FDde := Fde
  have Fde := funD_fun (st := s_law_deep) Fde
  have Bde := Fde.binds (ps := ["_law_hand_here"]) fun _ _ _ _ _ _ us hl => match us, hl with | [_], _ => rfl
  have Mde := He.glo_ok X G (c.fact 51 (f := .glo "_law_deep") rfl)
  obtain ⟨fdff, Fff⟩ := c.def_ 52 rfl
  have FDff := Fff
  have Fff := funD_fun (st := s_law_first_flags) Fff
  have Bff := Fff.binds (ps := ["_law_error"]) fun _ _ _ _ _ _ us hl => match us, hl with | [_], _ => rfl
  have Mff := He.glo_ok X G (c.fact 52 (f := .glo "_law_first_flags") rfl)
  obtain ⟨fdfl, Ffl⟩ := c.def_ 53 rfl
  have FDfl := Ffl
  have Ffl := funD_fun (st := s_law_flags) Ffl
  have Bfl := Ffl.binds (ps := ["_law_error"]) fun _ _ _ _ _ _ us hl => match us, hl with | [_], _ => rfl
  have Mfl := He.glo_ok X G (c.fact 53 (f := .glo "_law_flags") rfl)
  obtain ⟨fdma, Fma⟩ := c.def_ 54 rfl
  have FDma := Fma
  have Fma := funD_fun (st := s_law_made) Fma
  have Bma := Fma.binds (ps := ["_law_things"]) fun _ _ _ _ _ _ us hl => match us, hl with | [_], _ => rfl
  have Mma := He.glo_ok X G (c.fact 54 (f := .glo "_law_made") rfl)
  obtain ⟨fdfi, Ffi⟩ := c.def_ 55 rfl
  have FDfi := Ffi
  have Ffi := funD_fun (st := s_law_field) Ffi
  have Bfi := Ffi.binds (ps := ["_law_error", "_law_number"]) fun _ _ _ _ _ _ us hl => match us, hl with | [_, _], _ => rfl
  have Mfi := He.glo_ok X G (c.fact 55 (f := .glo "_law_field") rfl)
  obtain ⟨fdca, Fca⟩ := c.def_ 56 rfl
  have FDca := Fca
  have Fca := funD_fun (st := s_law_caught) Fca
  have Bca := Fca.binds (ps := ["_law_which", "_law_thing"]) fun _ _ _ _ _ _ us hl => match us, hl with | [_, _], _ => rfl
  have Mca := He.glo_ok X G (c.fact 56 (f := .glo "_law_caught") rfl)
  obtain ⟨fdis, Fis⟩ := c.def_ 57 rfl
  have FDis := Fis
  have Fis := funD_fun (st := s_law_is) Fis
  have Bis := Fis.binds (ps := ["_law_told", "_law_due"]) fun _ _ _ _ _ _ us hl => match us, hl with | [_, _], _ => rfl
  have Mis := He.glo_ok X G (c.fact 57 (f := .glo "_law_is") rfl)
  obtain ⟨fdla, Fla⟩ := c.def_ 58 rfl
  have FDla := Fla
  have Fla := funD_fun (st := s_law) Fla
  have Bla := Fla.binds (ps := ["_law_script"]) fun _ _ _ _ _ _ us hl => match us, hl with | [_], _ => rfl
  have Mla := He.glo_ok X G (c.fact 58 (f := .glo "law") rfl)
  obtain ⟨fdsi, Fsi⟩ := c.def_ 45 rfl
  have FDsi := Fsi
  have Fsi := funD_fun (st := s_System_init) Fsi
  have Bsi := Fsi.binds (ps := ["self", "many", "moves"]) fun _ _ _ _ _ _ us hl => match us, hl with | [_, _, _], _ => rfl
  obtain ⟨fdse, Fse⟩ := c.def_ 46 rfl
  have FDse := Fse
  have Fse := funD_fun (st := s_System_eq) Fse
  have Bse := Fse.binds (ps := ["self", "other"]) fun _ _ _ _ _ _ us hl => match us, hl with | [_, _], _ => rfl
  have MK := He.mkr_ok (c.fact 73 (f := .mkr "System") rfl)
  have ME := He.meth_ok (c.fact 74 (f := .meth "System" "__eq__") rfl)
  have bla := FunD.bindsA (ps := ["_law_script"]) FDla fun _ _ _ _ _ _ us hl => match us, hl with | [_], _ => rfl
  refine ⟨fdla, fun s v => bla s [v] rfl, fun base KB GB => ?_⟩
  have Z : Ers P w K mg base (adrE K) (He.ga K "DrawError") := ers_of X G c e3
  have cii : Cl P w K mg base CX0 1 "is_integer" _ fdii ["thing"] (spIsInt K) := ⟨ok_isint Fii T2, Bii, Mii, Fii.kp⟩
  have ciw : Cl P w K mg base CX0 2 "is_within" _ fdiw ["low", "high", "thing"] (spWithin K) := ⟨ok_within Fiw cii, Biw, Miw, Fiw.kp⟩
  have crb : Cl P w K mg base CX0 3 "is_row_below" _ fdrb ["bound", "thing"] (spRowB K) := ⟨ok_rowb Frb T2 ciw, Brb, Mrb, Frb.kp⟩
  have cfr : Cl P w K mg base CX0 2 "is_fraction" _ fdfr ["thing"] (spFrac K) := ⟨ok_frac Ffr T2 cii, Bfr, Mfr, Ffr.kp⟩
  have ccb : Cl P w K mg base CX0 1 "common_bottom" _ fdcb ["fractions"] (spComB K) := ⟨ok_comb Fcb T2, Bcb, Mcb, Fcb.kp⟩
  have cto : Cl P w K mg base CX0 1 "tops_over" _ fdto ["fractions", "bottom"] (spTops K) := ⟨ok_tops Fto, Bto, Mto, Fto.kp⟩
  have cao : Cl P w K mg base CX0 2 "are_one_together" _ fdao ["fractions"] (spOne K) := ⟨ok_one Fao T2 ccb cto, Bao, Mao, Fao.kp⟩
  have cmv : Cl P w K mg base CX0 4 "is_move" _ fdmv ["many", "thing"] (spMove K) := ⟨ok_move Fmv T2 cfr crb, Bmv, Mmv, Fmv.kp⟩
  have cdr : Cl P w K mg base CX0 1 "_law_draw" _ fddr ["_law_hand_here", "_law_many"] spDraw := ⟨ok_draw Fdr T1, Bdr, Mdr, Fdr.kp⟩
  have cff : Cl P w K mg base CX0 1 "_law_first_flags" _ fdff ["_law_error"] (spFlags K (adrE K) 6) := ⟨ok_FFlags Fff T2 Z, Bff, Mff, Fff.kp⟩
  have S : SEq P w K mg base (He.ga K "System") := ⟨_, fdse, ok_seq Fse T2 Y, ME.at_, ME.fn, Bse⟩
  exact ok_law Fla ⟨T2, Z, Y, He.free_ok X G (c.fact 67 (f := .free "range") rfl), He.free_ok X G (c.fact 59 (f := .free "ValueError") rfl),
    ⟨_, fdha, ok_hand Fha T1, Bha, Mha, Fha.kp⟩, ⟨_, fddr, cdr⟩, ⟨_, fdan, ok_any Fan T1 cdr, Ban, Man, Fan.kp⟩, ⟨_, fdde, ok_deep Fde (He.free_ok X G (c.fact 67 (f := .free "range") rfl)) cdr, Bde, Mde, Fde.kp⟩,
    ⟨_, fdma, ok_made Fma Z, Bma, Mma, Fma.kp⟩, ⟨_, fdfl, ok_Flags Ffl T2 Z cff, Bfl, Mfl, Ffl.kp⟩, ⟨_, fdfi, ok_field Ffi Z, Bfi, Mfi, Ffi.kp⟩,
    ⟨_, fdca, ok_caught Fca T2 Z (exm_of c), Bca, Mca, Fca.kp⟩, ⟨_, fdis, ok_is Fis T2 Y S (of_decide_eq_true e6), Bis, Mis, Fis.kp⟩, ⟨_, fdsi, MK, ok_sinit Fsi T2 Y ciw cmv cao, Bsi⟩⟩
end
end Law
open PySem PySem.W PySem.Calls PyProof.Rows
theorem PySem.Challenge.cw_asifforever_k00_errors_and_their_fields_holds : PySem.Challenge.rw_asifforever_k00_errors_and_their_fields.Holds := by
  w_on; o_law
  refine HandSHeadRun.head_imp (r := OpenLaw.row PySem.Challenge.rw_asifforever_k00_errors_and_their_fields) (q := view (OpenLaw.row PySem.Challenge.rw_asifforever_k00_errors_and_their_fields).prog [0, 63]) (H := Law.hk) (ob := Law.ob) (M := 13000) (loose := Law.names) (d := HandSHeadRun.topDef (OpenLaw.row PySem.Challenge.rw_asifforever_k00_errors_and_their_fields).prog 63) (kwd := []) Law.ob_eq
    Law.run (by kernel_rfl) (by kernel_rfl) (by kernel_rfl) (by rfl) (by first | assumption | decide +kernel) (by decide +kernel) ⟨rfl, rfl, rfl, rfl, rfl, by decide +kernel⟩ ?hw ?hc
  case hw => w_witness2
  case hc =>
    refine L2.walk_ofE (l := PySem.Challenge.rw_asifforever_k00_errors_and_their_fields) (n := 63) (k := 7) (x := "_law_script") (CX := L2.CX0) rfl (by decide) (by kernel_rfl) ⟨rfl, by decide, by decide⟩ ?F (fun _ _ _ _ z => z)
    intro w mg fa h Y G hmg0
    obtain ⟨K, KX, c, e⟩ := Y
    have hmg : mg ("law" : PySem.Str) = some (.ref fa) := by
      have e : (HandSHeadRun.topDef (OpenLaw.row PySem.Challenge.rw_asifforever_k00_errors_and_their_fields).prog 63).name = ("law" : PySem.Str) := by kernel_rfl
      rw [← e]
      exact hmg0
    obtain ⟨fd, hb, hF⟩ := Law.facts (P := (PySem.Challenge.rw_asifforever_k00_errors_and_their_fields).prog) (w := w) KX G hmg c e
    exact ⟨K, fd, Law.spLaw K, KX, hb, fun H a ns hl _ hS => ⟨a, ns, rfl, hS, hl, fun _ => rfl⟩, hF⟩

