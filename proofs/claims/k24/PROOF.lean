import PyProof.Rows.All
import Wide.All
import OpenK.AllK
import Wide.FinOn
import KE.KExcIs
import HandS.ForMost
import HandS.Evl
import HandS.IsInst
import HandS.ExcInit
import HandS.ExcIs
import HandS.DeepEq
import HandS.OwnEq
import HandS.SetFor
import KE.GoesMore
import PyProof.Draws
import HandS.Walk
import HandS.Wide
import HandS.Gcd
import KE.KStateDown
import HandS.Defaults
import HandS.Head0
import HandS.Head1
import HandS.Head2
import HandS.Head3
import HandS.HeadEnd
import HandS.HeadHook1
import HandS.HeadHook2
import PyProof.NoPylong
import HandS.Conv
import HandS.TupMul
import HandS.TupAny
import HandS.Strs
import HandS.List
import HandS.Style
import PySem.Challenge.RW_asifforever_k24_whole_weights_and_what_f
import KE.KeyNested
import HandS.DictTup
import HandS.TupLe
import HandS.NoneIn
import KE.KUnpackStar
import HandS.Zip
import HandS.StrMore
import HandS.WordsExc
import HandS.TryMany
import HandS.TryOnly
import HandS.TupMul
set_option Elab.async false
set_option linter.all false
set_option maxRecDepth 100000
set_option maxHeartbeats 4000000
set_option exponentiation.threshold 200000
namespace Law
open PySem L2
def top (i : Nat) : Stmt := PySem.Challenge.pw_asifforever_k24_whole_weights_and_what_f.main.body.getD i (.Pass ⟨0, 0, 0, 0⟩)
abbrev s_is_integer : Stmt := top 1
abbrev s_is_within : Stmt := top 2
abbrev s_is_row_below : Stmt := top 3
abbrev s_BadModel_init : Stmt := inClass (top 6) 0
abbrev s_TooMany_init : Stmt := inClass (top 7) 0
abbrev s_NoPicture_init : Stmt := inClass (top 8) 0
abbrev s_Model_init : Stmt := inClass (top 10) 0
abbrev s_Model_eq : Stmt := inClass (top 10) 1
abbrev s_is_table : Stmt := top 11
abbrev s_is_tie : Stmt := top 12
abbrev s_ties_at : Stmt := top 13
abbrev s_is_picture : Stmt := top 14
abbrev s_weight : Stmt := top 15
abbrev s_goes_on : Stmt := top 16
abbrev s_fitting_from : Stmt := top 17
abbrev s_first_fitting : Stmt := top 18
abbrev s_fitting : Stmt := top 19
abbrev s_law_hand : Stmt := top 21
abbrev s_law_draw : Stmt := top 22
abbrev s_law_any : Stmt := top 23
abbrev s_law_number : Stmt := top 24
abbrev s_law_pairs : Stmt := top 25
abbrev s_law_model : Stmt := top 26
abbrev s_law_pictures : Stmt := top 27
abbrev s_law_weight : Stmt := top 28
abbrev s_law_fitting : Stmt := top 29
abbrev s_law_made : Stmt := top 30
abbrev s_law_wide : Stmt := top 31
abbrev s_law_plain : Stmt := top 32
abbrev s_law_unlike : Stmt := top 33
abbrev s_law_told : Stmt := top 34
abbrev s_law_is_small_right : Stmt := top 35
abbrev s_law : Stmt := top 36
end Law
namespace Law
open PySem PySem.Spec PyProof.Rows L2
/-! ### the head's Hook: facts of K by names, and one more Bool -/
abbrev AlM : Type := He.AlD × Bool
def obsM (n : Nat) (fa : List He.Fa) (fn : List He.DefD) (ex : PySem.W.Frag → Bool) (g : Addr → Option Obj) : AlM := (He.obsD fa fn (He.frG g (He.asD g n)), ex (He.frG g (He.asD g n)))
def hookM (n : Nat) (fa : List He.Fa) (fn : List He.DefD) (ex : PySem.W.Frag → Bool) : PySem.W.Hook where
  α := AlM
  obs := fun s => obsM n fa fn ex s.heap.get?
  val := fun _ => (He.valD fn, true)
  says := fun _ h => ∃ K : PySem.W.Frag, K.In h ∧ He.SaysD fa fn K ∧ ex K = true
  of := fun _ _ e => ⟨_, He.frG_in, congrArg (fun z : AlM => z.1) e, congrArg (fun z : AlM => z.2) e⟩
  keeps := fun _ _ _ ⟨K, hK, c⟩ k => ⟨K, PySem.W.Frag.In.keeps hK k, c⟩
theorem obsM_eq {n : Nat} {fa : List He.Fa} {fn : List He.DefD} {ex : PySem.W.Frag → Bool} {g : Addr → Option Obj} {s : Shared} (h : ∀ a, g a = s.heap.get? a) : obsM n fa fn ex g = (hookM n fa fn ex).obs s := by
  have e : g = s.heap.get? := funext h
  rw [e] <;> rfl
theorem funD_fun {K : PySem.W.Frag} {x qual : Str} {st : Stmt} {f : Addr} {fd : FuncData} (F : FunD K x qual (defArgs st) (defBody st) (defScope st) [] [] f fd) : Fun K x qual st f fd := by
  obtain ⟨⟨oc, od, dV, kV, doc, pm, an, cdv, ct, osl, h1, h2, h3, h4, _⟩, kp⟩ := F
  rcases h4 with ⟨_, rfl⟩ | ⟨h, _⟩
  · exact ⟨⟨oc, od, kV, doc, pm, an, cdv, ct, osl, h1, h2, h3⟩, kp⟩
  · exact absurd rfl h
end Law
namespace Law
open PySem PySem.Spec PyProof.Rows L2
/-! ### facts of the classes, as Bools of K -/
def clsB (K : PySem.W.Frag) (C : Addr) : Bool := match K.lookup C with
  | some ⟨.type "type", _, .cls cd, sl⟩ => (match cd.mro, sl.toList with
    | .ref C' :: bm, [_, _, _, _, some (.builtin n), _] => decide (C' = C) && (decide (n = "ValueError.__new__") && (!cd.hasDel && (cd.hasDict && PySem.HandSPX.refsVE bm)))
    | _, _ => false)
  | _ => false
def optT (o : Option Bool) : Bool := match o with
  | some b => b
  | none => false
def exvB (K : PySem.W.Frag) (C : Addr) : Bool :=
  clsB K C && (He.eqO (PySem.W.findIn K (.ref C) "__setattr__") (some (some (.builtin "object.__setattr__"))) && (optT (PySem.W.subIn K (.ref C) (.type "BaseException")) && (decide (PySem.W.typeIn K (.ref C) = some (.type "type")) && (PySem.W.keepIn K (.ref C) &&
  ((PySem.W.clsIn K C).isSome && (He.eqO (PySem.W.findIn K (.ref C) "__getattribute__") (some (some (.builtin "BaseException.__getattribute__"))) && (He.eqO (PySem.W.findIn K (.ref C) "__getattr__") (some none) && (He.eqO (PySem.W.findIn K (.ref C) "__class__") (some (some (.builtin "object.__class__"))) &&
  (He.eqO (PySem.W.specialIn K (.builtin "object.__class__") "__get__") (some (some (.builtin "getset_descriptor.__get__"))) && (optT (PySem.W.takesIn K (.builtin "object.__class__")) && (optT (PySem.W.mroIn K C (.type "object")) && PySem.W.hasDictIn K C)))))))))))
def iniB (K : PySem.W.Frag) (C : Addr) : Bool := He.eqO (PySem.W.findIn K (.ref C) "__init__") (some (some (.ref (He.ma K C "__init__")))) && decide (PySem.W.typeIn K (.ref (He.ma K C "__init__")) = some (.type "function"))
def mroB (K : PySem.W.Frag) (C D : Addr) : Bool := decide ((PySem.W.clsIn K C).map (·.mro) = some [.ref C, .ref D, .type "ValueError", .type "Exception", .type "BaseException", .type "object"])
/-- an own plain class's instances are asked for their class as usual -/
def insB (K : PySem.W.Frag) (C : Addr) : Bool := He.eqO (PySem.W.findIn K (.ref C) "__class__") (some (some (.builtin "object.__class__"))) && (He.eqO (PySem.W.specialIn K (.builtin "object.__class__") "__get__") (some (some (.builtin "getset_descriptor.__get__"))) && (optT (PySem.W.takesIn K (.builtin "object.__class__")) && optT (PySem.W.mroIn K C (.type "object"))))
def kiB (K : PySem.W.Frag) (a b : Addr) (r : Bool) : Bool := decide (PySem.W.kitOne K (.ref a) (.ref b) = some r)
def subB (K : PySem.W.Frag) (t : Value) (C : Addr) : Bool := decide (PySem.W.kitOne K t (.ref C) = some false) && PySem.W.notFirst K C t
def exK (K : PySem.W.Frag) : Bool := insB K (He.ga K "Model") && (exvB K (He.ga K "TooMany") && (iniB K (He.ga K "TooMany") && (He.eqO (PySem.W.findIn K (.ref (He.ga K "Model")) "__ne__") (some (some (.builtin "object.__ne__"))) &&
  (subB K (.type "dict") (He.ga K "Model") && subB K (.type "tuple") (He.ga K "Model")))))
end Law
set_option maxHeartbeats 0
namespace Law
open PySem PySem.Spec PyProof.Rows L2
def fns : List He.DefD := [
  ⟨("is_integer", none), "is_integer", "is_integer", defArgs s_is_integer, defBody s_is_integer, defScope s_is_integer, [], []⟩,
  ⟨("is_within", none), "is_within", "is_within", defArgs s_is_within, defBody s_is_within, defScope s_is_within, [], []⟩,
  ⟨("is_row_below", none), "is_row_below", "is_row_below", defArgs s_is_row_below, defBody s_is_row_below, defScope s_is_row_below, [], []⟩,
  ⟨("BadModel", some "__init__"), "__init__", "BadModel.__init__", defArgs s_BadModel_init, defBody s_BadModel_init, defScope s_BadModel_init, [], []⟩,
  ⟨("TooMany", some "__init__"), "__init__", "TooMany.__init__", defArgs s_TooMany_init, defBody s_TooMany_init, defScope s_TooMany_init, [], []⟩,
  ⟨("NoPicture", some "__init__"), "__init__", "NoPicture.__init__", defArgs s_NoPicture_init, defBody s_NoPicture_init, defScope s_NoPicture_init, [], []⟩,
  ⟨("Model", some "__init__"), "__init__", "Model.__init__", defArgs s_Model_init, defBody s_Model_init, defScope s_Model_init, [], []⟩,
  ⟨("Model", some "__eq__"), "__eq__", "Model.__eq__", defArgs s_Model_eq, defBody s_Model_eq, defScope s_Model_eq, [], []⟩,
  ⟨("is_table", none), "is_table", "is_table", defArgs s_is_table, defBody s_is_table, defScope s_is_table, [], []⟩,
  ⟨("is_tie", none), "is_tie", "is_tie", defArgs s_is_tie, defBody s_is_tie, defScope s_is_tie, [], []⟩,
  ⟨("ties_at", none), "ties_at", "ties_at", defArgs s_ties_at, defBody s_ties_at, defScope s_ties_at, [], []⟩,
  ⟨("is_picture", none), "is_picture", "is_picture", defArgs s_is_picture, defBody s_is_picture, defScope s_is_picture, [], []⟩,
  ⟨("weight", none), "weight", "weight", defArgs s_weight, defBody s_weight, defScope s_weight, [], []⟩,
  ⟨("goes_on", none), "goes_on", "goes_on", defArgs s_goes_on, defBody s_goes_on, defScope s_goes_on, [], []⟩,
  ⟨("fitting_from", none), "fitting_from", "fitting_from", defArgs s_fitting_from, defBody s_fitting_from, defScope s_fitting_from, [], []⟩,
  ⟨("first_fitting", none), "first_fitting", "first_fitting", defArgs s_first_fitting, defBody s_first_fitting, defScope s_first_fitting, [], []⟩,
  ⟨("fitting", none), "fitting", "fitting", defArgs s_fitting, defBody s_fitting, defScope s_fitting, [], []⟩,
  ⟨("_law_hand", none), "_law_hand", "_law_hand", defArgs s_law_hand, defBody s_law_hand, defScope s_law_hand, [], []⟩,
  ⟨("_law_draw", none), "_law_draw", "_law_draw", defArgs s_law_draw, defBody s_law_draw, defScope s_law_draw, [], []⟩,
  ⟨("_law_any", none), "_law_any", "_law_any", defArgs s_law_any, defBody s_law_any, defScope s_law_any, [], []⟩,
  ⟨("_law_number", none), "_law_number", "_law_number", defArgs s_law_number, defBody s_law_number, defScope s_law_number, [], []⟩,
  ⟨("_law_pairs", none), "_law_pairs", "_law_pairs", defArgs s_law_pairs, defBody s_law_pairs, defScope s_law_pairs, [], []⟩,
  ⟨("_law_model", none), "_law_model", "_law_model", defArgs s_law_model, defBody s_law_model, defScope s_law_model, [], []⟩,
  ⟨("_law_pictures", none), "_law_pictures", "_law_pictures", defArgs s_law_pictures, defBody s_law_pictures, defScope s_law_pictures, [], []⟩,
  ⟨("_law_weight", none), "_law_weight", "_law_weight", defArgs s_law_weight, defBody s_law_weight, defScope s_law_weight, [], []⟩,
  ⟨("_law_fitting", none), "_law_fitting", "_law_fitting", defArgs s_law_fitting, defBody s_law_fitting, defScope s_law_fitting, [], []⟩,
  ⟨("_law_made", none), "_law_made", "_law_made", defArgs s_law_made, defBody s_law_made, defScope s_law_made, [], []⟩,
  ⟨("_law_wide", none), "_law_wide", "_law_wide", defArgs s_law_wide, defBody s_law_wide, defScope s_law_wide, [], []⟩,
  ⟨("_law_plain", none), "_law_plain", "_law_plain", defArgs s_law_plain, defBody s_law_plain, defScope s_law_plain, [], []⟩,
  ⟨("_law_unlike", none), "_law_unlike", "_law_unlike", defArgs s_law_unlike, defBody s_law_unlike, defScope s_law_unlike, [], []⟩,
  ⟨("_law_told", none), "_law_told", "_law_told", defArgs s_law_told, defBody s_law_told, defScope s_law_told, [], []⟩,
  ⟨("_law_is_small_right", none), "_law_is_small_right", "_law_is_small_right", defArgs s_law_is_small_right, defBody s_law_is_small_right, defScope s_law_is_small_right, [], []⟩,
  ⟨("law", none), "law", "law", defArgs s_law, defBody s_law, defScope s_law, [], []⟩]
def fas : List He.Fa := [
  .glo "is_integer", .glo "is_within", .glo "is_row_below", .glo "DrawError", .glo "BadModel", .glo "TooMany", .glo "NoPicture", .glo "Model", .glo "is_table", .glo "is_tie", .glo "ties_at", .glo "is_picture", .glo "weight", .glo "goes_on", .glo "fitting_from", .glo "first_fitting", .glo "fitting", .glo "_law_hand", .glo "_law_draw", .glo "_law_any", .glo "_law_number", .glo "_law_pairs", .glo "_law_model", .glo "_law_pictures", .glo "_law_weight", .glo "_law_fitting", .glo "_law_made", .glo "_law_wide", .glo "_law_plain", .glo "_law_unlike", .glo "_law_told", .glo "_law_is_small_right", .glo "law", .free "ValueError", .free "abs", .free "all", .free "any", .free "bool", .free "enumerate", .free "int", .free "isinstance", .free "len", .free "list", .free "max", .free "range", .free "sum", .free "tuple", .free "zip", .cls "Model", .noat "Model" "many", .noat "Model" "levels", .noat "Model" "weights", .noat "Model" "ties", .mkr "Model", .meth "Model" "__eq__", .noat "TooMany" "most", .exm "TooMany" "TooMany" true]
-- defs: 0 is_integer, 1 is_within, 2 is_row_below, 3 BadModel.__init__, 4 TooMany.__init__, 5 NoPicture.__init__, 6 Model.__init__, 7 Model.__eq__, 8 is_table, 9 is_tie, 10 ties_at, 11 is_picture, 12 weight, 13 goes_on, 14 fitting_from, 15 first_fitting, 16 fitting, 17 _law_hand, 18 _law_draw, 19 _law_any, 20 _law_number, 21 _law_pairs, 22 _law_model, 23 _law_pictures, 24 _law_weight, 25 _law_fitting, 26 _law_made, 27 _law_wide, 28 _law_plain, 29 _law_unlike, 30 _law_told, 31 _law_is_small_right, 32 law
-- facts: 0 .glo "is_integer", 1 .glo "is_within", 2 .glo "is_row_below", 3 .glo "DrawError", 4 .glo "BadModel", 5 .glo "TooMany", 6 .glo "NoPicture", 7 .glo "Model", 8 .glo "is_table", 9 .glo "is_tie", 10 .glo "ties_at", 11 .glo "is_picture", 12 .glo "weight", 13 .glo "goes_on", 14 .glo "fitting_from", 15 .glo "first_fitting", 16 .glo "fitting", 17 .glo "_law_hand", 18 .glo "_law_draw", 19 .glo "_law_any", 20 .glo "_law_number", 21 .glo "_law_pairs", 22 .glo "_law_model", 23 .glo "_law_pictures", 24 .glo "_law_weight", 25 .glo "_law_fitting", 26 .glo "_law_made", 27 .glo "_law_wide", 28 .glo "_law_plain", 29 .glo "_law_unlike", 30 .glo "_law_told", 31 .glo "_law_is_small_right", 32 .glo "law", 33 .free "ValueError", 34 .free "abs", 35 .free "all", 36 .free "any", 37 .free "bool", 38 .free "enumerate", 39 .free "int", 40 .free "isinstance", 41 .free "len", 42 .free "list", 43 .free "max", 44 .free "range", 45 .free "sum", 46 .free "tuple", 47 .free "zip", 48 .cls "Model", 49 .noat "Model" "many", 50 .noat "Model" "levels", 51 .noat "Model" "weights", 52 .noat "Model" "ties", 53 .mkr "Model", 54 .meth "Model" "__eq__", 55 .noat "TooMany" "most", 56 .exm "TooMany" "TooMany" true
def names0 : List PySem.Str := ["is_integer", "is_within", "is_row_below", "DrawError", "BadModel", "TooMany", "NoPicture", "Model", "is_table", "is_tie", "ties_at", "is_picture"]
def names1 : List PySem.Str := ["weight", "goes_on", "fitting_from", "first_fitting", "fitting", "_law_hand", "_law_draw", "_law_any", "_law_number", "_law_pairs", "_law_model", "_law_pictures"]
def names2 : List PySem.Str := ["_law_weight", "_law_fitting", "_law_made", "_law_wide", "_law_plain", "_law_unlike", "_law_told", "_law_is_small_right"]
def names : List PySem.Str := names0 ++ names1 ++ names2
abbrev R : PySem.W.OpenRow := PySem.W.OpenLaw.row PySem.Challenge.rw_asifforever_k24_whole_weights_and_what_f
abbrev hk : PySem.W.Hook := hookM 4 fas fns exK
def ob (s : PySem.W.SharedT) : AlM := obsM 4 fas fns exK (HandSHeadRun.getT s)
theorem ob_eq (s : PySem.W.SharedT) : ob s = hk.obs s.abs := obsM_eq (HandSHeadRun.getT_eq s)
theorem run (w : World) : HandSHeadRun.RunEq R (PySem.W.view R.prog [36]) hk ob 13000 names w := by
  intro os
  kernel_rfl
end Law
set_option maxHeartbeats 4000000
namespace L2
open PySem PySem.Spec PyProof.Rows
/-! ### a dict whose keys are pairs (a number, a tuple of numbers), each with True -/
abbrev NKey := Int × List Int
def nkey (k : NKey) : NestedKey := .tup [.num k.1, .tup (k.2.map .num)]
theorem num_map_inj : ∀ {a b : List Int}, a.map NestedKey.num = b.map NestedKey.num → a = b
  | [], [], _ => rfl
  | [], _ :: _, h => by simp at h
  | _ :: _, [], h => by simp at h
  | x :: a, y :: b, h => by
    rw [List.map_cons, List.map_cons] at h
    injection h with h1 h2
    injection h1 with h1
    rw [h1, num_map_inj h2]
theorem nkey_inj {a b : NKey} (h : nkey a = nkey b) : a = b := by
  unfold nkey at h
  injection h with h
  injection h with h1 h2
  injection h1 with h1
  injection h2 with h2 _
  injection h2 with h2
  exact Prod.ext h1 (num_map_inj h2)
theorem nums_depth : ∀ l : List Int, NestedKey.depthAll (l.map NestedKey.num) = 0
  | [] => by simp [NestedKey.depthAll]
  | x :: l => by
    rw [List.map_cons, NestedKey.depthAll, nums_depth l]
    simp [NestedKey.depth]
theorem nkey_depth (k : NKey) : (nkey k).depth ≤ 8 := by
  unfold nkey
  simp [NestedKey.depth, NestedKey.depthAll, nums_depth]
/-- the key stands at b -/
def NKAt (H : Hp) (b : Addr) (k : NKey) : Prop := ∃ c, H b = some (.tup [.int k.1, .ref c]) ∧ H c = some (.tup (k.2.map V.int))
theorem nums_are {h : Heap} : ∀ {l : List Int} {its : List Value}, Vals (l.map V.int) its → NestedAll h (l.map NestedKey.num) its
  | [], _, r => by
    cases r
    exact .nil
  | x :: l, _, r => by
    cases r with
    | cons r1 r2 =>
      obtain ⟨t, rfl⟩ := (show ∃ t, _ = Value.int x t from r1)
      exact .cons (.int x t) (nums_are r2)
section
variable {P : Program} {w : World} {H : Hp} {h : Heap}
theorem nk_is (ok : HOk P w H h) {b : Addr} {k : NKey} (e : NKAt H b k) : (nestedKind P w).is h (nkey k) b := by
  obtain ⟨c, e1, e2⟩ := e
  obtain ⟨_, i1, r1, o1, a1, c1, n1, d1⟩ := (show ObjOk P w H h b (.tup [.int k.1, .ref c]) from ok b _ e1)
  obtain ⟨_, i2, r2, o2, a2, c2, n2, d2⟩ := (show ObjOk P w H h c (.tup (k.2.map V.int)) from ok c _ e2)
  refine ⟨?_, nkey_depth k⟩
  cases r1 with
  | cons q1 r1 =>
    cases r1 with
    | cons q2 r1 =>
      cases r1
      obtain ⟨t, rfl⟩ := (show ∃ t, _ = Value.int k.1 t from q1)
      cases (show _ = Value.ref c from q2)
      exact .tup a1 c1 d1 (.cons (.int _ t) (.cons (.tup a2 c2 d2 (nums_are r2)) .nil))
def ndX (xs : List (NKey × Addr)) : List (NestedKey × Addr × Value) := xs.map fun x => (nkey x.1, x.2, Value.bool true)
/-- the dict with these keys, by its own object alone -/
def ndO (P : Program) (w : World) (d : Addr) (xs : List (NKey × Addr)) : HO := .ext fun h => (d == sysModules) = false ∧
  ∃ o es ep, h.get? d = some o ∧ o.ExactDict ∧ o.data = .dict es ep ∧ es.toList = (ndX xs).map (entryOfKey (nestedKind P w)) ∧ ((ndX xs).map (·.1)).Nodup
/-- a dict with these keys stands at d -/
def NDic (P : Program) (w : World) (H : Hp) (d : Addr) (ks : List NKey) : Prop := ∃ xs : List (NKey × Addr), ks = xs.map (·.1) ∧ H d = some (ndO P w d xs) ∧ ∀ x ∈ xs, NKAt H x.2 x.1
theorem ndO_ok {H' : Hp} {h' : Heap} {d : Addr} {xs : List (NKey × Addr)} {o : Obj} {es : Array DictEntry} {ep : Nat} (hs : (d == sysModules) = false) (a : h'.get? d = some o) (b : o.ExactDict) (c : o.data = .dict es ep)
    (e : es.toList = (ndX xs).map (entryOfKey (nestedKind P w))) (n : ((ndX xs).map (·.1)).Nodup) : ObjOk P w H' h' d (ndO P w d xs) :=
  ⟨⟨hs, o, es, ep, a, b, c, e, n⟩, ⟨o, a⟩, fun _ _ ⟨s1, o1, es1, ep1, a1, r1⟩ k => ⟨s1, o1, es1, ep1, k _ a1, r1⟩⟩
theorem nd_rd (ok : HOk P w H h) {d : Addr} {xs : List (NKey × Addr)} (e : H d = some (ndO P w d xs)) (kk : ∀ x ∈ xs, NKAt H x.2 x.1) : (d == sysModules) = false ∧ h.DictOfH (nestedKind P w) d (ndX xs) := by
  obtain ⟨⟨s1, o, es, ep, a, b, c, e1, n⟩, _⟩ := (show ObjOk P w H h d (ndO P w d xs) from ok d _ e)
  refine ⟨s1, o, es, ep, a, b, c, e1, fun x hx => ?_, n⟩
  obtain ⟨y, hy, rfl⟩ := List.mem_map.mp hx
  exact nk_is ok (kk y hy)
theorem nd_at {xs : List (NKey × Addr)} (k : NKey) : (atKey (ndX xs) (nkey k)).isSome = decide (k ∈ xs.map (·.1)) := by
  unfold atKey ndX
  rw [Option.isSome_map]
  induction xs with
  | nil => rfl
  | cons x xs ih =>
    rw [List.map_cons, List.find?_cons]
    by_cases c : x.1 = k
    · rw [decide_eq_true (by rw [c] : (nkey x.1, x.2, Value.bool true).1 = nkey k)]
      rw [List.map_cons, decide_eq_true (by rw [c]; exact List.mem_cons_self)] <;> rfl
    · rw [decide_eq_false (fun z => c (nkey_inj z) : ¬ (nkey x.1, x.2, Value.bool true).1 = nkey k)]
      show Option.isSome _ = _
      rw [ih]
      refine decide_eq_decide.mpr ?_
      rw [List.map_cons, List.mem_cons]
      exact ⟨.inr, fun z => z.resolve_left fun q => c q.symm⟩
theorem nd_put_old {xs : List (NKey × Addr)} {k : NKey} : (ndX xs).map (putAt (nkey k) (Value.bool true)) = ndX xs := by
  unfold ndX
  rw [List.map_map]
  refine List.map_congr_left fun x _ => ?_
  show (if nkey x.1 = nkey k then _ else _) = _
  split <;> rfl
end
section
variable {X : Cx} {pos pos' : Pos} {o i value : Expr} {td ty tv : TE}
def tDNewN (P : Program) (w : World) : TE := fun _ H Q => ∀ p H', H p = none → Same H H' → NDic P w H' p [] → Q (.ref p) H'
theorem pe_dnewN : PE X (.Dict [] [] pos) (tDNewN X.prog X.w) := ⟨fun pins s σ H Q I h => by
  have fr := I.hok.fresh (Nat.le_refl s.heap.objs.size)
  have new : ObjOk X.prog X.w (upd H s.heap.objs.size (ndO X.prog X.w s.heap.objs.size [])) (s.heap.push { cls := .type "dict", data := .dict #[] }) s.heap.objs.size (ndO X.prog X.w s.heap.objs.size []) :=
    ndO_ok (beq_eq_false_iff_ne.mpr (Ne.symm (Nat.ne_of_lt I.big))) (Heap.get?_push_size _ rfl) ⟨rfl, rfl, rfl⟩ rfl rfl List.nodup_nil
  exact wpAny_Dict_empty ⟨.ref s.heap.objs.size, _, I.laid (a := s.heap.objs.size) (o := ndO X.prog X.w s.heap.objs.size []) (t' := s.toks) (fun _ _ q => Heap.get?_push_of_some _ q) (Nat.le_refl _) new, rfl,
    h _ _ fr (fun b u e => by rw [upd_ne (ne_of_none e fr)]; exact e) ⟨[], rfl, upd_same, fun x hx => absurd hx List.not_mem_nil⟩⟩⟩
/-- k in d -/
def tNDIn (P : Program) (w : World) (ty td : TE) : TE := fun σ H Q => ty σ H fun y H1 => td σ H1 fun x H2 => ∃ a b k ks, x = .ref a ∧ y = .ref b ∧ NKAt H2 b k ∧ NDic P w H2 a ks ∧ Q (.bl (decide (k ∈ ks))) H2
theorem pc_ndin (hu : X.A.units + 9 < cLine) (hi : PE X i ty) (ho : PE X o td) : PC X .In i o (tNDIn X.prog X.w ty td) := by
  refine ⟨fun pins s σ H Q I h => ?_⟩
  refine thn (hi.run pins s σ H _ I h) fun iv s1 ⟨y, H1, I1, ry, q1⟩ => thn (ho.run pins s1 σ H1 _ I1 q1) fun u s2 ⟨x, H2, I2, rx, a, b, k, ks, ex, ey, nk, nd, q2⟩ => ?_
  subst ex ey
  cases (show u = Value.ref a from rx)
  cases (show iv = Value.ref b from ry)
  obtain ⟨xs, rfl, e, kk⟩ := nd
  obtain ⟨hs, dd⟩ := nd_rd I2.hok e kk
  refine wpAny_in_heap (knd := nestedKind X.prog X.w) (by show X.A.units + 1 + 8 < cLine; omega) (nk_is I2.hok nk) hs dd ?_
  rw [nd_at]
  exact ⟨.bl _, H2, I2.tok _, rfl, q2⟩
/-- d[k] = True -/
def sNDPut (P : Program) (w : World) (td ty tv : TE) : TS := fun D σ H => tv σ H fun v H1 => td σ H1 fun x H2 => ty σ H2 fun y H3 => ∃ a b k ks, x = .ref a ∧ y = .ref b ∧ v = .bl true ∧ NKAt H3 b k ∧ NDic P w H3 a ks ∧ ks.length < sizeLine ∧
  ∀ ks' H4, (∀ q, q ∈ ks' ↔ q ∈ ks ∨ q = k) → ks'.length ≤ ks.length + 1 → (∀ c u, c ≠ a → H3 c = some u → H4 c = some u) → NDic P w H4 a ks' → D.nx σ H4
theorem ps_ndput (hu : X.A.units + 9 < cLine) (ho : PE X o td) (hi : PE X i ty) (hv : PE X value tv) (hs : swapsWith value (some (.Subscript o i pos')) pos.line X.env = pure false) :
    PS X (.Assign [.Subscript o i pos'] value pos) (sNDPut X.prog X.w td ty tv) := by
  refine ⟨fun pins s σ H D I h => ?_⟩
  refine wpAny_Assign_Subscript (thn (hv.run pins s σ H _ I h) fun r s1 ⟨v, H1, I1, rv, q1⟩ => thn (ho.run pins s1 σ H1 _ I1 q1) fun u s2 ⟨x, H2, I2, rx, q2⟩ => thn (hi.run pins s2 σ H2 _ I2 q2) fun iv s3 ⟨y, H3, I3, ry, a, b, k, ks, ex, ey, ev, nk, nd, nl, q3⟩ => ?_) hs
  subst ex ey ev
  cases (show u = Value.ref a from rx)
  cases (show iv = Value.ref b from ry)
  cases (show r = Value.bool true from rv)
  obtain ⟨xs, rfl, e, kk⟩ := nd
  obtain ⟨hsy, dd⟩ := nd_rd I3.hok e kk
  rw [List.length_map] at nl
  have mu : Mut (H3 a) := by rw [e]; exact True.intro
  have nka : ∀ {c : Addr} {q : NKey}, NKAt H3 c q → ∀ O, NKAt (upd H3 a O) c q := fun ⟨c', z1, z2⟩ O => ⟨c', by rw [upd_ne (ne_of z1 e (by intro z; cases z))]; exact z1, by rw [upd_ne (ne_of z2 e (by intro z; cases z))]; exact z2⟩
  refine wpAny_setItem_heap (knd := nestedKind X.prog X.w) (hsz := by unfold ndX; rw [List.length_map]; exact Nat.le_of_lt nl) (by show X.A.units + 1 + 8 < cLine; omega) (nk_is I3.hok nk) dd fun h' dd' hsame => ?_
  have fin : ∀ ys : List (NKey × Addr), ndX ys = storedH (ndX xs) (nkey k) b (Value.bool true) → (∀ q, q ∈ ys.map (·.1) ↔ q ∈ xs.map (·.1) ∨ q = k) → ys.length ≤ xs.length + 1 → (∀ y ∈ ys, NKAt H3 y.2 y.1) → SP X pins D .next { s3 with heap := h', toks := s3.toks + (nestedKind X.prog X.w).draws (nkey k) } := fun ys ey hm hl hk => by
    obtain ⟨ob, es, ep, g1, g2, g3, g4, _, g5⟩ := dd'
    rw [← ey] at g4 g5
    refine ⟨σ, upd H3 a (ndO X.prog X.w a ys), ?_, q3 (ys.map (·.1)) _ hm (by rw [List.length_map, List.length_map]; exact hl) (fun c u' n z => by rw [upd_ne n]; exact z) ⟨ys, rfl, upd_same, fun y hy => nka (hk y hy) _⟩⟩
    exact d_write I3 mu hsame ⟨ob, g1⟩ (ndO_ok hsy g1 g2 g3 g4 g5)
  by_cases c : k ∈ xs.map (·.1)
  · have z := nd_at (xs := xs) k
    rw [decide_eq_true c] at z
    obtain ⟨p, hp⟩ := Option.isSome_iff_exists.mp z
    refine fin xs ?_ (fun q => ⟨.inl, fun z => z.elim id fun z => by rw [z]; exact c⟩) (Nat.le_succ _) kk
    rw [storedH_old hp, nd_put_old]
  · have z := nd_at (xs := xs) k
    rw [decide_eq_false c] at z
    have hp : atKey (ndX xs) (nkey k) = none := by
      cases q : atKey (ndX xs) (nkey k) with
      | none => rfl
      | some p => rw [q] at z; cases z
    refine fin (xs ++ [(k, b)]) ?_ (fun q => ?_) (by rw [List.length_append]; exact Nat.le_refl _) fun y hy => ?_
    · rw [storedH_new hp]
      unfold ndX
      rw [List.map_append] <;> rfl
    · rw [List.map_append, List.mem_append]
      show _ ∨ q ∈ [k] ↔ _
      rw [List.mem_singleton]
    · rcases List.mem_append.mp hy with hy | hy
      · exact kk y hy
      · rw [List.mem_singleton.mp hy]
        exact nk
/-- d[k] = v as a target -/
def rSetD : TSet := fun o y v H Q => ∃ a H', o = .ref a ∧ DPut H a y v H' ∧ Q H'
theorem set_dict (hu : X.A.units + 1 < cLine) : PSet X rSetD := by
  intro pins s σ H o i v ov iv u Q I ro ri rv ⟨a, H', eo, g, q⟩
  subst eo
  cases (show ov = Value.ref a from ro)
  exact d_setItem hu I g ri rv fun s4 I4 => ⟨H', I4, q⟩
/-! ### a list of numbers from 0 on, of which no more is told -/
abbrev GoodG (xs : List Int) : Prop := (∀ x ∈ xs, 0 ≤ x) ∧ xs.length ≤ 63
def greatO (g : Addr) : HO := .ext fun h => ∃ xs : List Int, GoodG xs ∧ ∃ (its : List Value) (n : Nat), Vals (xs.map V.int) its ∧ h.get? g = some { cls := .type "list", data := .seq its.toArray n }
theorem greatO_ok {P : Program} {w : World} {H H' : Hp} {h : Heap} {g : Addr} {xs : List Int} (gx : GoodG xs) (x : ObjOk P w H h g (.lst (xs.map V.int))) : ObjOk P w H' h g (greatO g) := by
  obtain ⟨_, its, n, r, e⟩ := x
  exact ⟨⟨xs, gx, its, n, r, e⟩, ⟨_, e⟩, fun _ _ ⟨ys, gy, i2, n2, r2, e2⟩ k => ⟨ys, gy, i2, n2, r2, k _ e2⟩⟩
theorem Inv.toGreat {pins : List (Addr × Obj)} {σ : St} {H : Hp} {s : Shared} {g : Addr} {xs : List Int} (I : Inv X pins σ H s) (gx : GoodG xs) (e : H g = some (.lst (xs.map V.int))) : Inv X pins σ (upd H g (greatO g)) s := by
  have x := I.hok g _ e
  obtain ⟨_, its, n, r, e'⟩ := id x
  exact I.write (x := g) (e := g) (t' := s.toks) (h' := s.heap) (by rw [e]; exact True.intro) (.inl rfl) (fun _ _ _ q => q) ⟨_, e'⟩ (greatO_ok gx x)
theorem Inv.ofGreat {pins : List (Addr × Obj)} {σ : St} {H : Hp} {s : Shared} {g : Addr} (I : Inv X pins σ H s) (e : H g = some (greatO g)) : ∃ xs, GoodG xs ∧ Inv X pins σ (upd H g (.lst (xs.map V.int))) s := by
  obtain ⟨⟨xs, gx, its, n, r, e'⟩, _⟩ := (show ObjOk X.prog X.w H s.heap g (greatO g) from I.hok g _ e)
  refine ⟨xs, gx, I.write (x := g) (e := g) (t' := s.toks) (h' := s.heap) (by rw [e]; exact True.intro) (.inl rfl) (fun _ _ _ q => q) ⟨_, e'⟩ ⟨?_, its, n, r, e'⟩⟩
  have := gx.2
  rw [List.length_map, sizeLine_eq]
  omega
abbrev backG (g : Addr) (R : Hp → Prop) : Hp → Prop := fun H' => ∃ ys, GoodG ys ∧ H' g = some (.lst (ys.map V.int)) ∧ R (upd H' g (greatO g))
def tOpenG (t : TS) : TS := fun D σ H => ∃ g, H g = some (greatO g) ∧ ∀ xs, GoodG xs → t ⟨fun σ' => backG g (D.nx σ'), fun v => backG g (D.rt v), fun σ' => backG g (D.bk σ'), fun σ' => backG g (D.ct σ')⟩ σ (upd H g (.lst (xs.map V.int)))
theorem ps_openG {st : Stmt} {t : TS} (h : PS X st t) : PS X st (tOpenG t) := by
  refine ⟨fun pins s σ H D I hw => ?_⟩
  obtain ⟨g, e, hw⟩ := hw
  obtain ⟨xs, gx, I1⟩ := I.ofGreat e
  refine thn (h.run pins s σ _ _ I1 (hw xs gx)) fun f s1 q => ?_
  cases f with
  | next => obtain ⟨σ', H', I2, ys, gy, e2, q⟩ := q; exact ⟨σ', _, I2.toGreat gy e2, q⟩
  | brk => obtain ⟨σ', H', I2, ys, gy, e2, q⟩ := q; exact ⟨σ', _, I2.toGreat gy e2, q⟩
  | cont => obtain ⟨σ', H', I2, ys, gy, e2, q⟩ := q; exact ⟨σ', _, I2.toGreat gy e2, q⟩
  | ret v => obtain ⟨x, σ', H', I2, r, ys, gy, e2, q⟩ := q; exact ⟨x, σ', _, I2.toGreat gy e2, r, q⟩
def tCloseG (t : TS) : TS := fun D σ H => ∃ g xs, GoodG xs ∧ H g = some (.lst (xs.map V.int)) ∧ t D σ (upd H g (greatO g))
theorem ps_closeG {st : Stmt} {t : TS} (h : PS X st t) : PS X st (tCloseG t) := by
  refine ⟨fun pins s σ H D I hw => ?_⟩
  obtain ⟨g, xs, gx, e, hw⟩ := hw
  exact h.run pins s σ _ D (I.toGreat gx e) hw
end
end L2
namespace Law
open PySem L2
/-- what is asked of the module's names -/
structure NmA (mg : Str → Option Value) : Prop where
  abs : mg "abs" = none
  all : mg "all" = none
  any : mg "any" = none
  bool : mg "bool" = none
  enum : mg "enumerate" = none
  int : mg "int" = none
  isi : mg "isinstance" = none
  len : mg "len" = none
  list : mg "list" = none
  max : mg "max" = none
  range : mg "range" = none
  sum : mg "sum" = none
  tuple : mg "tuple" = none
  zip : mg "zip" = none
end Law
namespace Law
open PySem L2
/-! ### the hand: great numbers, small ones, their sum, a turn -/
theorem sne {x y : Str} (h : ¬ x = y) : ¬ ((Sum.inr x : Key) = Sum.inr y) := fun z => h (Sum.inr.inj z)
theorem m01 : ¬ ((Sum.inr ("great" : Str) : Key) = Sum.inr ("small" : Str)) := sne (by decide +kernel)
theorem m02 : ¬ ((Sum.inr ("great" : Str) : Key) = Sum.inr ("sum" : Str)) := sne (by decide +kernel)
theorem m03 : ¬ ((Sum.inr ("great" : Str) : Key) = Sum.inr ("turn" : Str)) := sne (by decide +kernel)
theorem m12 : ¬ ((Sum.inr ("small" : Str) : Key) = Sum.inr ("sum" : Str)) := sne (by decide +kernel)
theorem m13 : ¬ ((Sum.inr ("small" : Str) : Key) = Sum.inr ("turn" : Str)) := sne (by decide +kernel)
theorem m23 : ¬ ((Sum.inr ("sum" : Str) : Key) = Sum.inr ("turn" : Str)) := sne (by decide +kernel)
def hdK (gr sm : Addr) (s t : Int) : List (Key × V) := [(Sum.inr ("great" : Str), .ref gr), (Sum.inr ("small" : Str), .ref sm), (Sum.inr ("sum" : Str), .int s), (Sum.inr ("turn" : Str), .int t)]
section
variable {gr sm : Addr} {s t x : Int} {H : Hp} {p : Addr}
theorem put_of {kvs : List (Key × V)} {k : Key} {v w : V} (h : valV kvs k = some w) : putK kvs k v = kvs.map (fun kv => if kv.1 = k then (kv.1, v) else kv) := by
  unfold putK
  rw [if_pos (by rw [valV_any, h]; rfl)]
theorem get_great : valV (hdK gr sm s t) (Sum.inr ("great" : Str)) = some (.ref gr) := valV_pos rfl
theorem get_small : valV (hdK gr sm s t) (Sum.inr ("small" : Str)) = some (.ref sm) := (valV_neg m01).trans (valV_pos rfl)
theorem get_sum : valV (hdK gr sm s t) (Sum.inr ("sum" : Str)) = some (.int s) := (valV_neg m02).trans ((valV_neg m12).trans (valV_pos rfl))
theorem get_turn : valV (hdK gr sm s t) (Sum.inr ("turn" : Str)) = some (.int t) := (valV_neg m03).trans ((valV_neg m13).trans ((valV_neg m23).trans (valV_pos rfl)))
theorem put_turn : putK (hdK gr sm s t) (Sum.inr ("turn" : Str)) (.int x) = hdK gr sm s x := by
  rw [put_of get_turn]
  unfold hdK
  simp only [List.map_cons, List.map_nil, if_neg m03, if_neg m13, if_neg m23, if_true]
variable (hp : H p = some (.dK (hdK gr sm s t)))
include hp
theorem gt_great : DGet H p (.str "great") (some (.ref gr)) := by
  have := DGet.k (k := Sum.inr ("great" : Str)) hp
  rw [get_great] at this
  exact this
theorem gt_small : DGet H p (.str "small") (some (.ref sm)) := by
  have := DGet.k (k := Sum.inr ("small" : Str)) hp
  rw [get_small] at this
  exact this
theorem gt_sum : DGet H p (.str "sum") (some (.int s)) := by
  have := DGet.k (k := Sum.inr ("sum" : Str)) hp
  rw [get_sum] at this
  exact this
theorem gt_turn : DGet H p (.str "turn") (some (.int t)) := by
  have := DGet.k (k := Sum.inr ("turn" : Str)) hp
  rw [get_turn] at this
  exact this
theorem pt_turn (x : Int) : DPut H p (.str "turn") (.int x) (upd H p (.dK (hdK gr sm s x))) := by
  have := DPut.k (k := Sum.inr ("turn" : Str)) (v := .int x) hp (by show 4 < sizeLine; decide)
  rw [put_turn] at this
  exact this
end
/-- a hand stands at p -/
def HandAt (H : Hp) (p : Addr) : Prop := ∃ (gr sm : Addr) (small : List Int) (s t : Int), H p = some (.dK (hdK gr sm s t)) ∧ H gr = some (greatO gr) ∧ H sm = some (.lst (small.map V.int)) ∧ 0 < small.length ∧ small.length ≤ 64 ∧ (∀ c ∈ small, 0 ≤ c) ∧ 0 ≤ s ∧ 0 ≤ t
/-- its lists stand at g and c -/
def CellOf (H : Hp) (p g c : Addr) : Prop := ∃ s t, H p = some (.dK (hdK g c s t))
/-- what a draw may do: the hand stands again, nothing else has changed -/
structure Stp (p : Addr) (H H' : Hp) : Prop where
  keep : ∀ b o, b ≠ p → H b = some o → H' b = some o
  cell : ∀ g c, CellOf H p g c → CellOf H' p g c
  hand : HandAt H' p
theorem Stp.refl {p : Addr} {H : Hp} (h : HandAt H p) : Stp p H H := ⟨fun _ _ _ e => e, fun _ _ e => e, h⟩
theorem Stp.trans {p : Addr} {H H1 H2 : Hp} (a : Stp p H H1) (b : Stp p H1 H2) : Stp p H H2 := ⟨fun c o n e => b.keep c o n (a.keep c o n e), fun g c e => b.cell g c (a.cell g c e), b.hand⟩
theorem hdK_inj {ga ca gb cb : Addr} {s t s' t' : Int} (h : hdK ga ca s t = hdK gb cb s' t') : ga = gb ∧ ca = cb := by
  unfold hdK at h
  injection h with h1 h
  injection h1 with _ h2
  injection h2 with h2
  injection h with h3 _
  injection h3 with _ h4
  injection h4 with h4
  exact ⟨h2, h4⟩
theorem cell_eq {H : Hp} {p ga ca g c : Addr} {s t : Int} (hp : H p = some (.dK (hdK ga ca s t))) (h : CellOf H p g c) : g = ga ∧ c = ca := by
  obtain ⟨s', t', h⟩ := h
  rw [hp] at h
  have h1 := Option.some.inj h
  injection h1 with h2
  obtain ⟨a, b⟩ := hdK_inj h2
  exact ⟨a.symm, b.symm⟩
theorem cell_to {H H' : Hp} {p ga ca : Addr} {s t s' t' : Int} (hp : H p = some (.dK (hdK ga ca s t))) (hp' : H' p = some (.dK (hdK ga ca s' t'))) : ∀ g c, CellOf H p g c → CellOf H' p g c := fun g c hc => by
  obtain ⟨e1, e2⟩ := cell_eq hp hc
  rw [e1, e2]
  exact ⟨s', t', hp'⟩
/-- an object that stood not there at the start may change, whatever has been drawn since -/
theorem Stp.mut {p D : Addr} {H H' : Hp} {o : HO} (h : HandAt H p) (S : Stp p H H') (hD : H D = none) : Stp p H (upd H' D o) := by
  obtain ⟨ga, ca, small, s, t, hp, hg, hc, _⟩ := h
  obtain ⟨gb, cb, small', s', t', hp', hg', hc', r⟩ := S.hand
  obtain ⟨e1, e2⟩ := cell_eq hp' (S.cell ga ca ⟨s, t, hp⟩)
  have n1 : p ≠ D := ne_of_none hp hD
  have n2 : cb ≠ D := e2 ▸ ne_of_none hc hD
  have n3 : gb ≠ D := e1 ▸ ne_of_none hg hD
  exact ⟨fun b o n e => by rw [upd_ne (ne_of_none e hD)]; exact S.keep b o n e, fun g c hc => by
    obtain ⟨x1, x2, x3⟩ := S.cell g c hc
    exact ⟨x1, x2, by rw [upd_ne n1]; exact x3⟩, gb, cb, small', s', t', by rw [upd_ne n1]; exact hp', by rw [upd_ne n3]; exact hg', by rw [upd_ne n2]; exact hc', r⟩
def spDraw : Sp := fun vs H Q _ => ∃ (p : Addr) (m : Int), vs = [.ref p, .int m] ∧ 0 < m ∧ m < 1099511627776 ∧ HandAt H p ∧ ∀ (d : Int) (H' : Hp), 0 ≤ d → d < m → Stp p H H' → Q (.int d) H'
theorem getg {ys : List Int} (h : 0 < ys.length) : ∃ z, ys[0]? = some z ∧ z ∈ ys := ⟨ys[0], List.getElem?_eq_getElem h, List.getElem_mem h⟩
theorem atI_ints {ys : List Int} {i : Nat} {z : Int} (h : ys[i]? = some z) : atI (ys.map V.int) (i : Int) = some (V.int z) := atI_nat (by rw [List.getElem?_map, h] <;> rfl)
theorem Stp.sqL {K : PySem.W.Frag} {p l : Addr} {H H' : Hp} {xs : List V} (S : Stp p H H') (hp : HandAt H p) (h : SqL K H l xs) : SqL K H' l xs := by
  obtain ⟨ga, ca, small, s, t, hp, _⟩ := hp
  rcases h with (h | ⟨o, h⟩) | h
  · exact .inl (.inl (S.keep _ _ (ne_of h hp (by intro z; cases z)) h))
  · exact .inl (.inr ⟨o, S.keep _ _ (ne_of h hp (by intro z; cases z)) h⟩)
  · exact .inr h
theorem Stp.sqT {K : PySem.W.Frag} {p l : Addr} {H H' : Hp} {xs : List V} (S : Stp p H H') (hp : HandAt H p) (h : SqT K H l xs) : SqT K H' l xs := by
  obtain ⟨ga, ca, small, s, t, hp, _⟩ := hp
  rcases h with (h | ⟨o, h⟩) | h
  · exact .inl (.inl (S.keep _ _ (ne_of h hp (by intro z; cases z)) h))
  · exact .inl (.inr ⟨o, S.keep _ _ (ne_of h hp (by intro z; cases z)) h⟩)
  · exact .inr h
theorem ne_hand {H : Hp} {p a : Addr} (h : HandAt H p) (n : H a = none) : a ≠ p := by
  obtain ⟨ga, ca, small, s, t, hp, _⟩ := h
  intro z
  rw [z, hp] at n
  cases n
end Law
namespace L2
open PySem
theorem Same.sqT {K : PySem.W.Frag} {H H' : Hp} {a : Addr} {xs : List V} (e : Same H H') (h : SqT K H a xs) : SqT K H' a xs := by
  rcases h with (h | ⟨o, h⟩) | h
  · exact .inl (.inl (e _ _ h))
  · exact .inl (.inr ⟨o, e _ _ h⟩)
  · exact .inr h
theorem Same.new {H : Hp} {p : Addr} {o : HO} (h : H p = none) : Same H (upd H p o) := fun b u e => by
  rw [upd_ne (ne_of_none e h)]
  exact e
theorem Same.mut {H H' : Hp} {p : Addr} {o : HO} (e : Same H H') (h : H p = none) : Same H (upd H' p o) := fun b u hb => by
  rw [upd_ne (ne_of_none hb h)]
  exact e b u hb
@[elab_as_elim] theorem new_step {H : Hp} {a : Addr} {o : HO} {Q : Hp → Prop} (h : H a = none) (k : ∀ G, Same H G → G a = some o → Q G) : Q (upd H a o) := k _ (Same.new h) upd_same
end L2
namespace Law
open PySem L2
theorem HandAt.same {H H' : Hp} {p : Addr} (h : HandAt H p) (s : Same H H') : HandAt H' p := by
  obtain ⟨ga, ca, small, s1, t, hp, hg, hc, r⟩ := h
  exact ⟨ga, ca, small, s1, t, s _ _ hp, s _ _ hg, s _ _ hc, r⟩
theorem Stp.of {H H' : Hp} {p : Addr} (h : HandAt H p) (s : Same H H') : Stp p H H' := ⟨fun b o _ e => s b o e, fun g c ⟨x, y, e⟩ => ⟨x, y, s _ _ e⟩, h.same s⟩
theorem Stp.pre {p : Addr} {H H1 H2 : Hp} (b : Stp p H1 H2) (s : Same H H1) (h : HandAt H p) : Stp p H H2 := (Stp.of h s).trans b
theorem Stp.post {p : Addr} {H H1 H2 : Hp} (a : Stp p H H1) (s : Same H1 H2) : Stp p H H2 := a.trans (Stp.of a.hand s)
theorem cut63 {xs : List V} (h : xs.length ≤ 63) : cutV xs none (some 63) = xs := by
  unfold cutV
  show (xs.drop 0).take (HT.sIx xs.length xs.length (some ((63 : Nat) : Int)) - 0) = xs
  rw [HT.sIx_nat, Nat.min_eq_right (by omega), Nat.sub_zero, List.drop_zero, List.take_length]
theorem merge_app : ∀ (more acc : List (Key × V)), ((acc ++ more).map (·.1)).Nodup → mergeK acc more = acc ++ more
  | [], acc, _ => (List.append_nil acc).symm
  | p :: r, acc, h => by
    have hn : valV acc p.1 = none := by
      unfold valV
      rw [List.find?_eq_none.mpr]
      · rfl
      · intro kv hkv e
        rw [List.map_append, List.nodup_append] at h
        exact h.2.2 kv.1 (List.mem_map_of_mem hkv) p.1 (List.mem_map_of_mem List.mem_cons_self) (of_decide_eq_true e)
    have e : putK acc p.1 p.2 = acc ++ [p] := putK_new _ hn
    show mergeK (putK acc p.1 p.2) r = acc ++ p :: r
    rw [e, merge_app r (acc ++ [p]) (by rw [List.append_assoc]; exact h), List.append_assoc] <;> rfl
theorem hd_keys (gr sm : Addr) (s t : Int) : ((hdK gr sm s t).map (·.1)).Nodup := by
  show ([Sum.inr ("great" : Str), Sum.inr ("small" : Str), Sum.inr ("sum" : Str), Sum.inr ("turn" : Str)] : List Key).Nodup
  decide +kernel
theorem merge_hd (gr sm : Addr) (s t : Int) : mergeK [] (hdK gr sm s t) = hdK gr sm s t := merge_app _ [] (hd_keys gr sm s t)
def absI (n : Int) : Int := if n < 0 then -n else n
theorem absI_nn (n : Int) : 0 ≤ absI n := by
  unfold absI
  split <;> omega
def spHand (K : PySem.W.Frag) : Sp := fun vs H Q _ => ∃ (a : Addr) (ns : List Int), vs = [.ref a] ∧ SqL K H a (ns.map V.int) ∧ ns.length ≤ 63 ∧ ∀ (p : Addr) (H' : Hp), H p = none → Same H H' → HandAt H' p → Q (.ref p) H'
theorem sum_nn : ∀ {l : List Int}, (∀ x ∈ l, 0 ≤ x) → 0 ≤ l.sum
  | [], _ => Int.le_refl 0
  | x :: l, h => by
    rw [List.sum_cons]
    have := h x List.mem_cons_self
    have := sum_nn fun y hy => h y (List.mem_cons_of_mem _ hy)
    omega
section
variable {P : Program} {w : World} {K : PySem.W.Frag} {mg : Str → Option Value} {base : Heap}
abbrev nLawHand : List Str := ["_law_script", "_law_given", "_law_small", "_law_great", "_law_cell"]
theorem scLawHand : FnScope nLawHand ["_law_script"] (defScope s_law_hand) := ⟨rfl, rfl, rfl, by decide +kernel, rfl, by decide +kernel, by decide +kernel⟩
theorem ok_hand {f : Addr} {fd : FuncData} (F : Fun K "_law_hand" "_law_hand" s_law_hand f fd) (T : NmA mg) : FnOk P w K mg base CX0 1 f fd ["_law_script"] (spHand K) := by
  refine F.ok scLawHand (fun vs H Q E h => ?_) (fun cdv A' outer s H vs Q E hr h => ?_)
  · obtain ⟨a, ns, rfl, _⟩ := h
    rfl
  · obtain ⟨a, ns, rfl, hS, h63, k⟩ := h
    have hu := hu_of hr
    refine ⟨_, pss_cons (ps_setLc (i := 1) (own := [("_law_cell", 4)]) (g := (gName 4)) (tt := tYes) (by rfl) scLawHand.nd rfl rfl (sw_true rfl rfl rfl (by decide +kernel)) (pi_list (pe_slice sl_list (pv 0) po_none (po_some pe_int))) (blkOk_by (own := [("_law_cell", 4)]) (N := nLawHand) (sc := defScope s_law_hand) (by decide +kernel)) (fun _ _ _ _ _ => (pg_name (i := 4) scLawHand.nd rfl (Or.inl rfl))) (fun _ _ _ _ _ => pts_nil) (fun _ _ _ _ _ => (pe_callB call_abs (by rfl) T.abs (by decide +kernel) (pa_cons (pe_callTy (r := fun xs H Q => (∃ i, xs = [.int i] ∧ Q (.int i) H) ∨ ∃ k, xs = [.bl k] ∧ Q (.int (if k then 1 else 0)) H) call_int1 (by rfl) T.int (by decide +kernel) (pa_cons (pv 4) pa_nil)) pa_nil))))
      (pss_cons (ps_set (i := 2) scLawHand.nd rfl (Or.inl rfl) (pe_op op_cat (pe_lc (own := [("_law_cell", 4)]) (g := (gName 4)) (tt := _) rfl scLawHand.nd  (pi_list (pv 1)) (blkOk_by (own := [("_law_cell", 4)]) (N := nLawHand) (sc := defScope s_law_hand) (by decide +kernel)) (fun _ _ _ _ _ => (pg_name (i := 4) scLawHand.nd rfl (Or.inl rfl))) (fun _ _ _ _ _ => (pts_one (pt_cmpR op_lt (pv 4) (pe_op op_pow pe_int pe_int) (nomark _)))) (fun _ _ _ _ _ => (pe_op op_mod (pe_callTy (r := fun xs H Q => (∃ i, xs = [.int i] ∧ Q (.int i) H) ∨ ∃ k, xs = [.bl k] ∧ Q (.int (if k then 1 else 0)) H) call_int1 (by rfl) T.int (by decide +kernel) (pa_cons (pv 4) pa_nil)) pe_int))) (pe_lst (pa_cons (pe_op op_add (pe_op op_mul pe_int (pe_callB call_len_seq (by rfl) T.len PySem.boot_len (pa_cons (pv 1) pa_nil))) pe_int) pa_nil))))
      (pss_cons (ps_setLc (i := 3) (own := [("_law_cell", 4)]) (g := (gName 4)) (tt := _) (by rfl) scLawHand.nd rfl rfl (sw_true rfl rfl rfl (by decide +kernel)) (pi_list (pv 1)) (blkOk_by (own := [("_law_cell", 4)]) (N := nLawHand) (sc := defScope s_law_hand) (by decide +kernel)) (fun _ _ _ _ _ => (pg_name (i := 4) scLawHand.nd rfl (Or.inl rfl))) (fun _ _ _ _ _ => (pts_one (pt_cmpR op_ge (pv 4) (pe_op op_pow pe_int pe_int) (nomark _)))) (fun _ _ _ _ _ => (pv 4)))
      (pss_one (ps_closeG (ps_ret (pe_disp (pps_cons pe_str (pv 3) (pps_cons pe_str (pv 2) (pps_cons pe_str (pe_op op_mod (pe_callTy call_int1 (by rfl) T.int (by decide +kernel) (pa_cons (pe_callB (cr_sum rfl) (by rfl) T.sum (by decide +kernel) (pa_cons (pv 2) pa_nil)) pa_nil)) pe_int) (pps_cons pe_str pe_int pps_nil)))) (by rfl) (by rfl) (fun z => by cases z) (by decide))))))), ?_⟩
    refine ⟨_, rfl, 63, rfl, a, _, rfl, hS, fun sp nsp => ?_⟩
    have h63' : (ns.map V.int).length ≤ 63 := by rw [List.length_map]; exact h63
    rw [cut63 h63']
    refine new_step nsp fun H1 s1 e1 => ?_
    refine ⟨sp, rfl, ⟨_, SqL.of e1⟩, fun D hD => ?_⟩
    refine lc_list (K := K) (a := sp) (xs := ns.map V.int) (fun i H' => Same H1 H' ∧ ∃ l : List Int, H' D = some (.lst (l.map V.int)) ∧ l.length = i ∧ ∀ x ∈ l, 0 ≤ x) ⟨Same.new hD, [], upd_same, rfl, fun x hx => absurd hx List.not_mem_nil⟩ (fun i H' _ h => SqL.of (h.1 _ _ e1)) ?_ ?_
    · rintro i x H' hi ⟨s2, l, h1, h2, h3⟩
      rw [List.getElem?_map] at hi
      obtain ⟨z, hz, rfl⟩ := Option.map_eq_some_iff.mp hi
      have il := (List.getElem?_eq_some_iff.mp hz).1
      refine ⟨rfl, _, rfl, .inl ⟨_, rfl, _, rfl, _, h1, ?_, s2.mut hD, l ++ [absI z], ?_, by rw [List.length_append, h2] <;> rfl, fun y hy => ?_⟩⟩
      · rw [List.length_map]
        exact small1000 (by omega)
      · rw [upd_same, List.map_append] <;> rfl
      · rcases List.mem_append.mp hy with hy | hy
        · exact h3 y hy
        · rw [List.mem_singleton.mp hy]
          exact absI_nn z
    rintro H2 ⟨s2, gv, g1, g2, g3⟩
    rw [List.length_map] at g2
    have Dn : H D = none := s1.free hD
    refine ⟨_, rfl, D, rfl, ⟨_, SqL.of g1⟩, fun D2 hD2 => ?_⟩
    refine lc_list (K := K) (a := D) (xs := gv.map V.int) (fun i H' => Same H2 H' ∧ ∃ l : List Int, H' D2 = some (.lst (l.map V.int)) ∧ l.length ≤ i ∧ ∀ x ∈ l, 0 ≤ x) ⟨Same.new hD2, [], upd_same, Nat.le_refl _, fun x hx => absurd hx List.not_mem_nil⟩ (fun i H' _ h => SqL.of (h.1 _ _ g1)) ?_ ?_
    · rintro i x H' hi ⟨s3, l, h1, h2, h3⟩
      rw [List.getElem?_map] at hi
      obtain ⟨z, hz, rfl⟩ := Option.map_eq_some_iff.mp hi
      have il := (List.getElem?_eq_some_iff.mp hz).1
      refine ⟨rfl, _, rfl, _, _, rfl, rfl, ⟨by decide, by decide, by decide⟩, _, _, rfl, rfl, _, rfl, ite2 (fun _ => ?_) (fun _ => ⟨s3, l, h1, by omega, h3⟩)⟩
      refine ⟨_, rfl, .inl ⟨_, rfl, _, _, rfl, rfl, (by show (0 : Int) < 1000000007; decide), _, h1, ?_, s3.mut hD2, l ++ [z % 1000000007], ?_, by rw [List.length_append]; exact Nat.succ_le_succ h2, fun y hy => ?_⟩⟩
      · rw [List.length_map]
        exact small1000 (by omega)
      · rw [upd_same, List.map_append] <;> rfl
      · rcases List.mem_append.mp hy with hy | hy
        · exact h3 y hy
        · rw [List.mem_singleton.mp hy]
          exact Int.emod_nonneg _ (by decide)
    rintro H3 ⟨s3, sl, l1, l2, l3⟩
    rw [List.length_map] at l2
    have g13 := s3 _ _ g1
    refine ⟨_, rfl, D, _, rfl, .inl (SqL.of g13), _, _, rfl, rfl, .inl ⟨by decide, by decide⟩, _, _, rfl, rfl, by show 1 ≤ sizeLine; decide, fun L hL => ?_⟩
    refine new_step hL fun H4 s4 e4 => ?_
    refine ⟨D2, L, _, _, rfl, rfl, s4 _ _ l1, e4, ?_, fun sm hsm => ?_⟩
    · rw [List.length_map]
      show _ + 1 ≤ _
      rw [sizeLine_eq]
      omega
    refine new_step hsm fun H5 s5 e5 => ?_
    have s35 := s4.trans s5
    have g15 := s35 _ _ g13
    have s05 := ((s1.trans s2).trans s3).trans s35
    obtain ⟨small, es, n1, n2, n3⟩ : ∃ small : List Int, sl.map V.int ++ [V.int (37 * ((gv.map V.int).length : Nat) + 11)] = small.map V.int ∧ 0 < small.length ∧ small.length ≤ 64 ∧ ∀ c ∈ small, 0 ≤ c := by
      refine ⟨sl ++ [37 * (((gv.map V.int).length : Nat) : Int) + 11], by rw [List.map_append] <;> rfl, by rw [List.length_append]; exact Nat.succ_pos _, by rw [List.length_append]; show _ + 1 ≤ _; omega, fun c hc => ?_⟩
      rcases List.mem_append.mp hc with hc | hc
      · exact l3 c hc
      · rw [List.mem_singleton.mp hc]
        omega
    rw [es] at e5
    refine ⟨_, rfl, D, rfl, ⟨_, SqL.of g15⟩, fun D3 hD3 => ?_⟩
    have D3n : H D3 = none := s05.free hD3
    refine lc_list (K := K) (a := D) (xs := gv.map V.int) (fun i H' => Same H5 H' ∧ ∃ l : List Int, H' D3 = some (.lst (l.map V.int)) ∧ l.length ≤ i ∧ ∀ x ∈ l, 0 ≤ x) ⟨Same.new hD3, [], upd_same, Nat.le_refl _, fun x hx => absurd hx List.not_mem_nil⟩ (fun i H' _ h => SqL.of (h.1 _ _ g15)) ?_ ?_
    · rintro i x H' hi ⟨s6, l, h1, h2, h3⟩
      rw [List.getElem?_map] at hi
      obtain ⟨z, hz, rfl⟩ := Option.map_eq_some_iff.mp hi
      have il := (List.getElem?_eq_some_iff.mp hz).1
      refine ⟨rfl, _, rfl, _, _, rfl, rfl, ⟨by decide, by decide, by decide⟩, _, _, rfl, rfl, _, rfl, ite2 (fun _ => ?_) (fun _ => ⟨s6, l, h1, by omega, h3⟩)⟩
      refine ⟨_, rfl, _, h1, ?_, s6.mut hD3, l ++ [z], ?_, by rw [List.length_append]; exact Nat.succ_le_succ h2, fun y hy => ?_⟩
      · rw [List.length_map]
        exact small1000 (by omega)
      · rw [upd_same, List.map_append] <;> rfl
      · rcases List.mem_append.mp hy with hy | hy
        · exact h3 y hy
        · rw [List.mem_singleton.mp hy]
          exact g3 z (List.mem_of_getElem? hz)
    rintro H6 ⟨s6, gl, q1, q2, q3⟩
    rw [List.length_map] at q2
    have s06 := s05.trans s6
    have e6 := s6 _ _ e5
    have D3sm : sm ≠ D3 := ne_of_none e5 hD3
    refine ⟨D3, gl, ⟨q3, by omega⟩, q1, ?_⟩
    have s07 : Same H (upd H6 D3 (greatO D3)) := s06.mut D3n
    obtain ⟨H7, hH7⟩ : ∃ G, G = upd H6 D3 (greatO D3) := ⟨_, rfl⟩
    have e7 : H7 sm = some (.lst (small.map V.int)) := by rw [hH7, upd_ne D3sm]; exact e6
    have q7 : H7 D3 = some (greatO D3) := by rw [hH7]; exact upd_same
    rw [← hH7] at s07 ⊢
    intro p np
    have e8 : upd H7 p (.dK []) sm = some (.lst (small.map V.int)) := (Same.new np) _ _ e7
    refine ⟨_, rfl, _, rfl, _, rfl, sm, small, rfl, SqL.of e8, .inl ⟨_, rfl, _, _, rfl, rfl, (by show (0 : Int) < 999979; decide), upd_same, hdK D3 sm (small.sum % 999979) 0, rfl, (show 4 ≤ 15 by decide), ?_⟩⟩
    rw [merge_hd, upd_upd]
    refine k p _ (s07.free np) (s07.trans (Same.new np)) ⟨D3, sm, small, _, 0, upd_same, (Same.new np) _ _ q7, (Same.new np) _ _ e7, n1, n2, n3, Int.emod_nonneg _ (by decide), by decide⟩
abbrev nLawDraw : List Str := ["_law_hand_here", "_law_many", "_law_number_here", "_law_turn", "_law_seed"]
theorem scLawDraw : FnScope nLawDraw ["_law_hand_here", "_law_many"] (defScope s_law_draw) := ⟨rfl, rfl, rfl, by decide +kernel, rfl, by decide +kernel, by decide +kernel⟩
theorem ok_draw {f : Addr} {fd : FuncData} (F : Fun K "_law_draw" "_law_draw" s_law_draw f fd) (T : NmA mg) : FnOk P w K mg base CX0 1 f fd ["_law_hand_here", "_law_many"] spDraw := by
  refine F.ok scLawDraw (fun vs H Q E h => ?_) (fun cdv A' outer s H vs Q E hr h => ?_)
  · obtain ⟨p, m, rfl, _⟩ := h
    rfl
  · obtain ⟨p, m, rfl, hm0, hm1, hH, k⟩ := h
    have hu := hu_of hr
    refine ⟨_, pss_cons (ps_openG (ps_if (pt_cmpR op_gt (pe_callB call_len_seq (by rfl) T.len PySem.boot_len (pa_cons (pe_dget hu (pv 0) pe_str (fun _ _ => rfl)) pa_nil)) pe_int (nomark _))
        (pss_cons (ps_set (i := 2) scLawDraw.nd rfl (Or.inl rfl) (pe_ix ix_list (pe_dget hu (pv 0) pe_str (fun _ _ => rfl)) pe_int (fun _ _ => rfl)))
        (pss_cons (ps_asg (pe_op op_fdivW (pv 2) (pv 1)) (pg_sub (pe_dget hu (pv 0) pe_str (fun _ _ => rfl)) pe_int set_list))
        (pss_cons (ps_if (pt_cmpR op_lt (pv 2) (pv 1) (nomark _))
          (pss_one (ps_expr (pe_bm PySem.F.plainAttrs_list PySem.F.slot_list_pop PySem.F.type_list_pop mt_popAt (pe_dget hu (pv 0) pe_str (fun _ _ => rfl)) (pa_cons pe_int pa_nil)))) pss_nil)
        (pss_one (ps_ret (pe_op op_mod (pe_callTy call_int1 (by rfl) T.int (by decide +kernel) (pa_cons (pv 2) pa_nil)) (pv 1))))))) pss_nil))
      (pss_cons (ps_set (i := 3) scLawDraw.nd rfl (Or.inl rfl) (pe_op op_add (pe_dget hu (pv 0) pe_str (fun _ _ => rfl)) pe_int))
      (pss_cons (ps_dput hu (pv 0) pe_str (pv 3) rfl)
      (pss_cons (ps_set (i := 4) scLawDraw.nd rfl (Or.inl rfl) (pe_op op_add (pe_ix ix_list (pe_dget hu (pv 0) pe_str (fun _ _ => rfl)) (pe_op op_mod (pe_callTy call_int1 (by rfl) T.int (by decide +kernel) (pa_cons (pv 3) pa_nil)) (pe_callB call_len_seq (by rfl) T.len PySem.boot_len (pa_cons (pe_dget hu (pv 0) pe_str (fun _ _ => rfl)) pa_nil))) (fun _ _ => rfl)) (pe_op op_mul pe_int (pe_dget hu (pv 0) pe_str (fun _ _ => rfl)))))
      (pss_cons (ps_set (i := 2) scLawDraw.nd rfl (Or.inl rfl) (pe_op op_mod (pe_callTy call_int1 (by rfl) T.int (by decide +kernel) (pa_cons (pe_op op_mul (pe_op op_add (pe_op op_add (pv 4) (pe_op op_mul pe_int (pv 3))) pe_int) pe_int) pa_nil)) pe_int))
      (pss_cons (ps_set (i := 2) scLawDraw.nd rfl (Or.inl rfl) (pe_op op_mod (pe_callTy call_int1 (by rfl) T.int (by decide +kernel) (pa_cons (pe_op op_mul (pv 2) (pe_op op_add (pe_op op_fdiv (pv 2) pe_int) pe_int)) pa_nil)) pe_int))
      (pss_cons (ps_set (i := 2) scLawDraw.nd rfl (Or.inl rfl) (pe_op op_mod (pe_callTy call_int1 (by rfl) T.int (by decide +kernel) (pa_cons (pe_op op_add (pe_op op_mul (pv 2) (pe_op op_add (pe_op op_fdiv (pv 2) pe_int) pe_int)) (pv 3)) pa_nil)) pe_int))
      (pss_one (ps_ret (pe_op op_mod (pe_callTy call_int1 (by rfl) T.int (by decide +kernel) (pa_cons (pe_op op_fdiv (pv 2) pe_int) pa_nil)) (pv 1)))))))))), ?_⟩
    obtain ⟨gr, sm, small, s0, t, hp, hg, hc, c1, c2, c3, hs, ht⟩ := id hH
    have ngp : gr ≠ p := ne_of hg hp (by intro z; cases z)
    have nsp : sm ≠ p := ne_of hc hp (by intro z; cases z)
    refine ⟨gr, hg, fun xs gx => ?_⟩
    have hp' : upd H gr (.lst (xs.map V.int)) p = some (.dK (hdK gr sm s0 t)) := by rw [upd_ne (Ne.symm ngp)]; exact hp
    have back : ∀ o, upd (upd H gr o) gr (greatO gr) = H := fun o => by
      rw [upd_upd]
      funext b
      by_cases hb : b = gr
      · rw [hb, upd_same, hg]
      · rw [upd_ne hb]
    refine ⟨_, rfl, p, _, rfl, gt_great hp', gr, _, rfl, .inl (SqL.of upd_same), _, _, rfl, rfl, _, rfl, ite2 (fun h0 => ?_) (fun _ => ?_)⟩
    · have h0 := of_decide_eq_true h0
      rw [List.length_map] at h0
      have h0 : 0 < xs.length := by omega
      obtain ⟨z, hz, zm⟩ := getg h0
      have z0 := gx.1 z zm
      refine ⟨_, rfl, p, _, rfl, gt_great hp', gr, _, _, _, rfl, rfl, SqL.of upd_same, atI_ints (i := 0) hz, ?_⟩
      refine ⟨_, rfl, _, rfl, _, _, rfl, rfl, wide_div (b := 40) hm0 (by omega) (by decide) (by decide), _, rfl, p, _, rfl, gt_great hp', gr, _, _, 0, rfl, rfl, upd_same, Evl.ixN_nat (by rw [List.length_map]; exact h0), ?_⟩
      rw [upd_upd]
      have es : (xs.map V.int).set 0 (.int (z / m)) = (xs.set 0 (z / m)).map V.int := by rw [List.map_set]
      rw [es]
      have gy : GoodG (xs.set 0 (z / m)) := ⟨fun y hy => by
        rcases List.mem_or_eq_of_mem_set hy with hy | hy
        · exact gx.1 y hy
        · rw [hy]
          exact Int.ediv_nonneg z0 (by omega), by rw [List.length_set]; exact gx.2⟩
      have hp2 : ∀ o, upd H gr o p = some (.dK (hdK gr sm s0 t)) := fun o => by rw [upd_ne (Ne.symm ngp)]; exact hp
      have fin : ∀ ys, GoodG ys → ∃ ys', GoodG ys' ∧ upd H gr (.lst (ys.map V.int)) gr = some (.lst (ys'.map V.int)) ∧ Q (.int (z % m)) (upd (upd H gr (.lst (ys.map V.int))) gr (greatO gr)) := fun ys gy => ⟨ys, gy, upd_same, by
        rw [back]
        exact k _ _ (Int.emod_nonneg _ (by omega)) (Int.emod_lt_of_pos _ hm0) (Stp.refl hH)⟩
      refine ⟨_, rfl, _, rfl, _, _, rfl, rfl, _, rfl, ite2 (fun _ => ?_) (fun _ => ?_)⟩
      · have len1 : 0 < ((xs.set 0 (z / m)).map V.int).length := by rw [List.length_map, List.length_set]; exact h0
        refine ⟨_, rfl, p, _, rfl, gt_great (hp2 _), .inl ⟨rfl, _, SqL.of upd_same⟩, gr, _, 0, 0, ((xs.set 0 (z / m)).map V.int)[0], rfl, rfl, upd_same, by decide, by decide, (ixN_seq (i := 0) (j := 0) (Evl.ixN_nat len1)).1, List.getElem?_eq_getElem len1, ?_⟩
        rw [upd_upd]
        have ee : ((xs.set 0 (z / m)).map V.int).eraseIdx 0 = ((xs.set 0 (z / m)).eraseIdx 0).map V.int := by rw [DT.map_erase]
        rw [ee]
        refine ⟨_, rfl, .inl ⟨_, rfl, _, rfl, _, _, rfl, rfl, hm0, fin _ ⟨fun y hy => gy.1 y (List.mem_of_mem_eraseIdx hy), Nat.le_trans (List.length_eraseIdx_le _ _) gy.2⟩⟩⟩
      · exact ⟨_, rfl, .inl ⟨_, rfl, _, rfl, _, _, rfl, rfl, hm0, fin _ gy⟩⟩
    · refine ⟨xs, gx, upd_same, ?_⟩
      rw [back]
      refine ⟨_, rfl, p, _, rfl, gt_turn hp, _, _, rfl, rfl, ?_⟩
      refine ⟨_, rfl, _, rfl, p, _, rfl, pt_turn hp _, ?_⟩
      have hc' : upd H p (.dK (hdK gr sm s0 (t + 1))) sm = some (.lst (small.map V.int)) := by rw [upd_ne nsp]; exact hc
      have ll : 0 < ((small.map V.int).length : Int) := by rw [List.length_map]; omega
      obtain ⟨j, hj⟩ := Int.eq_ofNat_of_zero_le (Int.emod_nonneg (t + 1) (show ((small.map V.int).length : Int) ≠ 0 by omega))
      have jl : j < small.length := by
        have := Int.emod_lt_of_pos (t + 1) ll
        rw [List.length_map] at this hj
        omega
      have at1 : atI (small.map V.int) ((t + 1) % ((small.map V.int).length : Int)) = some (V.int small[j]) := by
        rw [hj]
        exact atI_ints (List.getElem?_eq_getElem jl)
      have v0 := c3 _ (List.getElem_mem jl)
      refine ⟨_, rfl, p, _, rfl, gt_small upd_same, _, rfl, .inl ⟨_, rfl, _, rfl, p, _, rfl, gt_small upd_same, sm, _, rfl, .inl (SqL.of hc'), _, _, rfl, rfl, ll, sm, _, _, _, rfl, rfl, SqL.of hc', at1, _, rfl, p, _, rfl, gt_sum upd_same, _, _, rfl, rfl, .inl ⟨by decide, by decide⟩, _, _, rfl, rfl, ?_⟩⟩
      refine ⟨_, rfl, _, rfl, _, _, rfl, rfl, .inl ⟨by decide, by decide⟩, _, _, rfl, rfl, _, _, rfl, rfl, _, _, rfl, rfl, .inr ⟨by decide, by decide⟩, .inl ⟨_, rfl, _, _, rfl, rfl, (by show (0 : Int) < 2147483647; decide), ?_⟩⟩
      generalize hx : ((small[j] + 31 * s0 + 104729 * (t + 1) + 3) * 48271) % 2147483647 = x
      have x0 : 0 ≤ x := by rw [← hx]; exact Int.emod_nonneg _ (by decide)
      have x1 : x < 2147483647 := by rw [← hx]; exact Int.emod_lt_of_pos _ (by decide)
      refine ⟨_, rfl, _, rfl, _, _, rfl, rfl, ⟨by decide, by decide⟩, _, _, rfl, rfl, _, _, rfl, rfl, .inl ⟨by omega, by omega⟩, .inl ⟨_, rfl, _, _, rfl, rfl, (by show (0 : Int) < 2147483629; decide), ?_⟩⟩
      generalize hy : (x * (x / 1009 + 69621)) % 2147483629 = y
      have y0 : 0 ≤ y := by rw [← hy]; exact Int.emod_nonneg _ (by decide)
      have y1 : y < 2147483629 := by rw [← hy]; exact Int.emod_lt_of_pos _ (by decide)
      refine ⟨_, rfl, _, rfl, _, _, rfl, rfl, ⟨by decide, by decide⟩, _, _, rfl, rfl, _, _, rfl, rfl, .inl ⟨by omega, by omega⟩, _, rfl, _, _, rfl, rfl, .inl ⟨_, rfl, _, _, rfl, rfl, (by show (0 : Int) < 2147483399; decide), ?_⟩⟩
      refine ⟨_, rfl, _, _, rfl, rfl, ⟨by decide, by decide⟩, .inl ⟨_, rfl, _, rfl, _, _, rfl, rfl, hm0, ?_⟩⟩
      exact k _ _ (Int.emod_nonneg _ (by omega)) (Int.emod_lt_of_pos _ hm0) ⟨fun b o n e => by rw [upd_ne n]; exact e, cell_to hp upd_same, gr, sm, small, s0, t + 1, upd_same, by rw [upd_ne ngp]; exact hg, hc', c1, c2, c3, hs, by omega⟩
end
end Law

namespace Law
open PySem L2
section
variable {P : Program} {w : World} {K : PySem.W.Frag} {mg : Str → Option Value} {base : Heap}
/-- a def of the module that may be called by its name -/
structure Cl (P : Program) (w : World) (K : PySem.W.Frag) (mg : Str → Option Value) (base : Heap) (CX : CXT) (k : Nat) (x : Str) (f : Addr) (fd : FuncData) (ps : List Str) (sp : Sp) : Prop where
  ok : FnOk P w K mg base CX k f fd ps sp
  b : Binds K fd ps []
  m : mg x = some (.ref f)
  kp : PySem.W.keepIn K (.ref f) = true
theorem Cl.call {X : Cx} {k : Nat} {x : Str} {f : Addr} {fd : FuncData} {ps : List Str} {sp : Sp} {p pos : Pos} {e : Expr} {es : List Expr} {t : TA} (c : Cl X.prog X.w X.K X.mg X.base CX0 k x f fd ps sp) (hr : Room k X.A) (ha : PA X (e :: es) t) (hg : Gl X x := by rfl) (hdb : (x == ("__debug__" : Str)) = false := by decide)
    (he : starEach (e :: es) X.env = (false, eval e X.env) :: starEach es X.env := by rfl) (hpl : (backTo pos (starEach es X.env)).any (·.1) = false := by rfl) :
    PE X (.Call (.Name x p) (e :: es) [] pos) (tCall sp [] E0 t) := pe_call c.ok hr hg c.m c.kp c.b .nil pass0 ha hdb he hpl
def spAny (K : PySem.W.Frag) : Sp := fun vs H Q _ => ∃ (p l : Addr) (xs : List V), vs = [.ref p, .ref l] ∧ (SqL K H l xs ∨ SqT K H l xs) ∧ 0 < xs.length ∧ xs.length < 1073741824 ∧ HandAt H p ∧ ∀ (i : Nat) (x : V) (H' : Hp), xs[i]? = some x → Stp p H H' → Q x H'
theorem scAny : FnScope ["_law_hand_here", "_law_things"] ["_law_hand_here", "_law_things"] (defScope s_law_any) := ⟨rfl, rfl, rfl, by decide +kernel, rfl, by decide +kernel, by decide +kernel⟩
theorem ok_any {f fD : Addr} {fd fdD : FuncData} (F : Fun K "_law_any" "_law_any" s_law_any f fd) (T : NmA mg) (D : Cl P w K mg base CX0 1 "_law_draw" fD fdD ["_law_hand_here", "_law_many"] spDraw) : FnOk P w K mg base CX0 2 f fd ["_law_hand_here", "_law_things"] (spAny K) := by
  refine F.ok scAny (fun vs H Q E h => ?_) (fun cdv A outer s H vs Q E hr h => ?_)
  · obtain ⟨p, l, xs, rfl, _⟩ := h
    rfl
  · obtain ⟨p, l, xs, rfl, hS, h0, h1, hH, k⟩ := h
    refine ⟨_, pss_one (ps_ret (pe_ix ix_seq (pv 1) (D.call hr (pa_cons (pv 0) (pa_cons (pe_callB call_len_seq (by rfl) T.len PySem.boot_len (pa_cons (pv 1) pa_nil)) pa_nil))) (fun _ _ => rfl))), ?_⟩
    refine ⟨_, rfl, _, rfl, _, rfl, l, xs, rfl, hS, p, _, rfl, by omega, by omega, hH, fun d H' d0 d1 S => ?_⟩
    obtain ⟨j, rfl⟩ := Int.eq_ofNat_of_zero_le d0
    have hj : j < xs.length := by omega
    have ha : atI xs ((j : Nat) : Int) = some xs[j] := by
      unfold atI
      rw [Evl.ixN_nat hj]
      exact List.getElem?_eq_getElem hj
    rcases hS with hS | hS
    · exact .inl ⟨l, xs, _, _, rfl, rfl, S.sqL hH hS, ha, k j _ H' (List.getElem?_eq_getElem hj) S⟩
    · exact .inr (.inl ⟨l, xs, _, _, rfl, rfl, S.sqT hH hS, ha, k j _ H' (List.getElem?_eq_getElem hj) S⟩)
end
end Law

namespace Law
open PySem L2
/-! ### the program's own: integers, fractions -/
def Ty3 (K : PySem.W.Frag) (H : Hp) (x : V) (bi bb : Bool) : Prop := ∃ t, TyX K H x t ∧ PySem.W.kitOne K t (.type "int") = some bi ∧ PySem.W.kitOne K t (.type "bool") = some bb
theorem ty3_int {K : PySem.W.Frag} {H : Hp} (i : Int) : Ty3 K H (.int i) true false := ⟨_, .base (.int i), kit_ty (by decide +kernel), kit_ty (by decide +kernel)⟩
theorem tyx_tup {K : PySem.W.Frag} {H : Hp} {a : Addr} {xs : List V} (h : SqT K H a xs) : TyX K H (.ref a) (.type "tuple") := by
  rcases h with (h | ⟨o, h⟩) | ⟨o, its, n, hk, hc, _⟩
  · exact .base (.tup h)
  · exact .fTuple h
  · exact .kTuple hk hc
theorem kit_tt {K : PySem.W.Frag} : PySem.W.kitOne K (.type "tuple") (.type "tuple") = some true := kit_ty (by decide +kernel)
end Law
namespace Law
open PySem L2
section
variable {P : Program} {w : World} {K : PySem.W.Frag} {mg : Str → Option Value} {base : Heap}
def spIsInt (K : PySem.W.Frag) : Sp := fun vs H Q _ => ∃ x bi bb, vs = [x] ∧ Ty3 K H x bi bb ∧ Q (.bl (bi && !bb)) H
theorem scIsInt : FnScope ["thing"] ["thing"] (defScope s_is_integer) := ⟨rfl, rfl, rfl, by decide +kernel, rfl, by decide +kernel, by decide +kernel⟩
theorem ok_isint {f : Addr} {fd : FuncData} (F : Fun K "is_integer" "is_integer" s_is_integer f fd) (T : NmA mg) : FnOk P w K mg base CX0 1 f fd ["thing"] (spIsInt K) := by
  refine F.ok scIsInt (fun vs H Q E h => ?_) (fun cdv A outer s H vs Q E hr h => ?_)
  · obtain ⟨x, bi, bb, rfl, _⟩ := h
    rfl
  · obtain ⟨x, bi, bb, rfl, ⟨t, ty, h1, h2⟩, k⟩ := h
    refine ⟨_, pss_one (ps_ret (pe_and (pe_callB call_isi (by rfl) T.isi (by decide +kernel) (pa_cons (pv 0) (pa_cons (pe_bltn (v := .ty "int") (u := .type "int") (by rfl) T.int (by decide +kernel) rfl) pa_nil)))
      (pe_one (pe_not (pe_callB call_isi (by rfl) T.isi (by decide +kernel) (pa_cons (pv 0) (pa_cons (pe_bltn (v := .ty "bool") (u := .type "bool") (by rfl) T.bool (by decide +kernel) rfl) pa_nil))))))), ?_⟩
    refine ⟨_, rfl, _, _, _, _, _, rfl, .ty "int", ty, h1, _, rfl, ?_⟩
    cases bi with
    | true => exact iteT ⟨_, rfl, _, _, _, _, _, rfl, .ty "bool", ty, h2, _, rfl, k⟩
    | false => exact iteF k
def spWithin (K : PySem.W.Frag) : Sp := fun vs H Q _ => ∃ (lo hi : Int) (x : V), vs = [.int lo, .int hi, x] ∧ ((∃ i, x = .int i ∧ Q (.bl (decide (lo ≤ i) && decide (i ≤ hi))) H) ∨ ∃ bi bb, Ty3 K H x bi bb ∧ (bi && !bb) = false ∧ Q (.bl false) H)
theorem scWithin : FnScope ["low", "high", "thing"] ["low", "high", "thing"] (defScope s_is_within) := ⟨rfl, rfl, rfl, by decide +kernel, rfl, by decide +kernel, by decide +kernel⟩
theorem ok_within {f fI : Addr} {fd fdI : FuncData} (F : Fun K "is_within" "is_within" s_is_within f fd) (I : Cl P w K mg base CX0 1 "is_integer" fI fdI ["thing"] (spIsInt K)) : FnOk P w K mg base CX0 2 f fd ["low", "high", "thing"] (spWithin K) := by
  refine F.ok scWithin (fun vs H Q E h => ?_) (fun cdv A outer s H vs Q E hr h => ?_)
  · obtain ⟨lo, hi, x, rfl, _⟩ := h
    rfl
  · obtain ⟨lo, hi, x, rfl, h⟩ := h
    refine ⟨_, pss_one (ps_ret (pe_and (I.call hr (pa_cons (pv 2) pa_nil)) (pe_one (pe_chain op_le op_le (pv 0) (pv 2) (pv 1))))), ?_⟩
    rcases h with ⟨i, rfl, k⟩ | ⟨bi, bb, ty, hb, k⟩
    · refine ⟨_, rfl, _, true, false, rfl, ty3_int i, true, rfl, iteT ?_⟩
      refine ⟨_, rfl, _, rfl, _, _, rfl, rfl, _, rfl, ?_⟩
      refine ite2 (fun h1 => ?_) (fun h1 => ?_)
      · refine ⟨_, rfl, _, _, rfl, rfl, ?_⟩
        rw [h1, Bool.true_and] at k
        exact k
      · rw [Bool.not_eq_true] at h1
        rw [h1, Bool.false_and] at k
        exact k
    · refine ⟨_, rfl, x, bi, bb, rfl, ty, _, rfl, ?_⟩
      rw [hb]
      exact iteF k
def isW (lo hi : Int) : V → Bool
  | .int i => decide (lo ≤ i) && decide (i ≤ hi)
  | _ => false
def Known (K : PySem.W.Frag) (H : Hp) (x : V) : Prop := (∃ i, x = .int i) ∨ ∃ bi bb, Ty3 K H x bi bb ∧ (bi && !bb) = false ∧ ∀ lo hi, isW lo hi x = false
theorem all_take {α : Type} (f : α → Bool) : ∀ xs : List α, (xs.map f).all id = xs.all f
  | [] => rfl
  | x :: xs => by rw [List.map_cons, List.all_cons, List.all_cons, all_take f xs] <;> rfl
end
end Law
namespace L2
open PySem PySem.Spec PyProof.Rows
/-- the place of the first one that is missing -/
def firstNo {α : Type} : List (Option α) → Option Nat
  | [] => none
  | none :: _ => some 0
  | some _ :: r => (firstNo r).map (· + 1)
theorem firstNo_none {α : Type} : ∀ {l : List (Option α)}, firstNo l = none → l = (l.filterMap id).map some
  | [], _ => rfl
  | none :: _, h => by cases h
  | some a :: r, h => by
    have z := firstNo_none (Option.map_eq_none_iff.mp (show (firstNo r).map (· + 1) = none from h))
    show some a :: r = some a :: (r.filterMap id).map some
    rw [← z]
theorem firstNo_at {α : Type} : ∀ {l : List (Option α)} {i : Nat}, firstNo l = some i → l[i]? = some none ∧ ∀ j, j < i → ∃ a, l[j]? = some (some a)
  | [], _, h => by cases h
  | none :: _, _, h => by
    cases h
    exact ⟨rfl, fun j hj => absurd hj (Nat.not_lt_zero _)⟩
  | some a :: r, i, h => by
    obtain ⟨k, h1, h2⟩ := Option.map_eq_some_iff.mp (show (firstNo r).map (· + 1) = some i from h)
    subst h2
    obtain ⟨a1, a2⟩ := firstNo_at h1
    refine ⟨a1, fun j hj => ?_⟩
    cases j with
    | zero => exact ⟨a, rfl⟩
    | succ j => exact a2 j (by omega)
theorem firstNo_of {α : Type} : ∀ {l : List (Option α)} {i : Nat}, l[i]? = some none → (∀ j, j < i → ∃ a, l[j]? = some (some a)) → firstNo l = some i
  | [], i, h, _ => by simp at h
  | none :: r, 0, _, _ => rfl
  | none :: r, i + 1, _, h => by
    obtain ⟨a, ha⟩ := h 0 (Nat.succ_pos _)
    cases ha
  | some a :: r, 0, h, _ => by cases h
  | some a :: r, i + 1, h, g => by
    have ih := firstNo_of (l := r) (i := i) h fun j hj => g (j + 1) (by omega)
    show (firstNo r).map (· + 1) = _
    rw [ih] <;> rfl
theorem firstNo_all {α : Type} : ∀ {l : List (Option α)}, (∀ (j : Nat) (o : Option α), l[j]? = some o → ∃ a, o = some a) → firstNo l = none
  | [], _ => rfl
  | none :: r, h => by
    obtain ⟨a, ha⟩ := h 0 none rfl
    cases ha
  | some a :: r, h => by
    show (firstNo r).map (· + 1) = none
    rw [firstNo_all fun j o hj => h (j + 1) o hj] <;> rfl
/-- a part of a System that is wrong -/
abbrev Part := Sum Str Nat
abbrev Tie := (Int × Int) × List (List Int)
def rLenK (K : PySem.W.Frag) : List V → Hp → VK → Prop := fun xs H Q => ∃ p ys, xs = [.ref p] ∧ (SqL K H p ys ∨ SqT K H p ys) ∧ Q (.int (ys.length : Nat)) H
theorem filter_snoc {α : Type} {f : α → Bool} {xs : List α} {i : Nat} {x : α} (h : xs[i]? = some x) : (xs.take (i + 1)).filter f = (xs.take i).filter f ++ if f x = true then [x] else [] := by
  rw [List.take_add_one, h, List.filter_append]
  congr 1
  show [x].filter f = _
  rw [List.filter_cons, List.filter_nil]
theorem in_two (p i j : Int) : inV (.int p) [.int i, .int j] = (decide (p = i) || decide (p = j)) := by
  unfold inV
  rw [List.any_cons, List.any_cons, List.any_nil, Bool.or_false]
  show (decide (i = p) || decide (j = p)) = _
  rw [decide_eq_decide.mpr (show i = p ↔ p = i from ⟨Eq.symm, Eq.symm⟩), decide_eq_decide.mpr (show j = p ↔ p = j from ⟨Eq.symm, Eq.symm⟩)]
/-! ### a model's data -/
def AllIn {α : Type} (R : V → α → Prop) (vs : List V) (l : List α) : Prop := vs.length = l.length ∧ ∀ (i : Nat) (v : V), vs[i]? = some v → ∃ x, l[i]? = some x ∧ R v x
theorem AllIn.mono {α : Type} {R R' : V → α → Prop} {vs : List V} {l : List α} (h : AllIn R vs l) (f : ∀ v x, R v x → R' v x) : AllIn R' vs l := ⟨h.1, fun i v hv => by
  obtain ⟨x, h1, h2⟩ := h.2 i v hv
  exact ⟨x, h1, f _ _ h2⟩⟩
theorem snoc_getA {α : Type} {xs : List α} {y v : α} {i : Nat} (h : (xs ++ [y])[i]? = some v) : (i < xs.length ∧ xs[i]? = some v) ∨ (i = xs.length ∧ y = v) := by
  by_cases hi : i < xs.length
  · rw [List.getElem?_append_left hi] at h
    exact .inl ⟨hi, h⟩
  · rw [List.getElem?_append_right (by omega)] at h
    have : i - xs.length = 0 := by
      cases e : i - xs.length with
      | zero => rfl
      | succ n => rw [e] at h; simp at h
    rw [this] at h
    exact .inr ⟨by omega, Option.some.inj h⟩
theorem AllIn.snoc {α : Type} {R : V → α → Prop} {vs : List V} {l : List α} {v : V} {x : α} (h : AllIn R vs l) (hv : R v x) : AllIn R (vs ++ [v]) (l ++ [x]) := by
  refine ⟨by rw [List.length_append, List.length_append, h.1] <;> rfl, fun i u hu => ?_⟩
  rcases snoc_getA hu with ⟨hi, e⟩ | ⟨hi, e⟩
  · obtain ⟨y, h1, h2⟩ := h.2 i u e
    exact ⟨y, by rw [List.getElem?_append_left (by rw [← h.1]; exact hi)]; exact h1, h2⟩
  · subst e
    refine ⟨x, ?_, hv⟩
    rw [List.getElem?_append_right (by rw [hi, h.1]; exact Nat.le_refl _), hi, h.1, Nat.sub_self]
    rfl
theorem AllIn.nil {α : Type} {R : V → α → Prop} : AllIn R [] [] := ⟨rfl, fun i v hv => by simp at hv⟩
theorem AllIn.drop {α : Type} {R : V → α → Prop} {vs : List V} {l : List α} (n : Nat) (h : AllIn R vs l) : AllIn R (vs.drop n) (l.drop n) := ⟨by rw [List.length_drop, List.length_drop, h.1], fun i v hv => by
  rw [List.getElem?_drop] at hv
  obtain ⟨x, h1, h2⟩ := h.2 _ v hv
  exact ⟨x, by rw [List.getElem?_drop]; exact h1, h2⟩⟩
theorem AllIn.take {α : Type} {R : V → α → Prop} {vs : List V} {l : List α} (n : Nat) (h : AllIn R vs l) : AllIn R (vs.take n) (l.take n) := ⟨by rw [List.length_take, List.length_take, h.1], fun i v hv => by
  rw [List.getElem?_take] at hv
  split at hv
  · rename_i c
    obtain ⟨x, h1, h2⟩ := h.2 _ v hv
    exact ⟨x, by rw [List.getElem?_take, if_pos c]; exact h1, h2⟩
  · cases hv⟩
theorem sqT_updL {K : PySem.W.Frag} {H : Hp} {a D : Addr} {acc xs : List V} {o : HO} (hD : H D = some (.lst acc)) (h : SqT K H a xs) : SqT K (upd H D o) a xs := by
  rcases h with (z | ⟨q, z⟩) | z
  · refine .inl (.inl ?_)
    rw [upd_ne (ne_of z hD (by intro y; cases y))]
    exact z
  · refine .inl (.inr ⟨q, ?_⟩)
    rw [upd_ne (ne_of z hD (by intro y; cases y))]
    exact z
  · exact .inr z
def RowAt (K : PySem.W.Frag) (H : Hp) (v : V) (l : List Int) : Prop := ∃ a, v = .ref a ∧ SqT K H a (l.map V.int)
theorem RowAt.same {K : PySem.W.Frag} {H H' : Hp} {v : V} {l : List Int} (s : Same H H') (h : RowAt K H v l) : RowAt K H' v l := by
  obtain ⟨a, h1, h2⟩ := h
  exact ⟨a, h1, s.sqT h2⟩
theorem RowAt.upd {K : PySem.W.Frag} {H : Hp} {D : Addr} {acc : List V} {o : HO} {v : V} {l : List Int} (hD : H D = some (.lst acc)) (h : RowAt K H v l) : RowAt K (upd H D o) v l := by
  obtain ⟨a, h1, h2⟩ := h
  exact ⟨a, h1, sqT_updL hD h2⟩
def RowsAt (K : PySem.W.Frag) (H : Hp) (a : Addr) (t : List (List Int)) : Prop := ∃ vs, SqT K H a vs ∧ AllIn (RowAt K H) vs t
theorem RowsAt.same {K : PySem.W.Frag} {H H' : Hp} {a : Addr} {t : List (List Int)} (s : Same H H') (h : RowsAt K H a t) : RowsAt K H' a t := by
  obtain ⟨vs, h1, h2⟩ := h
  exact ⟨vs, s.sqT h1, h2.mono fun _ _ => RowAt.same s⟩
theorem RowsAt.upd {K : PySem.W.Frag} {H : Hp} {D : Addr} {acc : List V} {o : HO} {a : Addr} {t : List (List Int)} (hD : H D = some (.lst acc)) (h : RowsAt K H a t) : RowsAt K (upd H D o) a t := by
  obtain ⟨vs, h1, h2⟩ := h
  exact ⟨vs, sqT_updL hD h1, h2.mono fun _ _ => RowAt.upd hD⟩
def TieAt (K : PySem.W.Frag) (H : Hp) (v : V) (t : Tie) : Prop := ∃ a b, v = .ref a ∧ SqT K H a [.int t.1.1, .int t.1.2, .ref b] ∧ RowsAt K H b t.2
theorem TieAt.same {K : PySem.W.Frag} {H H' : Hp} {v : V} {t : Tie} (s : Same H H') (h : TieAt K H v t) : TieAt K H' v t := by
  obtain ⟨a, b, h1, h2, h3⟩ := h
  exact ⟨a, b, h1, s.sqT h2, h3.same s⟩
theorem TieAt.upd {K : PySem.W.Frag} {H : Hp} {D : Addr} {acc : List V} {o : HO} {v : V} {t : Tie} (hD : H D = some (.lst acc)) (h : TieAt K H v t) : TieAt K (upd H D o) v t := by
  obtain ⟨a, b, h1, h2, h3⟩ := h
  exact ⟨a, b, h1, sqT_updL hD h2, h3.upd hD⟩
def TiesAt (K : PySem.W.Frag) (H : Hp) (a : Addr) (ts : List Tie) : Prop := ∃ vs, SqT K H a vs ∧ AllIn (TieAt K H) vs ts
theorem TiesAt.same {K : PySem.W.Frag} {H H' : Hp} {a : Addr} {ts : List Tie} (s : Same H H') (h : TiesAt K H a ts) : TiesAt K H' a ts := by
  obtain ⟨vs, h1, h2⟩ := h
  exact ⟨vs, s.sqT h1, h2.mono fun _ _ => TieAt.same s⟩
structure Mdl where
  many : Int
  levels : Int
  ws : List (List Int)
  ts : List Tie
def modF (many levels : Int) (w t : Addr) : List (Str × V) := putF "ties" (.ref t) (putF "weights" (.ref w) (putF "levels" (.int levels) (putF "many" (.int many) [])))
theorem nTM : ¬ ("ties" : Str) = "many" := by decide +kernel
theorem nTL : ¬ ("ties" : Str) = "levels" := by decide +kernel
theorem nTW : ¬ ("ties" : Str) = "weights" := by decide +kernel
theorem nWM : ¬ ("weights" : Str) = "many" := by decide +kernel
theorem nWL : ¬ ("weights" : Str) = "levels" := by decide +kernel
theorem nLM : ¬ ("levels" : Str) = "many" := by decide +kernel
theorem modF_many (m l : Int) (w t : Addr) : (modF m l w t).lookup ("many" : Str) = some (.int m) := by
  unfold modF
  rw [lookup_putF, if_neg (Ne.symm nTM), lookup_putF, if_neg (Ne.symm nWM), lookup_putF, if_neg (Ne.symm nLM), lookup_putF, if_pos rfl]
theorem modF_levels (m l : Int) (w t : Addr) : (modF m l w t).lookup ("levels" : Str) = some (.int l) := by
  unfold modF
  rw [lookup_putF, if_neg (Ne.symm nTL), lookup_putF, if_neg (Ne.symm nWL), lookup_putF, if_pos rfl]
theorem modF_weights (m l : Int) (w t : Addr) : (modF m l w t).lookup ("weights" : Str) = some (.ref w) := by
  unfold modF
  rw [lookup_putF, if_neg (Ne.symm nTW), lookup_putF, if_pos rfl]
theorem modF_ties (m l : Int) (w t : Addr) : (modF m l w t).lookup ("ties" : Str) = some (.ref t) := by
  unfold modF
  rw [lookup_putF, if_pos rfl]
def ModAt (K : PySem.W.Frag) (C : Addr) (H : Hp) (p : Addr) (m : Mdl) : Prop := ∃ dx w t, H p = some (.ins C dx (modF m.many m.levels w t)) ∧ RowsAt K H w m.ws ∧ TiesAt K H t m.ts
theorem ModAt.same {K : PySem.W.Frag} {C : Addr} {H H' : Hp} {p : Addr} {m : Mdl} (s : Same H H') (h : ModAt K C H p m) : ModAt K C H' p m := by
  obtain ⟨dx, w, t, h1, h2, h3⟩ := h
  exact ⟨dx, w, t, s _ _ h1, h2.same s, h3.same s⟩
structure ModT (K : PySem.W.Frag) (mg : Str → Option Value) (C : Addr) : Prop where
  cl : Cls K C
  nK : NoAttr K C "many"
  nL : NoAttr K C "levels"
  nW : NoAttr K C "weights"
  nT : NoAttr K C "ties"
  mgC : mg "Model" = some (.ref C)
  ha : PySem.W.findIn K (.ref C) "__class__" = some (some (.builtin "object.__class__"))
  hn : PySem.W.specialIn K (.builtin "object.__class__") "__get__" = some (some (.builtin "getset_descriptor.__get__"))
  ht : PySem.W.takesIn K (.builtin "object.__class__") = some true
  hm : PySem.W.mroIn K C (.type "object") = some true
theorem ModAt.ty {K : PySem.W.Frag} {mg : Str → Option Value} {C : Addr} {H : Hp} {p : Addr} {m : Mdl} (T : ModT K mg C) (h : ModAt K C H p m) : TyX K H (.ref p) (.ref C) := by
  obtain ⟨dx, w, t, h1, _⟩ := h
  exact .base (.ins h1 T.cl T.ha T.hn T.ht T.hm)
theorem kit_selfM {K : PySem.W.Frag} {v : Value} (h : (v == v) = true) : PySem.W.kitOne K v v = some true := by
  unfold PySem.W.kitOne
  rw [if_pos h]
/-! ### what a model must be -/
def tabB (rows cols : Int) (t : List (List Int)) : Bool := decide ((t.length : Int) = rows) && t.all fun l => decide ((l.length : Int) = cols) && l.all fun x => decide (x ≤ 1000)
def tieB (many levels : Int) (t : Tie) : Bool := decide (t.1.2 < many) && (decide (t.1.1 < t.1.2) && tabB levels levels t.2)
def cntT (ts : List Tie) (p : Int) : Nat := (ts.filter fun t => decide (p = t.1.1) || decide (p = t.1.2)).length
def leP (a b : Int × Int) : Bool := if a.1 = b.1 then decide (a.2 ≤ b.2) else decide (a.1 ≤ b.1)
abbrev RowOk (l : List Int) : Prop := ∀ x ∈ l, 0 ≤ x
abbrev TabOk (t : List (List Int)) : Prop := t.length ≤ 16000000 ∧ ∀ l ∈ t, l.length ≤ 16000000 ∧ RowOk l
/-- small enough to be written -/
structure MdlSm (m : Mdl) : Prop where
  m0 : 0 ≤ m.many
  m1 : m.many ≤ 12
  l0 : 0 ≤ m.levels
  l1 : m.levels ≤ 4
  wl : m.ws.length ≤ 12
  wr : ∀ l ∈ m.ws, l.length ≤ 4 ∧ l ≠ [] ∧ ∀ x ∈ l, 0 ≤ x ∧ x ≤ 1000
  tl : m.ts.length ≤ 144
  tr : ∀ t ∈ m.ts, (0 ≤ t.1.1 ∧ t.1.1 < 12) ∧ (0 ≤ t.1.2 ∧ t.1.2 < 12) ∧ t.2.length ≤ 4 ∧ t.2 ≠ [] ∧ ∀ l ∈ t.2, l.length ≤ 4 ∧ l ≠ [] ∧ ∀ x ∈ l, 0 ≤ x ∧ x ≤ 1000
end L2
namespace Law
open PySem L2
section
variable {P : Program} {w : World} {K : PySem.W.Frag} {mg : Str → Option Value} {base : Heap}
def rowI (b : Int) (l : List Int) : Bool := l.all fun i => decide (0 ≤ i) && decide (i ≤ b - 1)
def spRowI (K : PySem.W.Frag) : Sp := fun vs H Q _ => ∃ (b : Int) (a : Addr) (l : List Int), vs = [.int b, .ref a] ∧ SqT K H a (l.map V.int) ∧ l.length ≤ 16000000 ∧ ∀ H', Same H H' → Q (.bl (rowI b l)) H'
abbrev nIsRowBelowI : List Str := ["bound", "thing", "part"]
theorem scIsRowBelowI : FnScope nIsRowBelowI ["bound", "thing"] (defScope s_is_row_below) := ⟨rfl, rfl, rfl, by decide +kernel, rfl, by decide +kernel, by decide +kernel⟩
theorem ok_rowI {f : Addr} {fd : FuncData} {fcWithin : Addr} {fdcWithin : FuncData} (F : Fun K "is_row_below" "is_row_below" s_is_row_below f fd) (T : NmA mg) (cWithin : Cl P w K mg base CX0 2 "is_within" fcWithin fdcWithin ["low", "high", "thing"] (spWithin K)) : FnOk P w K mg base CX0 3 f fd ["bound", "thing"] (spRowI K) := by
  refine F.ok scIsRowBelowI (fun vs H Q E h => ?_) (fun cdv A' outer s H vs Q E hr h => ?_)
  · obtain ⟨b, a, l, rfl, _⟩ := h
    rfl
  · obtain ⟨b, a, l, rfl, hS, ll, k⟩ := h
    refine ⟨_, pss_one (ps_ret (pe_and (pe_callB call_isi (by rfl) T.isi (by decide +kernel) (pa_cons (pv 1) (pa_cons (pe_bltn (v := .ty "tuple") (u := .type "tuple") (by rfl) T.tuple (by decide +kernel) rfl) pa_nil))) (pe_one (pe_callB (cr_all rfl) (by rfl) T.all (by decide +kernel) (pa_cons (pe_lc (own := [("part", 2)]) (g := (gName 2)) (tt := tYes) rfl scIsRowBelowI.nd  (pi_tup (pv 1)) (blkOk_by (own := [("part", 2)]) (N := nIsRowBelowI) (sc := defScope s_is_row_below) (by decide +kernel)) (fun _ _ _ _ _ => (pg_name (i := 2) scIsRowBelowI.nd rfl (Or.inl rfl))) (fun _ _ _ _ _ => pts_nil) (fun _ _ _ _ _ => (cWithin.call (hr.mono (by decide)) (pa_cons pe_int (pa_cons (pe_op op_sub (pv 0) pe_int) (pa_cons (pv 2) pa_nil)))))) pa_nil))))), ?_⟩
    refine ⟨_, rfl, _, _, _, _, _, rfl, .ty "tuple", tyx_tup hS, kit_tt, _, rfl, iteT ?_⟩
    refine ⟨_, rfl, a, rfl, ⟨_, hS⟩, fun D hD => ?_⟩
    refine lc_tup (K := K) (a := a) (xs := l.map V.int) (fun i H' => Same H H' ∧ H' D = some (.lst (((l.take i).map fun i => decide (0 ≤ i) && decide (i ≤ b - 1)).map V.bl))) ⟨Same.new hD, upd_same⟩ (fun i H' _ h => h.1.sqT hS) ?_ ?_
    · rintro i x H' hi ⟨s1, h1⟩
      rw [List.getElem?_map] at hi
      obtain ⟨z, hz, rfl⟩ := Option.map_eq_some_iff.mp hi
      have il := (List.getElem?_eq_some_iff.mp hz).1
      refine ⟨rfl, _, rfl, _, _, rfl, rfl, _, rfl, _, _, _, rfl, .inl ⟨z, rfl, _, h1, ?_, s1.mut hD, ?_⟩⟩
      · rw [List.length_map, List.length_map, List.length_take, sizeLine_eq]
        omega
      · rw [upd_same, List.take_add_one, hz, List.map_append, List.map_append] <;> rfl
    · rintro H' ⟨s1, h1⟩
      rw [List.length_map, List.take_length] at h1
      refine ⟨D, _, rfl, SqL.of h1, ?_⟩
      rw [all_take]
      exact k H' s1
theorem rowI_k {l : List Int} (h : RowOk l) : rowI 1001 l = l.all fun s => decide (s ≤ 1000) := by
  unfold rowI
  induction l with
  | nil => rfl
  | cons a l ih =>
    rw [List.all_cons, List.all_cons, ih fun i hi => h i (List.mem_cons_of_mem _ hi), decide_eq_true (h a List.mem_cons_self), Bool.true_and] <;> rfl
def spTable (K : PySem.W.Frag) : Sp := fun vs H Q _ => ∃ (rows cols : Int) (a : Addr) (t : List (List Int)), vs = [.int rows, .int cols, .ref a] ∧ RowsAt K H a t ∧ TabOk t ∧ ∀ H', Same H H' → Q (.bl (tabB rows cols t)) H'
abbrev nIsTable : List Str := ["rows", "columns", "thing", "row"]
theorem scIsTable : FnScope nIsTable ["rows", "columns", "thing"] (defScope s_is_table) := ⟨rfl, rfl, rfl, by decide +kernel, rfl, by decide +kernel, by decide +kernel⟩
theorem ok_is_table {f : Addr} {fd : FuncData} {fcRowI : Addr} {fdcRowI : FuncData} (F : Fun K "is_table" "is_table" s_is_table f fd) (T : NmA mg) (cRowI : Cl P w K mg base CX0 3 "is_row_below" fcRowI fdcRowI ["bound", "thing"] (spRowI K)) : FnOk P w K mg base CX0 4 f fd ["rows", "columns", "thing"] (spTable K) := by
  refine F.ok scIsTable (fun vs H Q E h => ?_) (fun cdv A' outer s H vs Q E hr h => ?_)
  · obtain ⟨rows, cols, a, t, rfl, _⟩ := h
    rfl
  · obtain ⟨rows, cols, a, t, rfl, hS, ht, k⟩ := h
    refine ⟨_, pss_cons (ps_if (PW.pt (pw_or (pt_not (pt_val (pe_callB call_isi (by rfl) T.isi (by decide +kernel) (pa_cons (pv 2) (pa_cons (pe_bltn (v := .ty "tuple") (u := .type "tuple") (by rfl) T.tuple (by decide +kernel) rfl) pa_nil))))) (pw_or1 (pt_cmpR op_ne (pe_callB call_len_seq (by rfl) T.len PySem.boot_len (pa_cons (pv 2) pa_nil)) (pv 0) (nomark _)))))
        (pss_one (ps_ret pe_bl)) pss_nil)
      (pss_one (ps_ret (pe_callB (cr_all rfl) (by rfl) T.all (by decide +kernel) (pa_cons (pe_lc (own := [("row", 3)]) (g := (gName 3)) (tt := tYes) rfl scIsTable.nd  (pi_tup (pv 2)) (blkOk_by (own := [("row", 3)]) (N := nIsTable) (sc := defScope s_is_table) (by decide +kernel)) (fun _ _ _ _ _ => (pg_name (i := 3) scIsTable.nd rfl (Or.inl rfl))) (fun _ _ _ _ _ => pts_nil) (fun _ _ _ _ _ => (pe_and (pe_callB (r := rIsi K) (show CallR _ (.builtin "isinstance") (rIsi K) from call_isi) (by rfl) T.isi (by decide +kernel) (pa_cons (pv 3) (pa_cons (pe_bltn (v := .ty "tuple") (u := .type "tuple") (by rfl) T.tuple (by decide +kernel) rfl) pa_nil))) (pe_and (pe_cmpR op_eq (pe_callB (r := rLenK K) (show CallR _ (.builtin "len") (rLenK K) from call_len_seq) (by rfl) T.len PySem.boot_len (pa_cons (pv 3) pa_nil)) (pv 1) (nomark _)) (pe_one (cRowI.call (hr.mono (by decide)) (pa_cons pe_int (pa_cons (pv 3) pa_nil)))))))) pa_nil)))), ?_⟩
    obtain ⟨vs, hV, hA⟩ := hS
    have vl := hA.1
    refine ⟨_, rfl, _, _, _, _, _, rfl, .ty "tuple", tyx_tup hV, kit_tt, _, rfl, ?_⟩
    refine iteF ⟨_, rfl, a, _, rfl, .inr hV, _, rfl, rfl, _, rfl, ?_⟩
    have ed : decide (V.int ((vs.length : Nat) : Int) = V.int rows) = decide ((t.length : Int) = rows) := by
      rw [vl]
      exact decide_eq_decide.mpr ⟨fun z => V.int.inj z, fun z => by rw [z]⟩
    unfold tabB at k
    rw [ed]
    cases c1 : decide ((t.length : Int) = rows) with
    | false =>
      rw [c1, Bool.false_and] at k
      exact iteT (k H (Same.refl H))
    | true =>
      rw [c1, Bool.true_and] at k
      refine iteF ⟨_, rfl, a, rfl, ⟨_, hV⟩, fun D hD => ?_⟩
      refine lc_tup (K := K) (a := a) (xs := vs) (fun i H' => Same H H' ∧ H' D = some (.lst (((t.take i).map fun l => decide ((l.length : Int) = cols) && l.all fun x => decide (x ≤ 1000)).map V.bl))) ⟨Same.new hD, upd_same⟩ (fun i H' _ h => h.1.sqT hV) ?_ ?_
      · rintro i x H' hi ⟨s1, h1⟩
        obtain ⟨l, hl, b, rfl, hb⟩ := hA.2 i x hi
        obtain ⟨ll, l0⟩ := ht.2 l (List.mem_of_getElem? hl)
        have il := (List.getElem?_eq_some_iff.mp hl).1
        have hb' := s1.sqT hb
        have put : ∀ H2, Same H' H2 → ∃ acc, H2 D = some (.lst acc) ∧ acc.length < sizeLine ∧ (Same H (upd H2 D (.lst (acc ++ [.bl (decide ((l.length : Int) = cols) && l.all fun x => decide (x ≤ 1000))]))) ∧ (upd H2 D (.lst (acc ++ [.bl (decide ((l.length : Int) = cols) && l.all fun x => decide (x ≤ 1000))]))) D = some (.lst (((t.take (i + 1)).map fun l => decide ((l.length : Int) = cols) && l.all fun x => decide (x ≤ 1000)).map V.bl))) := fun H2 s2 => by
          refine ⟨_, s2 _ _ h1, ?_, (s1.trans s2).mut hD, ?_⟩
          · have := ht.1
            rw [List.length_map, List.length_map, List.length_take, sizeLine_eq]
            omega
          · rw [upd_same, List.take_add_one, hl, List.map_append, List.map_append] <;> rfl
        refine ⟨rfl, ?_⟩
        refine ⟨_, rfl, _, _, _, _, _, rfl, .ty "tuple", tyx_tup hb', kit_tt, _, rfl, ?_⟩
        refine iteT ⟨_, rfl, b, _, rfl, .inr hb', _, rfl, rfl, _, rfl, ?_⟩
        have ed : decide (V.int (((l.map V.int).length : Nat) : Int) = V.int cols) = decide ((l.length : Int) = cols) := by
          rw [List.length_map]
          exact decide_eq_decide.mpr ⟨fun z => V.int.inj z, fun z => by rw [z]⟩
        rw [ed]
        cases c2 : decide ((l.length : Int) = cols) with
        | false =>
          rw [c2, Bool.false_and] at put
          exact iteF (put H' (Same.refl _))
        | true =>
          rw [c2, Bool.true_and, ← rowI_k l0] at put
          exact iteT ⟨_, rfl, 1001, b, l, rfl, hb', ll, fun H2 s2 => put H2 s2⟩
      · rintro H' ⟨s1, h1⟩
        rw [vl, List.take_length] at h1
        refine ⟨D, _, rfl, SqL.of h1, ?_⟩
        rw [all_take]
        exact k H' s1
abbrev TieOk (t : Tie) : Prop := 0 ≤ t.1.1 ∧ 0 ≤ t.1.2 ∧ TabOk t.2
def spTie (K : PySem.W.Frag) : Sp := fun vs H Q _ => ∃ (many levels : Int) (v : V) (t : Tie), vs = [.int many, .int levels, v] ∧ TieAt K H v t ∧ TieOk t ∧ ∀ H', Same H H' → Q (.bl (tieB many levels t)) H'
abbrev nIsTie : List Str := ["many", "levels", "thing", "one", "other", "table"]
theorem scIsTie : FnScope nIsTie ["many", "levels", "thing"] (defScope s_is_tie) := ⟨rfl, rfl, rfl, by decide +kernel, rfl, by decide +kernel, by decide +kernel⟩
theorem ok_is_tie {f : Addr} {fd : FuncData} {fcTable : Addr} {fdcTable : FuncData} {fcWithin : Addr} {fdcWithin : FuncData} (F : Fun K "is_tie" "is_tie" s_is_tie f fd) (T : NmA mg) (cTable : Cl P w K mg base CX0 4 "is_table" fcTable fdcTable ["rows", "columns", "thing"] (spTable K)) (cWithin : Cl P w K mg base CX0 2 "is_within" fcWithin fdcWithin ["low", "high", "thing"] (spWithin K)) : FnOk P w K mg base CX0 5 f fd ["many", "levels", "thing"] (spTie K) := by
  refine F.ok scIsTie (fun vs H Q E h => ?_) (fun cdv A' outer s H vs Q E hr h => ?_)
  · obtain ⟨many, levels, v, t, rfl, _⟩ := h
    rfl
  · obtain ⟨many, levels, v, t, rfl, hT, ht, k⟩ := h
    refine ⟨_, pss_cons (ps_if (PW.pt (pw_or (pt_not (pt_val (pe_callB call_isi (by rfl) T.isi (by decide +kernel) (pa_cons (pv 2) (pa_cons (pe_bltn (v := .ty "tuple") (u := .type "tuple") (by rfl) T.tuple (by decide +kernel) rfl) pa_nil))))) (pw_or1 (pt_cmpR op_ne (pe_callB call_len_seq (by rfl) T.len PySem.boot_len (pa_cons (pv 2) pa_nil)) pe_int (nomark _)))))
        (pss_one (ps_ret pe_bl)) pss_nil)
      (pss_cons (ps_asg (pv 2) (pg_tup (by rfl) (pgs_cons (pg_name (i := 3) scIsTie.nd rfl (Or.inl rfl)) (pgs_cons (pg_name (i := 4) scIsTie.nd rfl (Or.inl rfl)) (pgs_cons (pg_name (i := 5) scIsTie.nd rfl (Or.inl rfl)) pgs_nil)))))
      (pss_one (ps_ret (pe_and (cWithin.call (hr.mono (by decide)) (pa_cons pe_int (pa_cons (pe_op op_sub (pv 0) pe_int) (pa_cons (pv 4) pa_nil)))) (pe_and (cWithin.call (hr.mono (by decide)) (pa_cons pe_int (pa_cons (pe_op op_sub (pv 4) pe_int) (pa_cons (pv 3) pa_nil)))) (pe_one (cTable.call (hr.mono (by decide)) (pa_cons (pv 1) (pa_cons (pv 1) (pa_cons (pv 5) pa_nil)))))))))), ?_⟩
    obtain ⟨a, b, rfl, hA, hR⟩ := hT
    obtain ⟨t0, t1, tt⟩ := ht
    refine ⟨_, rfl, _, _, _, _, _, rfl, .ty "tuple", tyx_tup hA, kit_tt, _, rfl, ?_⟩
    refine iteF ⟨_, rfl, a, _, rfl, .inr hA, rfl, _, rfl, iteF ?_⟩
    refine ⟨_, rfl, a, _, rfl, hA, rfl, _, _, rfl, _, _, rfl, _, _, rfl, rfl, ?_⟩
    unfold tieB at k
    refine ⟨_, rfl, _, _, rfl, rfl, _, rfl, _, _, _, rfl, .inl ⟨t.1.2, rfl, _, rfl, ?_⟩⟩
    rw [decide_eq_true t1, Bool.true_and, show decide (t.1.2 ≤ many - 1) = decide (t.1.2 < many) from decide_eq_decide.mpr (by omega)]
    cases c1 : decide (t.1.2 < many) with
    | false =>
      rw [c1, Bool.false_and] at k
      exact iteF (k H (Same.refl H))
    | true =>
      rw [c1, Bool.true_and] at k
      refine iteT ⟨_, rfl, _, _, rfl, rfl, _, rfl, _, _, _, rfl, .inl ⟨t.1.1, rfl, _, rfl, ?_⟩⟩
      rw [decide_eq_true t0, Bool.true_and, show decide (t.1.1 ≤ t.1.2 - 1) = decide (t.1.1 < t.1.2) from decide_eq_decide.mpr (by omega)]
      cases c2 : decide (t.1.1 < t.1.2) with
      | false =>
        rw [c2, Bool.false_and] at k
        exact iteF (k H (Same.refl H))
      | true =>
        rw [c2, Bool.true_and] at k
        exact iteT ⟨_, rfl, _, rfl, _, rfl, _, _, b, t.2, rfl, hR, tt, fun H' s => k H' s⟩
def spTiesAt (K : PySem.W.Frag) : Sp := fun vs H Q _ => ∃ (a : Addr) (ts : List Tie) (p : Int), vs = [.ref a, .int p] ∧ TiesAt K H a ts ∧ ts.length ≤ 16000000 ∧ ∀ H', Same H H' → Q (.int (cntT ts p : Nat)) H'
abbrev nTiesAt : List Str := ["ties", "place", "one", "other", "_"]
theorem scTiesAt : FnScope nTiesAt ["ties", "place"] (defScope s_ties_at) := ⟨rfl, rfl, rfl, by decide +kernel, rfl, by decide +kernel, by decide +kernel⟩
theorem ok_ties_at {f : Addr} {fd : FuncData} (F : Fun K "ties_at" "ties_at" s_ties_at f fd) (T : NmA mg) : FnOk P w K mg base CX0 1 f fd ["ties", "place"] (spTiesAt K) := by
  refine F.ok scTiesAt (fun vs H Q E h => ?_) (fun cdv A' outer s H vs Q E hr h => ?_)
  · obtain ⟨a, ts, p, rfl, _⟩ := h
    rfl
  · obtain ⟨a, ts, p, rfl, hT, tl0, k⟩ := h
    have hu := hu_of hr
    refine ⟨_, pss_one (ps_ret (pe_callB call_len_seq (by rfl) T.len PySem.boot_len (pa_cons (pe_lc (own := [("one", 2), ("other", 3), ("_", 4)]) (g := (gTup K 3 (gCons (gName 2) (gCons (gName 3) (gCons (gName 4) gNil))))) (tt := _) rfl scTiesAt.nd  (pi_tup (pv 0)) (blkOk_by (own := [("one", 2), ("other", 3), ("_", 4)]) (N := nTiesAt) (sc := defScope s_ties_at) (by decide +kernel)) (fun _ _ _ _ _ => (pg_tup (by rfl) (pgs_cons (pg_name (i := 2) scTiesAt.nd rfl (Or.inl rfl)) (pgs_cons (pg_name (i := 3) scTiesAt.nd rfl (Or.inl rfl)) (pgs_cons (pg_name (i := 4) scTiesAt.nd rfl (Or.inl rfl)) pgs_nil))))) (fun _ _ _ _ _ => (pts_one (pt_cmpR (r := rIn K false) (show OpR _ (compareOp .In) (rIn K false) from op_in_seq) (pv 1) (pe_tup (pa_cons (pv 2) (pa_cons (pv 3) pa_nil))) (by rfl)))) (fun _ _ _ _ _ => (pv 2))) pa_nil))), ?_⟩
    obtain ⟨vs, hV, hA⟩ := hT
    have vl := hA.1
    refine ⟨_, rfl, a, rfl, ⟨_, hV⟩, fun D hD => ?_⟩
    refine lc_tup (K := K) (a := a) (xs := vs) (fun i H' => Same H H' ∧ H' D = some (.lst (((ts.take i).filter fun t => decide (p = t.1.1) || decide (p = t.1.2)).map fun t => V.int t.1.1))) ⟨Same.new hD, upd_same⟩ (fun i H' _ h => h.1.sqT hV) ?_ ?_
    · rintro i x H' hi ⟨s1, h1⟩
      obtain ⟨t, ht, b, c, rfl, hb, hc⟩ := hA.2 i x hi
      have il := (List.getElem?_eq_some_iff.mp ht).1
      refine ⟨b, _, rfl, s1.sqT hb, rfl, _, _, rfl, _, _, rfl, _, _, rfl, rfl, ?_⟩
      refine ⟨rfl, _, rfl, _, rfl, _, rfl, by show 2 ≤ sizeLine; decide, fun q hq => ?_⟩
      refine new_step hq fun H2 s2 e2 => ?_
      refine ⟨q, _, rfl, .inr (SqT.of e2), rfl, rfl, _, rfl, ?_⟩
      rw [in_two, if_neg Bool.false_ne_true]
      have h2 := s2 _ _ h1
      have fs := filter_snoc (f := fun t : Tie => decide (p = t.1.1) || decide (p = t.1.2)) ht
      refine ite2 (fun c => ?_) (fun c => ?_)
      · rw [if_pos c] at fs
        refine ⟨_, rfl, _, h2, ?_, (s1.trans s2).mut hD, ?_⟩
        · have := List.length_filter_le (fun t : Tie => decide (p = t.1.1) || decide (p = t.1.2)) (ts.take i)
          rw [List.length_take] at this
          rw [List.length_map, sizeLine_eq]
          omega
        · rw [upd_same, fs, List.map_append] <;> rfl
      · rw [if_neg c, List.append_nil] at fs
        exact ⟨s1.trans s2, by rw [fs]; exact h2⟩
    · rintro H' ⟨s1, h1⟩
      rw [vl, List.take_length] at h1
      refine ⟨D, _, rfl, .inl (SqL.of h1), ?_⟩
      rw [List.length_map]
      exact k H' s1
end
end Law

namespace Law
open PySem L2
def tupD (l : List Int) : PyData := .tuple (l.map .int)
theorem eqvAll_map {α : Type} [DecidableEq α] (g : α → PyData) (hg : ∀ a b, PyData.eqv (g a) (g b) = decide (a = b)) : ∀ xs ys : List α, PyData.eqvAll (xs.map g) (ys.map g) = decide (xs = ys)
  | [], [] => by simp [PyData.eqvAll]
  | [], _ :: _ => by simp [PyData.eqvAll]
  | _ :: _, [] => by simp [PyData.eqvAll]
  | x :: xs, y :: ys => by
    rw [List.map_cons, List.map_cons, PyData.eqvAll, hg, eqvAll_map g hg xs ys]
    by_cases h1 : x = y <;> by_cases h2 : xs = ys <;> simp [h1, h2]
theorem eqv_int (a b : Int) : PyData.eqv (.int a) (.int b) = decide (a = b) := by
  rw [PyData.eqv]
  rfl
theorem eqv_tupD (a b : List Int) : PyData.eqv (tupD a) (tupD b) = decide (a = b) := by
  unfold tupD
  rw [PyData.eqv]
  exact eqvAll_map PyData.int eqv_int a b
theorem lay_all {α : Type} (g : α → PyData) (n : Nat) (hg : ∀ a, (g a).canLay0 = true ∧ (g a).depth ≤ n) : ∀ xs : List α, PyData.canLayAll0 (xs.map g) = true ∧ PyData.depthAll (xs.map g) ≤ n
  | [] => by simp [PyData.canLayAll0, PyData.depthAll]
  | x :: xs => by
    obtain ⟨h1, h2⟩ := hg x
    obtain ⟨h3, h4⟩ := lay_all g n hg xs
    rw [List.map_cons, PyData.canLayAll0, PyData.depthAll, h1, h3]
    exact ⟨rfl, Nat.max_le.mpr ⟨h2, h4⟩⟩
theorem lay_int (a : Int) : (PyData.int a).canLay0 = true ∧ (PyData.int a).depth ≤ 0 := by simp [PyData.canLay0, PyData.depth]
theorem lay_tupD (a : List Int) : (tupD a).canLay0 = true ∧ (tupD a).depth ≤ 1 := by
  have h := lay_all PyData.int 0 lay_int a
  unfold tupD
  rw [PyData.canLay0, PyData.depth]
  exact ⟨h.1, by omega⟩
theorem shaped_of {d : PyData} {n : Nat} (h : d.canLay0 = true ∧ d.depth ≤ n) (hn : n ≤ 64) : SeqAt.shaped d = true := by
  unfold SeqAt.shaped
  rw [h.1, Bool.true_and, decide_eq_true (Nat.le_trans h.2 hn)]
theorem dp_ints {K : PySem.W.Frag} {H : Hp} : ∀ l : List Int, DpAll K H (l.map V.int) (l.map PyData.int)
  | [] => .nil
  | x :: l => .cons (.int x) (dp_ints l)
theorem any_take {α : Type} (f : α → Bool) : ∀ xs : List α, (xs.map f).any id = xs.any f
  | [] => rfl
  | x :: xs => by rw [List.map_cons, List.any_cons, List.any_cons, any_take f xs] <;> rfl
abbrev tabD (t : List (List Int)) : PyData := .tuple (t.map tupD)
def tieD (t : Tie) : PyData := .tuple [.int t.1.1, .int t.1.2, tabD t.2]
abbrev tiesD (ts : List Tie) : PyData := .tuple (ts.map tieD)
theorem eqv_tabD (a b : List (List Int)) : PyData.eqv (tabD a) (tabD b) = decide (a = b) := by
  rw [PyData.eqv]
  exact eqvAll_map tupD eqv_tupD a b
theorem eqv_tieD (a b : Tie) : PyData.eqv (tieD a) (tieD b) = decide (a = b) := by
  obtain ⟨⟨a1, a2⟩, a3⟩ := a
  obtain ⟨⟨b1, b2⟩, b3⟩ := b
  unfold tieD
  rw [PyData.eqv, PyData.eqvAll, PyData.eqvAll, PyData.eqvAll, PyData.eqvAll, eqv_int, eqv_int, eqv_tabD]
  by_cases h1 : a1 = b1 <;> by_cases h2 : a2 = b2 <;> by_cases h3 : a3 = b3 <;> simp [h1, h2, h3]
theorem eqv_tiesD (a b : List Tie) : PyData.eqv (tiesD a) (tiesD b) = decide (a = b) := by
  rw [PyData.eqv]
  exact eqvAll_map tieD eqv_tieD a b
theorem lay_tabD (t : List (List Int)) : (tabD t).canLay0 = true ∧ (tabD t).depth ≤ 2 := by
  have h := lay_all tupD 1 lay_tupD t
  rw [PyData.canLay0, PyData.depth]
  exact ⟨h.1, by omega⟩
theorem lay_tieD (t : Tie) : (tieD t).canLay0 = true ∧ (tieD t).depth ≤ 3 := by
  have h := lay_tabD t.2
  unfold tieD
  rw [PyData.canLay0, PyData.canLayAll0, PyData.canLayAll0, PyData.canLayAll0, PyData.canLayAll0, PyData.depth, PyData.depthAll, PyData.depthAll, PyData.depthAll, PyData.depthAll, h.1, (lay_int t.1.1).1, (lay_int t.1.2).1]
  have h1 := (lay_int t.1.1).2
  have h2 := (lay_int t.1.2).2
  exact ⟨rfl, by omega⟩
theorem lay_tiesD (ts : List Tie) : (tiesD ts).canLay0 = true ∧ (tiesD ts).depth ≤ 4 := by
  have h := lay_all tieD 3 lay_tieD ts
  rw [PyData.canLay0, PyData.depth]
  exact ⟨h.1, by omega⟩
theorem dp_all {α : Type} {K : PySem.W.Frag} {H : Hp} {R : V → α → Prop} {g : α → PyData} (hg : ∀ v x, R v x → Dp K H v (g x)) : ∀ {vs : List V} {l : List α}, AllIn R vs l → DpAll K H vs (l.map g)
  | [], [], _ => .nil
  | [], _ :: _, h => absurd h.1 (by simp)
  | _ :: _, [], h => absurd h.1 (by simp)
  | v :: vs, m :: ms, h => by
    obtain ⟨m', e, hm⟩ := h.2 0 v rfl
    cases e
    exact .cons (hg _ _ hm) (dp_all hg ⟨by simpa using h.1, fun i x hx => h.2 (i + 1) x (by simpa using hx)⟩)
theorem dp_row {K : PySem.W.Frag} {H : Hp} {v : V} {l : List Int} (h : RowAt K H v l) : Dp K H v (tupD l) := by
  obtain ⟨a, rfl, h2⟩ := h
  exact .tup h2 (dp_ints l)
theorem dp_rows {K : PySem.W.Frag} {H : Hp} {a : Addr} {t : List (List Int)} (h : RowsAt K H a t) : Dp K H (.ref a) (tabD t) := by
  obtain ⟨vs, h1, h2⟩ := h
  exact .tup h1 (dp_all (g := tupD) (fun _ _ => dp_row) h2)
theorem dp_tie {K : PySem.W.Frag} {H : Hp} {v : V} {t : Tie} (h : TieAt K H v t) : Dp K H v (tieD t) := by
  obtain ⟨a, b, rfl, h2, h3⟩ := h
  exact .tup h2 (.cons (.int _) (.cons (.int _) (.cons (dp_rows h3) .nil)))
theorem dp_ties {K : PySem.W.Frag} {H : Hp} {a : Addr} {ts : List Tie} (h : TiesAt K H a ts) : Dp K H (.ref a) (tiesD ts) := by
  obtain ⟨vs, h1, h2⟩ := h
  exact .tup h1 (dp_all (g := tieD) (fun _ _ => dp_tie) h2)
def partV : Part → V
  | .inl s => .str s
  | .inr n => .int (n : Int)
theorem mk_same {C : Addr} {H H' : Hp} {y dy : Addr} (hy : H y = none) (hdy : H dy = none) (kC : ∀ b o, b ≠ y → (upd (upd H dy (.own y)) y (.ins C dy [])) b = some o → H' b = some o) : Same H H' := fun b o e =>
  kC b o (ne_of_none e hy) (by rw [upd_ne (ne_of_none e hy), upd_ne (ne_of_none e hdy)]; exact e)
theorem mk_same0 {C : Addr} {H : Hp} {y dy : Addr} (hy : H y = none) (hdy : H dy = none) : Same H (upd (upd H dy (.own y)) y (.ins C dy [])) := fun b o e => by
  rw [upd_ne (ne_of_none e hy), upd_ne (ne_of_none e hdy)]
  exact e
end Law
namespace L2
open PySem PySem.Spec PyProof.Rows
/-! ### what is wrong with a model -/
def lastP (ts : List Tie) (i : Nat) : Int × Int := if i = 0 then (0, 0) else match ts[i - 1]? with
  | some t => t.1
  | none => (0, 0)
def gT (many levels : Int) (ts : List Tie) (i : Nat) : Bool := match ts[i]? with
  | some t => tieB many levels t && !leP t.1 (lastP ts i)
  | none => true
def badT (many levels : Int) (ts : List Tie) : Option Nat := firstNo ((List.range ts.length).map fun i => if gT many levels ts i = true then some () else none)
def crowdB (many : Int) (ts : List Tie) : Bool := (List.range many.toNat).any fun p => decide (4 < cntT ts (p : Nat))
def wrongM (m : Mdl) : Option Part := if ¬ (1 ≤ m.many ∧ m.many ≤ 12) then some (.inl "many") else if ¬ (1 ≤ m.levels ∧ m.levels ≤ 4) then some (.inl "levels") else if tabB m.many m.levels m.ws = false then some (.inl "weights") else
  match badT m.many m.levels m.ts with
  | some i => some (.inr i)
  | none => if crowdB m.many m.ts = true then some (.inl "crowded") else none
theorem rng_some {g : Nat → Bool} {n i : Nat} (hi : i < n) (h : g i = false) (hj : ∀ j, j < i → g j = true) : firstNo ((List.range n).map fun i => if g i = true then some () else none) = some i := by
  refine firstNo_of (by rw [List.getElem?_map, List.getElem?_range hi]; show some (if g i = true then some () else none) = _; rw [h] <;> rfl) fun j jl => ⟨(), ?_⟩
  rw [List.getElem?_map, List.getElem?_range (by omega)]
  show some (if g j = true then some () else none) = _
  rw [hj j jl] <;> rfl
theorem rng_none {g : Nat → Bool} {n : Nat} (h : ∀ j, j < n → g j = true) : firstNo ((List.range n).map fun i => if g i = true then some () else none) = none := by
  refine firstNo_all fun j o hj => ⟨(), ?_⟩
  rw [List.getElem?_map] at hj
  obtain ⟨k, h1, h2⟩ := Option.map_eq_some_iff.mp hj
  have jl := (List.getElem?_eq_some_iff.mp h1).1
  rw [List.length_range] at jl
  rw [List.getElem?_range jl] at h1
  cases h1
  rw [← h2, h _ jl] <;> rfl
theorem rng_all {g : Nat → Bool} {n : Nat} (h : firstNo ((List.range n).map fun i => if g i = true then some () else none) = none) : ∀ j, j < n → g j = true := fun j jl => by
  have z := firstNo_none h
  have e : ((List.range n).map fun i => if g i = true then some () else none)[j]? = some (if g j = true then some () else none) := by rw [List.getElem?_map, List.getElem?_range jl] <;> rfl
  rw [z, List.getElem?_map] at e
  obtain ⟨u, _, h2⟩ := Option.map_eq_some_iff.mp e
  cases hg : g j with
  | true => rfl
  | false => rw [hg] at h2; cases h2
theorem lex2 (a b c d : Int) : Ob.lexAt (fun j => decide (([a, b] : List Int).getD j 0 = ([c, d] : List Int).getD j 0)) (fun j => decide (([a, b] : List Int).getD j 0 ≤ ([c, d] : List Int).getD j 0)) (decide (([a, b] : List Int).length ≤ ([c, d] : List Int).length)) 0 (min ([a, b] : List Int).length ([c, d] : List Int).length) = leP (a, b) (c, d) := by
  show Ob.lexAt _ _ _ 0 2 = _
  rw [Ob.lexAt_succ, Ob.lexAt_succ, Ob.lexAt_zero]
  show (if decide (a = c) = true then (if decide (b = d) = true then decide (2 ≤ 2) else decide (b ≤ d)) else decide (a ≤ c)) = _
  unfold leP
  by_cases h1 : a = c
  · rw [if_pos (decide_eq_true h1), if_pos h1]
    by_cases h2 : b = d
    · rw [if_pos (decide_eq_true h2), decide_eq_true (show b ≤ d by omega)] <;> rfl
    · rw [if_neg (by simpa using h2)]
  · rw [if_neg (by simpa using h1), if_neg h1]
theorem cut2 (a b c : V) : cutV [a, b, c] none (some 2) = [a, b] := rfl
end L2
namespace L2
open PySem PySem.Spec PyProof.Rows
theorem leP_code {a b : Int × Int} (ha : 0 ≤ a.2 ∧ a.2 < 12) (hb : 0 ≤ b.2 ∧ b.2 < 12) (h : leP a b = false) : b.1 * 12 + b.2 < a.1 * 12 + a.2 := by
  unfold leP at h
  by_cases c : a.1 = b.1
  · rw [if_pos c] at h
    have := of_decide_eq_false h
    omega
  · rw [if_neg c] at h
    have := of_decide_eq_false h
    omega
theorem ties_few {many levels : Int} {ts : List Tie} (hm : many ≤ 12) (h : ∀ j, j < ts.length → gT many levels ts j = true) (nn : ∀ t ∈ ts, 0 ≤ t.1.1 ∧ 0 ≤ t.1.2) : ts.length ≤ 144 := by
  have get : ∀ (i : Nat) (t : Tie), ts[i]? = some t → t.1.2 < many ∧ t.1.1 < t.1.2 ∧ tabB levels levels t.2 = true ∧ leP t.1 (lastP ts i) = false := fun i t ht => by
    have g := h i (List.getElem?_eq_some_iff.mp ht).1
    unfold gT at g
    rw [ht] at g
    have g : (tieB many levels t && !leP t.1 (lastP ts i)) = true := g
    unfold tieB at g
    simp only [Bool.and_eq_true, Bool.not_eq_true', decide_eq_true_eq] at g
    exact ⟨g.1.1, g.1.2.1, g.1.2.2, g.2⟩
  have code : ∀ (i : Nat) (t : Tie), ts[i]? = some t → (i : Int) ≤ t.1.1 * 12 + t.1.2 := fun i => by
    induction i with
    | zero =>
      intro t ht
      obtain ⟨a, b⟩ := nn t (List.mem_of_getElem? ht)
      omega
    | succ i ih =>
      intro t ht
      have il := (List.getElem?_eq_some_iff.mp ht).1
      have hp := List.getElem?_eq_getElem (l := ts) (i := i) (by omega)
      have := ih _ hp
      obtain ⟨g1, g2, _, g3⟩ := get _ t ht
      obtain ⟨p1, p2, _, _⟩ := get _ _ hp
      have lp : lastP ts (i + 1) = ts[i].1 := by
        unfold lastP
        rw [if_neg (Nat.succ_ne_zero i), Nat.add_sub_cancel, hp]
      rw [lp] at g3
      obtain ⟨a, b⟩ := nn t (List.mem_of_getElem? ht)
      obtain ⟨c, d⟩ := nn _ (List.mem_of_getElem? hp)
      have := leP_code ⟨b, by omega⟩ ⟨d, by omega⟩ g3
      omega
  rcases Nat.eq_zero_or_pos ts.length with z | z
  · omega
  · have hp := List.getElem?_eq_getElem (l := ts) (i := ts.length - 1) (by omega)
    have := code _ _ hp
    obtain ⟨g1, g2, _, _⟩ := get _ _ hp
    obtain ⟨a, b⟩ := nn _ (List.mem_of_getElem? hp)
    omega
theorem tab_rows {rows cols : Int} {t : List (List Int)} (h : tabB rows cols t = true) : (t.length : Int) = rows ∧ ∀ l ∈ t, (l.length : Int) = cols ∧ ∀ x ∈ l, x ≤ 1000 := by
  unfold tabB at h
  simp only [Bool.and_eq_true, decide_eq_true_eq, List.all_eq_true] at h
  exact ⟨h.1, fun l hl => ⟨(h.2 l hl).1, (h.2 l hl).2⟩⟩
theorem wrong_ok {m : Mdl} (h : wrongM m = none) : (1 ≤ m.many ∧ m.many ≤ 12) ∧ (1 ≤ m.levels ∧ m.levels ≤ 4) ∧ tabB m.many m.levels m.ws = true ∧ (∀ j, j < m.ts.length → gT m.many m.levels m.ts j = true) ∧ crowdB m.many m.ts = false := by
  unfold wrongM at h
  by_cases c1 : 1 ≤ m.many ∧ m.many ≤ 12
  · rw [if_neg (fun z => z c1)] at h
    by_cases c2 : 1 ≤ m.levels ∧ m.levels ≤ 4
    · rw [if_neg (fun z => z c2)] at h
      cases c3 : tabB m.many m.levels m.ws with
      | false => rw [if_pos c3] at h; cases h
      | true =>
        rw [if_neg (by rw [c3]; exact Bool.noConfusion)] at h
        cases c4 : badT m.many m.levels m.ts with
        | some i => rw [c4] at h; cases h
        | none =>
          rw [c4] at h
          refine ⟨c1, c2, rfl, rng_all c4, ?_⟩
          cases c5 : crowdB m.many m.ts with
          | false => rfl
          | true =>
            have h : (if crowdB m.many m.ts = true then some (Sum.inl "crowded") else none : Option Part) = none := h
            rw [if_pos c5] at h
            cases h
    · rw [if_pos c2] at h; cases h
  · rw [if_pos c1] at h; cases h
theorem ok_sm {m : Mdl} (h : wrongM m = none) (hw : ∀ l ∈ m.ws, l ≠ [] ∧ ∀ x ∈ l, 0 ≤ x) (ht : ∀ t ∈ m.ts, 0 ≤ t.1.1 ∧ 0 ≤ t.1.2 ∧ t.2 ≠ [] ∧ ∀ l ∈ t.2, l ≠ [] ∧ ∀ x ∈ l, 0 ≤ x) : MdlSm m := by
  obtain ⟨c1, c2, c3, c4, _⟩ := wrong_ok h
  obtain ⟨w1, w2⟩ := tab_rows c3
  refine ⟨by omega, c1.2, by omega, c2.2, by omega, fun l hl => ?_, ties_few c1.2 c4 fun t h => ⟨(ht t h).1, (ht t h).2.1⟩, fun t hm => ?_⟩
  · obtain ⟨a, b⟩ := w2 l hl
    obtain ⟨c, d⟩ := hw l hl
    exact ⟨by omega, c, fun x hx => ⟨d x hx, b x hx⟩⟩
  · obtain ⟨i, hi, rfl⟩ := List.mem_iff_getElem.mp hm
    have g := c4 i hi
    unfold gT at g
    rw [List.getElem?_eq_getElem hi] at g
    have g : (tieB m.many m.levels m.ts[i] && !leP m.ts[i].1 (lastP m.ts i)) = true := g
    unfold tieB at g
    simp only [Bool.and_eq_true, Bool.not_eq_true', decide_eq_true_eq] at g
    obtain ⟨⟨g1, g2, g3⟩, _⟩ := g
    obtain ⟨r1, r2⟩ := tab_rows g3
    obtain ⟨a, b, c, d⟩ := ht _ hm
    exact ⟨⟨a, by omega⟩, ⟨b, by omega⟩, by omega, c, fun l hl => ⟨by have := (r2 l hl).1; omega, (d l hl).1, fun x hx => ⟨(d l hl).2 x hx, (r2 l hl).2 x hx⟩⟩⟩
theorem leP_0 {t : Int × Int} (h0 : 0 ≤ t.1) (h1 : t.1 < t.2) : leP t (0, 0) = false := by
  unfold leP
  by_cases c : t.1 = 0
  · rw [if_pos c]
    exact decide_eq_false (by omega)
  · rw [if_neg c]
    exact decide_eq_false (by omega)
theorem set_rng (M : Nat) (f : Nat → V) (j : Nat) (v : V) : ((List.range M).map f).set j v = (List.range M).map fun p => if p = j then v else f p := by
  refine List.ext_getElem? fun i => ?_
  rw [List.getElem?_set, List.length_map, List.length_range, List.getElem?_map, List.getElem?_map]
  by_cases h : j = i
  · rw [if_pos h]
    by_cases l : j < M
    · rw [if_pos l, List.getElem?_range (by omega)]
      show _ = some (if i = j then v else f i)
      rw [if_pos h.symm]
    · rw [if_neg l, List.getElem?_eq_none (by rw [List.length_range]; omega)] <;> rfl
  · rw [if_neg h]
    by_cases l : i < M
    · rw [List.getElem?_range l]
      show some (f i) = some (if i = j then v else f i)
      rw [if_neg (fun z => h z.symm)]
    · rw [List.getElem?_eq_none (by rw [List.length_range]; omega)] <;> rfl
theorem cnt_snoc {ts : List Tie} {i : Nat} {t : Tie} (h : ts[i]? = some t) (p : Int) : cntT (ts.take (i + 1)) p = cntT (ts.take i) p + if p = t.1.1 ∨ p = t.1.2 then 1 else 0 := by
  unfold cntT
  rw [filter_snoc h, List.length_append]
  congr 1
  by_cases c : p = t.1.1 ∨ p = t.1.2
  · rw [if_pos c, if_pos (by rcases c with c | c <;> simp [c])]
    rfl
  · rw [if_neg c, if_neg (fun z => c (by simpa using z))]
    rfl
theorem rep_rng (n : Nat) (x : V) : (List.replicate n [x]).flatten = (List.range n).map fun _ => x := by
  induction n with
  | zero => rfl
  | succ n ih => rw [List.replicate_succ', List.flatten_append, ih, List.range_succ, List.map_append] <;> rfl
def rTupOf (K : PySem.W.Frag) : List V → Hp → VK → Prop := fun xs H Q => ∃ p ys, xs = [.ref p] ∧ ((SqL K H p ys ∧ ∀ l, H l = none → Q (.ref l) (upd H l (.tup ys))) ∨ (SqT K H p ys ∧ Q (.ref p) H))
/-- a list of ties in the making, all of them right -/
structure TsOk (many levels : Int) (ts : List Tie) : Prop where
  g : ∀ j, j < ts.length → gT many levels ts j = true
  n : ∀ t ∈ ts, 0 ≤ t.1.1 ∧ 0 ≤ t.1.2 ∧ t.2 ≠ [] ∧ ∀ l ∈ t.2, l ≠ [] ∧ ∀ x ∈ l, 0 ≤ x
theorem TsOk.nil {many levels : Int} : TsOk many levels [] := ⟨fun j hj => absurd hj (Nat.not_lt_zero _), fun t ht => absurd ht List.not_mem_nil⟩
theorem lastP_app {ts : List Tie} {t : Tie} {j : Nat} (hj : j ≤ ts.length) : lastP (ts ++ [t]) j = lastP ts j := by
  unfold lastP
  by_cases c : j = 0
  · rw [if_pos c, if_pos c]
  · rw [if_neg c, if_neg c, List.getElem?_append_left (by omega)]
theorem TsOk.snoc {many levels : Int} {ts : List Tie} {t : Tie} (h : TsOk many levels ts) (hb : tieB many levels t = true) (hn : 0 ≤ t.1.1 ∧ 0 ≤ t.1.2 ∧ t.2 ≠ [] ∧ ∀ l ∈ t.2, l ≠ [] ∧ ∀ x ∈ l, 0 ≤ x) (hl : ∀ t' ∈ ts, t'.1.1 < t.1.1 ∨ (t'.1.1 = t.1.1 ∧ t'.1.2 < t.1.2)) : TsOk many levels (ts ++ [t]) := by
  refine ⟨fun j hj => ?_, fun u hu => ?_⟩
  · rw [List.length_append] at hj
    have hj : j < ts.length + 1 := hj
    by_cases c : j < ts.length
    · have g := h.g j c
      unfold gT at g ⊢
      rw [List.getElem?_append_left c, lastP_app (by omega)]
      exact g
    · have e : j = ts.length := by omega
      subst e
      unfold gT
      rw [List.getElem?_append_right (Nat.le_refl _), Nat.sub_self, lastP_app (Nat.le_refl _)]
      show (tieB many levels t && !leP t.1 (lastP ts ts.length)) = true
      rw [hb, Bool.true_and]
      have : leP t.1 (lastP ts ts.length) = false := by
        unfold lastP
        by_cases z : ts.length = 0
        · rw [if_pos z]
          unfold tieB at hb
          simp only [Bool.and_eq_true, decide_eq_true_eq] at hb
          exact leP_0 hn.1 hb.2.1
        · rw [if_neg z, List.getElem?_eq_getElem (show ts.length - 1 < ts.length by omega)]
          show leP t.1 (ts[ts.length - 1]).1 = false
          have := hl _ (List.getElem_mem (show ts.length - 1 < ts.length by omega))
          unfold leP
          rcases this with q | ⟨q1, q2⟩
          · rw [if_neg (by omega)]
            exact decide_eq_false (by omega)
          · rw [if_pos q1.symm]
            exact decide_eq_false (by omega)
      rw [this] <;> rfl
  · rcases List.mem_append.mp hu with hu | hu
    · exact h.n u hu
    · rw [List.mem_singleton.mp hu]
      exact hn
theorem cnt_app (ts : List Tie) (t : Tie) (p : Int) : cntT (ts ++ [t]) p = cntT ts p + if p = t.1.1 ∨ p = t.1.2 then 1 else 0 := by
  have h : (ts ++ [t])[ts.length]? = some t := by rw [List.getElem?_append_right (Nat.le_refl _), Nat.sub_self] <;> rfl
  have z := cnt_snoc h p
  rw [List.take_of_length_le (by rw [List.length_append]; exact Nat.le_refl _), List.take_left] at z
  exact z
theorem made_ok {m : Mdl} (c1 : 1 ≤ m.many ∧ m.many ≤ 12) (c2 : 1 ≤ m.levels ∧ m.levels ≤ 4) (c3 : tabB m.many m.levels m.ws = true) (c4 : TsOk m.many m.levels m.ts) (c5 : ∀ p : Nat, p < m.many.toNat → cntT m.ts (p : Int) ≤ 4) : wrongM m = none := by
  unfold wrongM
  rw [if_neg (fun z => z c1), if_neg (fun z => z c2), if_neg (by rw [c3]; exact Bool.noConfusion)]
  have bm : badT m.many m.levels m.ts = none := rng_none c4.g
  rw [bm]
  show (if crowdB m.many m.ts = true then _ else _) = _
  have : crowdB m.many m.ts = false := by
    unfold crowdB
    refine List.any_eq_false.mpr fun p hp => ?_
    have := c5 p (List.mem_range.mp hp)
    intro z
    have := of_decide_eq_true z
    omega
  rw [if_neg (by rw [this]; exact Bool.noConfusion)]
theorem gT_get {many levels : Int} {ts : List Tie} {i : Nat} {t : Tie} (h : gT many levels ts i = true) (ht : ts[i]? = some t) : tieB many levels t = true ∧ leP t.1 (lastP ts i) = false := by
  unfold gT at h
  rw [ht] at h
  have h : (tieB many levels t && !leP t.1 (lastP ts i)) = true := h
  simp only [Bool.and_eq_true, Bool.not_eq_true'] at h
  exact h
end L2
namespace Law
open PySem L2
theorem rowAt_stp {K : PySem.W.Frag} {p : Addr} {H H' : Hp} {v : V} {l : List Int} (S : Stp p H H') (hh : HandAt H p) (h : RowAt K H v l) : RowAt K H' v l := by
  obtain ⟨a, h1, h2⟩ := h
  exact ⟨a, h1, S.sqT hh h2⟩
theorem rowsAt_stp {K : PySem.W.Frag} {p : Addr} {H H' : Hp} {a : Addr} {t : List (List Int)} (S : Stp p H H') (hh : HandAt H p) (h : RowsAt K H a t) : RowsAt K H' a t := by
  obtain ⟨vs, h1, h2⟩ := h
  exact ⟨vs, S.sqT hh h1, h2.mono fun _ _ => rowAt_stp S hh⟩
theorem tieAt_stp {K : PySem.W.Frag} {p : Addr} {H H' : Hp} {v : V} {t : Tie} (S : Stp p H H') (hh : HandAt H p) (h : TieAt K H v t) : TieAt K H' v t := by
  obtain ⟨a, b, h1, h2, h3⟩ := h
  exact ⟨a, b, h1, S.sqT hh h2, rowsAt_stp S hh h3⟩
theorem rowOk_tab {lv : Int} {t : List (List Int)} {rows : Int} (hl : (t.length : Int) = rows) (h : ∀ l ∈ t, (l.length : Int) = lv ∧ ∀ x ∈ l, 0 ≤ x ∧ x ≤ 1000) : tabB rows lv t = true := by
  unfold tabB
  rw [decide_eq_true hl, Bool.true_and, List.all_eq_true]
  intro l hm
  obtain ⟨a, b⟩ := h l hm
  rw [decide_eq_true a, Bool.true_and, List.all_eq_true]
  exact fun x hx => decide_eq_true (b x hx).2
theorem mrgIf {c : TT} {a b : TE} {σ : L2.St} {H : Hp} {Q : VK} (R : V → Hp → Prop) (h : ∀ Q' : VK, (∀ x H1, R x H1 → Q' x H1) → tIf c a b σ H Q') (key : ∀ x H1, R x H1 → Q x H1) : tIf c a b σ H Q := h Q key
def mdK (many levels : Int) (w t : Addr) : List (Key × V) := [(Sum.inr ("many" : Str), .int many), (Sum.inr ("levels" : Str), .int levels), (Sum.inr ("weights" : Str), .ref w), (Sum.inr ("ties" : Str), .ref t)]
theorem k_ML : ¬ ((Sum.inr ("many" : Str) : Key) = Sum.inr ("levels" : Str)) := sne (by decide +kernel)
theorem k_MW : ¬ ((Sum.inr ("many" : Str) : Key) = Sum.inr ("weights" : Str)) := sne (by decide +kernel)
theorem k_MT : ¬ ((Sum.inr ("many" : Str) : Key) = Sum.inr ("ties" : Str)) := sne (by decide +kernel)
theorem k_LW : ¬ ((Sum.inr ("levels" : Str) : Key) = Sum.inr ("weights" : Str)) := sne (by decide +kernel)
theorem k_LT : ¬ ((Sum.inr ("levels" : Str) : Key) = Sum.inr ("ties" : Str)) := sne (by decide +kernel)
theorem k_WT : ¬ ((Sum.inr ("weights" : Str) : Key) = Sum.inr ("ties" : Str)) := sne (by decide +kernel)
section
variable (m l : Int) (w t : Addr)
theorem gv_m : valV (mdK m l w t) (Sum.inr ("many" : Str)) = some (.int m) := valV_pos rfl
theorem gv_l : valV (mdK m l w t) (Sum.inr ("levels" : Str)) = some (.int l) := (valV_neg k_ML).trans (valV_pos rfl)
theorem gv_w : valV (mdK m l w t) (Sum.inr ("weights" : Str)) = some (.ref w) := (valV_neg k_MW).trans ((valV_neg k_LW).trans (valV_pos rfl))
theorem gv_t : valV (mdK m l w t) (Sum.inr ("ties" : Str)) = some (.ref t) := (valV_neg k_MT).trans ((valV_neg k_LT).trans ((valV_neg k_WT).trans (valV_pos rfl)))
end
section
variable {H : Hp} {p w t : Addr} {m l : Int} (h : H p = some (.dK (mdK m l w t)))
include h
theorem gd_m : DGet H p (.str "many") (some (.int m)) := by
  have q := DGet.k (k := Sum.inr ("many" : Str)) h
  rw [gv_m] at q
  exact q
theorem gd_l : DGet H p (.str "levels") (some (.int l)) := by
  have q := DGet.k (k := Sum.inr ("levels" : Str)) h
  rw [gv_l] at q
  exact q
theorem gd_w : DGet H p (.str "weights") (some (.ref w)) := by
  have q := DGet.k (k := Sum.inr ("weights" : Str)) h
  rw [gv_w] at q
  exact q
theorem gd_t : DGet H p (.str "ties") (some (.ref t)) := by
  have q := DGet.k (k := Sum.inr ("ties" : Str)) h
  rw [gv_t] at q
  exact q
end
theorem md_keys (m l : Int) (w t : Addr) : ((mdK m l w t).map (·.1)).Nodup := by
  show ([Sum.inr ("many" : Str), Sum.inr ("levels" : Str), Sum.inr ("weights" : Str), Sum.inr ("ties" : Str)] : List Key).Nodup
  simp only [List.nodup_cons, List.mem_cons, List.not_mem_nil, or_false, not_or, k_ML, k_MW, k_MT, k_LW, k_LT, k_WT, not_false_eq_true, and_self, List.nodup_nil]
/-- a dict of a model's parts -/
def DicAt (K : PySem.W.Frag) (H : Hp) (d : Addr) (m : Mdl) : Prop := ∃ w t, H d = some (.dK (mdK m.many m.levels w t)) ∧ RowsAt K H w m.ws ∧ TiesAt K H t m.ts
theorem DicAt.same {K : PySem.W.Frag} {H H' : Hp} {d : Addr} {m : Mdl} (s : Same H H') (h : DicAt K H d m) : DicAt K H' d m := by
  obtain ⟨w, t, h1, h2, h3⟩ := h
  exact ⟨w, t, s _ _ h1, h2.same s, h3.same s⟩
theorem sm_ok {m : Mdl} (h : MdlSm m) : TabOk m.ws ∧ ∀ t ∈ m.ts, TieOk t := by
  refine ⟨⟨Nat.le_trans h.wl (by decide), fun l hl => ?_⟩, fun t ht => ?_⟩
  · obtain ⟨a, _, b⟩ := h.wr l hl
    exact ⟨Nat.le_trans a (by decide), fun x hx => (b x hx).1⟩
  · obtain ⟨a, b, c, _, d⟩ := h.tr t ht
    exact ⟨a.1, b.1, Nat.le_trans c (by decide), fun l hl => ⟨Nat.le_trans (d l hl).1 (by decide), fun x hx => ((d l hl).2.2 x hx).1⟩⟩
theorem dicAt_stp {K : PySem.W.Frag} {p d : Addr} {H H' : Hp} {m : Mdl} (S : Stp p H H') (hh : HandAt H p) (n : d ≠ p) (h : DicAt K H d m) : DicAt K H' d m := by
  obtain ⟨w, t, h1, h2, h3⟩ := h
  obtain ⟨vs, h4, h5⟩ := h3
  exact ⟨w, t, S.keep _ _ n h1, rowsAt_stp S hh h2, vs, S.sqT hh h4, h5.mono fun _ _ => tieAt_stp S hh⟩
end Law
namespace PySem
namespace LawEnum
open AutoSeq1 (wpAny_loadPart')
theorem meets_enumerate_newT (l : Addr) (items : Array Value) (n : Nat) (dct : Option Addr) (sl : Array (Option Value)) :
    Meets (Builtin.«enumerate.__new__» ⟨[.type "enumerate", .ref l], []⟩) (fun _ R s => s.heap.get? l = some { cls := .type "tuple", dict := dct, data := .seq items n, slots := sl } ∧
      R (.ok (.ret (.ref (s.heap.push { cls := .type "tuple_iterator", data := .fields #[.ref l, .int 0 0] }).objs.size)))
        { s with heap := (s.heap.push { cls := .type "tuple_iterator", data := .fields #[.ref l, .int 0 0] }).push { cls := .type "enumerate", data := .fields #[.none, .bool false, .ref s.heap.objs.size, rawInt 0, .none, .none] } }) :=
  .of_wp fun prog w A R s h => by
    obtain ⟨hp, g, d, tk, os⟩ := s; obtain ⟨hl, h⟩ := h
    have hsub := sub_enumerate
    have hL : Heap.IsTuple (Shared.heap ⟨hp, g, d, tk, os⟩) l items := ⟨_, hl, rfl, n, rfl⟩
    wp_walk using wpAny_loadPart' hl
    refine wpAny_stack_any fun st => wpAny_pure ?_
    split
    · rename_i c _ _ _ _ _
      cases (c == Value.type "enumerate")
      · wp_walk using wpAny_loadPart' hl, wpAny_pyIter_tuple hL
        exact ⟨_, rfl, h⟩
      · wp_walk using wpAny_loadPart' hl, wpAny_pyIter_tuple hL
        exact ⟨_, rfl, h⟩
    · wp_walk using wpAny_loadPart' hl, wpAny_pyIter_tuple hL
      exact ⟨_, rfl, h⟩
section
variable {prog : Program} {w : World} {A : Around} {E : Value → Shared → Prop} {s : Shared}
theorem call_enumerate_tuple {l : Addr} {items : Array Value} {Q : Value → Shared → Prop} (hL : s.heap.IsTuple l items)
    (h : ∀ h', IsEnum h' (s.heap.objs.size + 1) s.heap.objs.size 0 .none → h'.IsTupleIter s.heap.objs.size l 0 → h'.objs.size = s.heap.objs.size + 2 →
      (∀ b o, s.heap.get? b = some o → h'.get? b = some o) → Q (.ref (s.heap.objs.size + 1)) { s with heap := h' }) :
    wpAny (model prog w) A (call (.type "enumerate") [.ref l]) Q E s := by
  obtain ⟨⟨c, dct, dt, sl⟩, hl, hc, n, hd⟩ := hL
  replace hc : c = .type "tuple" := hc
  replace hd : dt = .seq items n := hd
  subst hc hd
  refine callType_new F.called_enumerate (by decide) (F.typeCall_enumerate_1 _) (F.newCall_enumerate_1 _) (fun obj => F.args_object_init_2 obj _) F.entry_enumerate_new
    (meets_enumerate_newT l items n dct sl) ⟨hl, ?_⟩
  have hz : (s.heap.push { cls := .type "tuple_iterator", data := .fields #[.ref l, .int 0 0] }).objs.size = s.heap.objs.size + 1 := Heap.size_push ..
  show _ ∧ _
  rw [hz]
  have he : IsEnum ((s.heap.push { cls := .type "tuple_iterator", data := .fields #[.ref l, .int 0 0] }).push
      { cls := .type "enumerate", data := .fields #[.none, .bool false, .ref s.heap.objs.size, rawInt 0, .none, .none] }) (s.heap.objs.size + 1) s.heap.objs.size 0 .none := by
    have := Heap.get?_push_size (s.heap.push { cls := .type "tuple_iterator", data := .fields #[.ref l, .int 0 0] })
      (o := { cls := .type "enumerate", data := .fields #[.none, .bool false, .ref s.heap.objs.size, rawInt 0, .none, .none] }) rfl
    rw [hz] at this; exact this
  refine ⟨⟨_, he, rfl⟩, h _ he ⟨_, Heap.get?_push_of_some _ (Heap.get?_push_size _ rfl), rfl, rfl⟩ (by rw [Heap.size_push, hz]) fun b o x => Heap.get?_push_of_some _ (Heap.get?_push_of_some _ x)⟩
end
theorem draws_end {prog : Program} {w : World} {A : Around} (hh : A.handled = none) (it t : Addr) (items : Array Value) (i : Nat) (hx : items[i]? = none) :
    Draws prog w A it [it, t] 0 (fun _ _ => True) (fun _ h => h.IsTupleIter it t i ∧ h.IsTuple t items) where
  live := fun _ _ st => let ⟨o, ho, _⟩ := st.1; ⟨o, ho⟩
  frame := fun _ _ _ st hk => ⟨st.1.at fun o e => hk it (by simp) o e, st.2.at fun o e => hk t (by simp) o e⟩
  item := fun i s Q E hi st hQ => absurd hi (Nat.not_lt_zero i)
  done := fun s Q E st hE => wpAny_nextOf_tuple_end hh st.1 st.2 hx hE
end LawEnum
end PySem
namespace L2
open PySem PySem.Spec PyProof.Rows
/-- the tuple at a, item by item, each in a new pair with its number -/
def IteT (K : PySem.W.Frag) (a : Addr) : It :=
  ⟨fun i H => ∃ (xs : List V) (x : V), SqT K H a xs ∧ xs[i]? = some x, fun i H v H' => ∃ T x, v = .ref T ∧ H T = none ∧ H' = upd H T (.tup [.int (i : Nat), x]) ∧ ∀ xs, SqT K H a xs → xs[i]? = some x, fun i H => ∃ xs : List V, SqT K H a xs ∧ xs.length ≤ i⟩
theorem turn_enumT {P : Program} {w : World} {K : PySem.W.Frag} {elts : List Expr} {kk : Nat} {tpos : Pos} (a e it : Addr) :
    Turn P w K (.Tuple elts kk tpos) (IteT K a) [e, it] e (fun i h => (∃ old, IsEnum h e it ((i : Nat) : Int) old) ∧ h.IsTupleIter it a i ∧ e ≠ it ∧ a ≠ it ∧ e ≠ a) where
  mem := by simp
  obj := fun i h st b hb => by
    obtain ⟨⟨old, he⟩, ⟨o, ho, hc, hd⟩, _⟩ := st
    have e' : b = e ∨ b = it := by simpa using hb
    rcases e' with z | z
    · rw [z]; exact ⟨_, he, fun v q => nomatch q⟩
    · rw [z]; exact ⟨o, ho, fun v q => by rw [hd] at q; cases q⟩
  keep := fun i h h' st k => let ⟨⟨old, he⟩, hi, hne, h1, h2⟩ := st; ⟨⟨old, k e (by simp) _ he⟩, hi.at fun o q => k it (by simp) o q, hne, h1, h2⟩
  item := by
    intro X hP hw hK hc i pins s σ H E I hf st hg
    subst hP hw hK
    obtain ⟨⟨old, he⟩, hit, hne, hai, hea⟩ := st
    obtain ⟨xs, x, hq, hx⟩ := hg
    obtain ⟨its, rv, p, hz⟩ := I.tuple hq
    obtain ⟨u, hu, ru⟩ := rv.get hx
    have hel : e < s.heap.objs.size := Heap.lt_size he
    have hil : it < s.heap.objs.size := by obtain ⟨_, q, _⟩ := hit; exact Heap.lt_size q
    have hlt : i < its.toArray.size := by
      have z := (List.getElem?_eq_some_iff.mp hu).1
      simpa using z
    have D := Draws.tuple (prog := X.prog) (w := X.w) (A := X.A.in1) (I.ok.hd hc) it a hai its.toArray
    refine wpAny_pyNext_enum_itemD D he ⟨hit, p⟩ hlt hne (by simp [hne, hea]) fun x' h' tk hPx ho hit' hT hsz hk => ?_
    have ex : x' = u := by
      have z : its.toArray[i]? = some x' := hPx
      have z2 : its.toArray[i]? = some u := by simpa using hu
      rw [z2] at z
      exact (Option.some.inj z).symm
    subst ex
    refine ⟨_, rfl, wpAny_letOwnedTupleGo_enum (s := { s with heap := h', toks := tk + 1 }) ho fun h'' he' sb => ?_⟩
    have hT2 : h''.get? s.heap.objs.size = some { cls := .type "tuple", data := .seq #[.int i tk, x'] } := (sb.2 _ (Nat.ne_of_gt hel)).trans hT
    have new : ObjOk X.prog X.w (upd H s.heap.objs.size (.tup [.int (i : Nat), x])) h'' s.heap.objs.size (.tup [.int (i : Nat), x]) :=
      ⟨by show 2 ≤ sizeLine; decide, [.int i tk, x'], .cons ⟨_, rfl⟩ (.cons ru .nil), ⟨_, hT2, rfl, _, rfl⟩⟩
    have I1 : Inv X pins σ (upd H s.heap.objs.size (.tup [.int (i : Nat), x])) { s with heap := h'', toks := tk + 1 } :=
      I.turnedNew (ch := [e, it]) (fun b ob hb q => (sb.2 b (fun z => hb (by simp [z]))).trans (hk b ob (fun z => hb (by simp [z])) (fun z => hb (by simp [z])) q)) hf (Nat.le_refl _) new
    refine ⟨.ref s.heap.objs.size, _, I1, rfl, ⟨_, x, rfl, I.hok.fresh (Nat.le_refl _), rfl, fun ys hy => by rw [I.tuple_inj hy hq]; exact hx⟩, ⟨⟨x', ?_⟩, hit'.1.at fun o q => (sb.2 it (Ne.symm hne)).trans q, hne, hai, hea⟩, fun b hb => ?_⟩
    · have e1 : ((i + 1 : Nat) : Int) = (i : Int) + 1 := by omega
      rw [e1]; exact he'
    · have hb' : b < s.heap.objs.size := by
        have e' : b = e ∨ b = it := by simpa using hb
        rcases e' with z | z
        · rw [z]; exact hel
        · rw [z]; exact hil
      rw [upd_ne (Nat.ne_of_lt hb')]
      exact (hf b hb).1
  done := by
    intro X hP hw hK hc i pins s σ H E I hf st hg
    subst hP hw hK
    obtain ⟨⟨old, he⟩, hit, hne, hai, hea⟩ := st
    obtain ⟨xs, hq, hx⟩ := hg
    obtain ⟨its, rv, p, hz⟩ := I.tuple hq
    obtain ⟨f0, f1, f2, f3, f4, f5⟩ := hf it (by simp)
    have hl := rv.length
    have D := LawEnum.draws_end (prog := X.prog) (w := X.w) (A := X.A.in1) (I.ok.hd hc) it a its.toArray i (by simp; omega)
    exact wpAny_pyNext_enum_endD D he ⟨hit, p⟩ fun h' eb => ⟨rfl, I.turned (t' := s.toks) (fun b o hb q => eb b o hb q) f0 f1 f3 f4 f5⟩
  self := fun A i s Q E st h => let ⟨⟨_, he⟩, _⟩ := st; wpAny_pyIter_enum he h
def iEnumT (K : PySem.W.Frag) (ta : TA) : TI := fun σ H R => ta σ H fun vs H1 => ∃ a xs, vs = [.ref a] ∧ SqT K H1 a xs ∧ R (IteT K a) H1
theorem pi_enumT {X : Cx} {e : Expr} {ta : TA} {p pos tpos : Pos} {elts : List Expr} {kk : Nat} (hg : Gl X "enumerate") (hm : X.mg "enumerate" = none) (ha : PA X [e] ta) (hs : starEach [e] X.env = [(false, eval e X.env)] := by rfl) :
    PI X (.Tuple elts kk tpos) (.Call (.Name "enumerate" p) [e] [] pos) (iEnumT X.K ta) := by
  refine ⟨fun pins s σ H R I h => ?_⟩
  refine Call_ (ld_blt I hg hm boot_enumerate (PyProof.Rows.callWith_type1 (thn (ha.run pos pins s σ H _ I h) fun us s1 ⟨vs, H1, I1, r1, q1⟩ => ?_) hs rfl))
  obtain ⟨a, xs, ex, hq, q⟩ := q1
  subst ex
  cases r1 with
  | cons r rr =>
    cases rr
    cases r
    obtain ⟨its, rv, p', hz⟩ := I1.tuple hq
    have hal : a < s1.heap.objs.size := by obtain ⟨o, ho, _⟩ := p'; exact Heap.lt_size ho
    refine LawEnum.call_enumerate_tuple p' fun h' he hit hsz hk => wpAny_pyIter_enum he ?_
    have I2 : Inv X pins σ H1 { s1 with heap := h' } := I1.kept (t' := s1.toks) hk
    refine ⟨s1.heap.objs.size + 1, [s1.heap.objs.size + 1, s1.heap.objs.size], _, _, H1, rfl, I2, turn_enumT a (s1.heap.objs.size + 1) s1.heap.objs.size, ⟨⟨.none, he⟩, hit, Nat.succ_ne_self _, Nat.ne_of_lt hal, Nat.ne_of_gt (Nat.lt_succ_of_lt hal)⟩, fun b hb => ?_, q⟩
    have e' : b = s1.heap.objs.size + 1 ∨ b = s1.heap.objs.size := by simpa using hb
    have hle : s1.heap.objs.size ≤ b := by
      rcases e' with z | z
      · rw [z]; exact Nat.le_add_right _ _
      · rw [z]; exact Nat.le_refl _
    exact I1.fpOk hle (I1.hok.fresh hle)
theorem walk_enumT {K : PySem.W.Frag} {a : Addr} {xs : List V} : Walk (IteT K a) xs.length (fun H => SqT K H a xs) (fun i H v H' => ∃ T x, v = .ref T ∧ H T = none ∧ H' = upd H T (.tup [.int (i : Nat), x]) ∧ xs[i]? = some x) where
  goes := fun i H hi h => ⟨xs, xs[i], h, List.getElem?_eq_getElem hi⟩
  stops := fun H h => ⟨xs, h, Nat.le_refl _⟩
  yields := fun i H x H' hi h ⟨T, y, h1, h2, h3, h4⟩ => ⟨T, y, h1, h2, h3, h4 xs h⟩
end L2


namespace Law
open PySem L2
section
variable {P : Program} {w : World} {K : PySem.W.Frag} {mg : Str → Option Value} {base : Heap}
def eqM (a b : Mdl) : Bool := decide (a.many = b.many) && (decide (a.levels = b.levels) && (decide (a.ws = b.ws) && decide (a.ts = b.ts)))
def spMEq (K : PySem.W.Frag) (C : Addr) : Sp := fun vs H Q _ => ∃ (p q : Addr) (a b : Mdl), vs = [.ref p, .ref q] ∧ ModAt K C H p a ∧ ModAt K C H q b ∧ Q (.bl (eqM a b)) H
abbrev nModelEq : List Str := ["self", "other"]
theorem scModelEq : FnScope nModelEq ["self", "other"] (defScope s_Model_eq) := ⟨rfl, rfl, rfl, by decide +kernel, rfl, by decide +kernel, by decide +kernel⟩
theorem ok_meq {f : Addr} {fd : FuncData} {C : Addr} (F : Fun K "__eq__" "Model.__eq__" s_Model_eq f fd) (T : NmA mg) (S : ModT K mg C) : FnOk P w K mg base CX0 1 f fd ["self", "other"] (spMEq K C) := by
  refine F.ok scModelEq (fun vs H Q E h => ?_) (fun cdv A' outer s H vs Q E hr h => ?_)
  · obtain ⟨p, q, a, b, rfl, _⟩ := h
    rfl
  · obtain ⟨p, q, a, b, rfl, h1, h2, k⟩ := h
    have hu := hu_of hr
    refine ⟨_, pss_one (ps_ret (pe_and (pe_callB call_isi (by rfl) T.isi (by decide +kernel) (pa_cons (pv 1) (pa_cons (pe_glob (v := .ref C) (u := .ref C) rfl S.mgC rfl) pa_nil))) (pe_and (pe_cmpR op_eq (pe_fld (pv 0) rfl) (pe_fld (pv 1) rfl) (nomark _)) (pe_and (pe_cmpR op_eq (pe_fld (pv 0) rfl) (pe_fld (pv 1) rfl) (nomark _)) (pe_and (pe_cmpR (op_eqD hr.units) (pe_fld (pv 0) rfl) (pe_fld (pv 1) rfl) (nomark _)) (pe_one (pe_cmpR (op_eqD hr.units) (pe_fld (pv 0) rfl) (pe_fld (pv 1) rfl) (nomark _)))))))), ?_⟩
    obtain ⟨d1, w1, t1, a1, b1, c1⟩ := id h1
    obtain ⟨d2, w2, t2, a2, b2, c2⟩ := id h2
    have ei : ∀ x y : Int, decide (V.int x = V.int y) = decide (x = y) := fun x y => decide_eq_decide.mpr ⟨fun z => V.int.inj z, fun z => by rw [z]⟩
    unfold eqM at k
    refine ⟨_, rfl, _, _, _, _, _, rfl, .own C, h2.ty S, kit_selfM (by simp), _, rfl, iteT ?_⟩
    refine ⟨_, rfl, p, C, d1, _, _, rfl, a1, S.cl, S.nK, modF_many _ _ _ _, _, rfl, q, C, d2, _, _, rfl, a2, S.cl, S.nK, modF_many _ _ _ _, rfl, _, rfl, ?_⟩
    rw [ei]
    cases e1 : decide (a.many = b.many) with
    | false =>
      rw [e1, Bool.false_and] at k
      exact iteF k
    | true =>
    rw [e1, Bool.true_and] at k
    refine iteT ⟨_, rfl, p, C, d1, _, _, rfl, a1, S.cl, S.nL, modF_levels _ _ _ _, _, rfl, q, C, d2, _, _, rfl, a2, S.cl, S.nL, modF_levels _ _ _ _, rfl, _, rfl, ?_⟩
    rw [ei]
    cases e2 : decide (a.levels = b.levels) with
    | false =>
      rw [e2, Bool.false_and] at k
      exact iteF k
    | true =>
    rw [e2, Bool.true_and] at k
    refine iteT ⟨_, rfl, p, C, d1, _, _, rfl, a1, S.cl, S.nW, modF_weights _ _ _ _, _, rfl, q, C, d2, _, _, rfl, a2, S.cl, S.nW, modF_weights _ _ _ _, tabD a.ws, tabD b.ws, dp_rows b1, dp_rows b2, shaped_of (lay_tabD _) (by decide), shaped_of (lay_tabD _) (by decide), _, rfl, ?_⟩
    rw [eqv_tabD]
    cases e3 : decide (a.ws = b.ws) with
    | false =>
      rw [e3, Bool.false_and] at k
      exact iteF k
    | true =>
    rw [e3, Bool.true_and] at k
    refine iteT ⟨_, rfl, p, C, d1, _, _, rfl, a1, S.cl, S.nT, modF_ties _ _ _ _, _, rfl, q, C, d2, _, _, rfl, a2, S.cl, S.nT, modF_ties _ _ _ _, tiesD a.ts, tiesD b.ts, dp_ties c1, dp_ties c2, shaped_of (lay_tiesD _) (by decide), shaped_of (lay_tiesD _) (by decide), ?_⟩
    rw [eqv_tiesD]
    exact k
def spMInitN (K : PySem.W.Frag) (C : Addr) : Sp := fun vs H Q _ => ∃ (p dx w t : Addr) (m : Mdl), vs = [.ref p, .int m.many, .int m.levels, .ref w, .ref t] ∧ H p = some (.ins C dx []) ∧ RowsAt K H w m.ws ∧ TiesAt K H t m.ts ∧ TabOk m.ws ∧ (∀ t ∈ m.ts, TieOk t) ∧ wrongM m = none ∧
  (∀ H', (∀ b o, b ≠ p → H b = some o → H' b = some o) → H' p = some (.ins C dx (modF m.many m.levels w t)) → Q .non H')
abbrev nModelInitN : List Str := ["self", "many", "levels", "weights", "ties", "last", "number", "tie", "place"]
theorem scModelInitN : FnScope nModelInitN ["self", "many", "levels", "weights", "ties"] (defScope s_Model_init) := ⟨rfl, rfl, rfl, by decide +kernel, rfl, by decide +kernel, by decide +kernel⟩
theorem ok_minitN {f : Addr} {fd : FuncData} {fcWithin : Addr} {fdcWithin : FuncData} {fcTable : Addr} {fdcTable : FuncData} {fcTie : Addr} {fdcTie : FuncData} {fcTiesAt : Addr} {fdcTiesAt : FuncData} {C : Addr} (F : Fun K "__init__" "Model.__init__" s_Model_init f fd) (T : NmA mg) (cWithin : Cl P w K mg base CX0 2 "is_within" fcWithin fdcWithin ["low", "high", "thing"] (spWithin K)) (cTable : Cl P w K mg base CX0 4 "is_table" fcTable fdcTable ["rows", "columns", "thing"] (spTable K)) (cTie : Cl P w K mg base CX0 5 "is_tie" fcTie fdcTie ["many", "levels", "thing"] (spTie K)) (cTiesAt : Cl P w K mg base CX0 1 "ties_at" fcTiesAt fdcTiesAt ["ties", "place"] (spTiesAt K)) (S : ModT K mg C) : FnOk P w K mg base CX0 6 f fd ["self", "many", "levels", "weights", "ties"] (spMInitN K C) := by
  refine F.ok scModelInitN (fun vs H Q E h => ?_) (fun cdv A' outer s H vs Q E hr h => ?_)
  · obtain ⟨p, dx, wa, ta, m, rfl, _⟩ := h
    rfl
  · obtain ⟨p, dx, wa, ta, m, rfl, hp, hW, hT, tw, tt, hwr, kQ⟩ := h
    have hu := hu_of hr
    refine ⟨_, pss_cons (ps_if (pt_not (pt_val (cWithin.call (hr.mono (by decide)) (pa_cons pe_int (pa_cons pe_int (pa_cons (pv 1) pa_nil))))))
        pss_never pss_nil)
      (pss_cons (ps_if (pt_not (pt_val (cWithin.call (hr.mono (by decide)) (pa_cons pe_int (pa_cons pe_int (pa_cons (pv 2) pa_nil))))))
        pss_never pss_nil)
      (pss_cons (ps_if (pt_not (pt_val (cTable.call (hr.mono (by decide)) (pa_cons (pv 1) (pa_cons (pv 2) (pa_cons (pv 3) pa_nil))))))
        pss_never pss_nil)
      (pss_cons (ps_if (pt_not (pt_val (pe_callB call_isi (by rfl) T.isi (by decide +kernel) (pa_cons (pv 4) (pa_cons (pe_bltn (v := .ty "tuple") (u := .type "tuple") (by rfl) T.tuple (by decide +kernel) rfl) pa_nil)))))
        pss_never pss_nil)
      (pss_cons (ps_set (i := 5) scModelInitN.nd rfl (Or.inl rfl) (pe_tup (pa_cons pe_int (pa_cons pe_int pa_nil))))
      (pss_cons (ps_for PassesOwn.never rfl (pi_enumT (by rfl) T.enum (pa_cons (pv 4) pa_nil)) (pg_tup (by rfl) (pgs_cons (pg_name (i := 6) scModelInitN.nd rfl (Or.inl rfl)) (pgs_cons (pg_name (i := 7) scModelInitN.nd rfl (Or.inl rfl)) pgs_nil)))
        (pss_cons (ps_if (PW.pt (pw_or (pt_not (pt_val (cTie.call (hr.mono (by decide)) (pa_cons (pv 1) (pa_cons (pv 2) (pa_cons (pv 7) pa_nil)))))) (pw_or1 (pt_cmpR (op_leT (Nat.lt_of_le_of_lt (Nat.le_add_right _ 64) hr.units)) (pe_slice sl_tupA (pv 7) po_none (po_some pe_int)) (pv 5) (nomark _)))))
          pss_never pss_nil)
        (pss_one (ps_set (i := 5) scModelInitN.nd rfl (Or.inl rfl) (pe_slice sl_tupA (pv 7) po_none (po_some pe_int))))))
      (pss_cons (ps_if (pt_val (pe_callB (cr_any rfl) (by rfl) T.any (by decide +kernel) (pa_cons (pe_lc (own := [("place", 8)]) (g := (gName 8)) (tt := tYes) rfl scModelInitN.nd  (pi_range1 (by rfl) T.range (pa_cons (pv 1) pa_nil)) (blkOk_by (own := [("place", 8)]) (N := nModelInitN) (sc := defScope s_Model_init) (by decide +kernel)) (fun _ _ _ _ _ => (pg_name (i := 8) scModelInitN.nd rfl (Or.inl rfl))) (fun _ _ _ _ _ => pts_nil) (fun _ _ _ _ _ => (pe_cmpR op_gt (cTiesAt.call (hr.mono (by decide)) (pa_cons (pv 4) (pa_cons (pv 8) pa_nil))) pe_int (nomark _)))) pa_nil)))
        pss_never pss_nil)
      (pss_cons (ps_fld (pv 0) (pv 1) rfl)
      (pss_cons (ps_fld (pv 0) (pv 2) rfl)
      (pss_cons (ps_fld (pv 0) (pv 3) rfl)
      (pss_one (ps_fld (pv 0) (pv 4) rfl))))))))))), ?_⟩
    obtain ⟨ts, hTS, hTA⟩ := id hT
    have tl0 : ts.length = m.ts.length := hTA.1
    obtain ⟨c1, c2, c3, c4, c5⟩ := wrong_ok hwr
    have tlen : m.ts.length ≤ 16000000 := Nat.le_trans (ties_few c1.2 c4 fun t h => ⟨(tt t h).1, (tt t h).2.1⟩) (by decide)
    refine ⟨_, rfl, 1, 12, _, rfl, .inl ⟨m.many, rfl, _, rfl, ?_⟩⟩
    rw [decide_eq_true c1.1, decide_eq_true c1.2]
    refine iteF ⟨_, rfl, 1, 4, _, rfl, .inl ⟨m.levels, rfl, _, rfl, ?_⟩⟩
    rw [decide_eq_true c2.1, decide_eq_true c2.2]
    refine iteF ⟨_, rfl, _, rfl, _, rfl, m.many, m.levels, wa, m.ws, rfl, hW, tw, fun H1 s1 => ⟨_, rfl, ?_⟩⟩
    rw [c3]
    have hTS1 := s1.sqT hTS
    refine iteF ⟨_, rfl, _, _, _, _, _, rfl, .ty "tuple", tyx_tup hTS1, kit_tt, _, rfl, iteF ?_⟩
    refine ⟨by show 2 ≤ sizeLine; decide, fun la hla => ?_⟩
    refine new_step hla fun H2 s2 e2 => ?_
    have s12 := s1.trans s2
    refine ⟨_, rfl, ta, ts, rfl, s12.sqT hTS, for_it walk_enumT (fun i σ H' => Same H H' ∧ ∃ (la : Addr) (u v : Option V), SqT K H' la [.int (lastP m.ts i).1, .int (lastP m.ts i).2] ∧ σ = [some (.ref p), some (.int m.many), some (.int m.levels), some (.ref wa), some (.ref ta), some (.ref la), u, v, none]) ⟨s12, la, none, none, SqT.of e2, rfl⟩ (fun i σ H' _ h => h.1.sqT hTS) ?_ ?_⟩
    · rintro i x σ H3 H4 hi ⟨s3, la, u, v, hla, rfl⟩ ⟨t, y, rfl, ht, rfl, hy⟩
      obtain ⟨tie, hti, hA⟩ := hTA.2 i y hy
      have s4 : Same H3 (upd H3 t (.tup [.int (i : Nat), y])) := Same.new ht
      have il := (List.getElem?_eq_some_iff.mp hti).1
      have tok := tt tie (List.mem_of_getElem? hti)
      obtain ⟨g1, g2⟩ := gT_get (c4 i il) hti
      refine ⟨t, _, rfl, SqT.of upd_same, rfl, _, _, rfl, _, _, rfl, rfl, ?_⟩
      refine ⟨_, rfl, _, rfl, _, rfl, m.many, m.levels, y, tie, rfl, (hA.same s3).same s4, tok, fun H5 s5 => ⟨_, rfl, ?_⟩⟩
      have s35 := s4.trans s5
      rw [g1]
      obtain ⟨a, b, rfl, ha, hb⟩ := hA
      have ha5 := (s3.trans s35).sqT ha
      refine iteF ?_
      unfold tNoPart
      refine ⟨_, rfl, 2, rfl, a, _, rfl, ha5, fun z => absurd z.2 (by show ¬ HT.sIx 3 3 (some 2) = 3; decide), fun _ q hq => ?_⟩
      rw [cut2]
      refine new_step hq fun H6 s6 e6 => ?_
      refine ⟨_, rfl, q, la, [tie.1.1, tie.1.2], [(lastP m.ts i).1, (lastP m.ts i).2], rfl, rfl, SqT.of e6, (s35.trans s6).sqT hla, _, rfl, ?_⟩
      rw [lex2]
      have s36 := s35.trans s6
      rw [show leP (tie.1.1, tie.1.2) ((lastP m.ts i).1, (lastP m.ts i).2) = false from g2]
      have ha6 := s6.sqT ha5
      refine iteF ⟨_, rfl, 2, rfl, a, _, rfl, ha6, fun z => absurd z.2 (by show ¬ HT.sIx 3 3 (some 2) = 3; decide), fun _ q2 hq2 => ?_⟩
      rw [cut2]
      refine ⟨(s3.trans s36).trans (Same.new hq2), q2, _, _, ?_, rfl⟩
      have el : lastP m.ts (i + 1) = tie.1 := by
        unfold lastP
        rw [if_neg (Nat.succ_ne_zero i), Nat.add_sub_cancel, hti]
      rw [el]
      exact SqT.of upd_same
    · rintro σ H3 ⟨s3, la, u, v, hla, rfl⟩
      have m0 : 0 ≤ m.many := by omega
      refine ⟨_, rfl, _, rfl, by omega, by omega, fun D hD => ?_⟩
      refine lc_range (lo := 0) (n := m.many.toNat) (fun i H' => Same H3 H' ∧ H' D = some (.lst (((List.range i).map fun p => decide (4 < cntT m.ts (p : Nat))).map V.bl))) ⟨Same.new hD, upd_same⟩ (fun i H4 hi g => ?_) fun H4 g => ?_
      · obtain ⟨s4, h4⟩ := g
        refine ⟨rfl, _, rfl, _, rfl, ta, m.ts, _, rfl, hT.same (s3.trans s4), tlen, fun H5 s5 => ⟨_, _, rfl, rfl, _, s5 _ _ h4, ?_, (s4.trans s5).mut hD, ?_⟩⟩
        · rw [List.length_map, List.length_map, List.length_range]
          exact small1000 (by omega)
        · rw [upd_same, List.range_succ, List.map_append, List.map_append, Int.zero_add]
          have : decide ((4 : Int) < ((cntT m.ts ((i : Nat) : Int) : Nat) : Int)) = decide (4 < cntT m.ts ((i : Nat) : Int)) := decide_eq_decide.mpr (by omega)
          show some (HO.lst (_ ++ [V.bl (decide ((4 : Int) < _))])) = some (HO.lst (_ ++ [V.bl (decide (4 < _))]))
          rw [this]
      · obtain ⟨s4, h4⟩ := g
        refine ⟨D, _, rfl, SqL.of h4, _, rfl, ?_⟩
        rw [any_take]
        change (if crowdB m.many m.ts = true then _ else _)
        have s34 := s3.trans s4
        rw [c5]
        refine iteF ⟨_, rfl, _, rfl, p, C, dx, [], rfl, s34 _ _ hp, S.cl, S.nK, (by show 0 < 1000; decide), _, rfl, _, rfl, p, C, dx, _, rfl, upd_same, S.cl, S.nL, (by show 1 < 1000; decide), _, rfl, _, rfl, p, C, dx, _, rfl, upd_same, S.cl, S.nW, (by show 2 < 1000; decide), _, rfl, _, rfl, p, C, dx, _, rfl, upd_same, S.cl, S.nT, (by show 3 < 1000; decide), ?_⟩
        rw [upd_upd, upd_upd, upd_upd]
        exact kQ _ (fun b o n e => by rw [upd_ne n]; exact s34 b o e) upd_same
end
end Law

namespace L2
open PySem PySem.Spec PyProof.Rows
/-! ### weights, what fits -/
def gI (l : List Int) (i : Int) : Int := l.getD i.toNat 0
def gR (t : List (List Int)) (i : Int) : List Int := t.getD i.toNat []
def wv (m : Mdl) (j : Nat) (v : Int) : Int := gI (m.ws.getD j []) v
def tv (t : Tie) (a b : Int) : Int := gI (gR t.2 a) b
def valsM (m : Mdl) : List Int := (List.range m.levels.toNat).map fun i : Nat => (i : Int)
def goesT (b : List Int) (v : Int) (t : Tie) : Bool := !decide (t.1.2 = (b.length : Int)) || !decide (tv t (gI b t.1.1) v = 0)
def goesB (m : Mdl) (b : List Int) (v : Int) : Bool := decide (0 < wv m b.length v) && m.ts.all (goesT b v)
def ext (m : Mdl) : Nat → List Int → List (List Int)
  | 0, b => [b]
  | n + 1, b => (valsM m).flatMap fun v => if goesB m b v = true then ext m n (b ++ [v]) else []
def allX (L : List Int) : Nat → List Int → List (List Int)
  | 0, b => [b]
  | n + 1, b => L.flatMap fun v => allX L n (b ++ [v])
def picsL (L : List Int) : Nat → List (List Int)
  | 0 => [[]]
  | n + 1 => (picsL L n).flatMap fun f => L.map fun v => f ++ [v]
theorem fm_assoc {α β γ : Type} (f : α → List β) (g : β → List γ) : ∀ l : List α, (l.flatMap f).flatMap g = l.flatMap fun x => (f x).flatMap g
  | [] => rfl
  | x :: l => by rw [List.flatMap_cons, List.flatMap_append, fm_assoc f g l, List.flatMap_cons]
theorem allX_step (L : List Int) : ∀ (n : Nat) (b : List Int), allX L (n + 1) b = (allX L n b).flatMap fun f => L.map fun v => f ++ [v]
  | 0, b => by
    show (L.flatMap fun v => [b ++ [v]]) = [b].flatMap _
    rw [List.flatMap_cons, List.flatMap_nil, List.append_nil]
    induction L with
    | nil => rfl
    | cons x l ih => rw [List.flatMap_cons, List.map_cons, ih] <;> rfl
  | n + 1, b => by
    show (L.flatMap fun v => allX L (n + 1) (b ++ [v])) = (L.flatMap fun v => allX L n (b ++ [v])).flatMap _
    rw [fm_assoc]
    congr 1
    funext v
    exact allX_step L n (b ++ [v])
theorem pics_all (L : List Int) : ∀ n, picsL L n = allX L n []
  | 0 => rfl
  | n + 1 => by
    show (picsL L n).flatMap _ = _
    rw [pics_all L n, allX_step]
theorem allX_mem {L : List Int} : ∀ {n : Nat} {b p : List Int}, p ∈ allX L n b → ∃ s, p = b ++ s ∧ s.length = n ∧ ∀ x ∈ s, x ∈ L
  | 0, b, p, h => ⟨[], by rw [List.mem_singleton.mp h, List.append_nil], rfl, fun x hx => absurd hx List.not_mem_nil⟩
  | n + 1, b, p, h => by
    obtain ⟨v, hv, h⟩ := List.mem_flatMap.mp (show p ∈ L.flatMap fun v => allX L n (b ++ [v]) from h)
    obtain ⟨s, rfl, e, hs⟩ := allX_mem h
    refine ⟨v :: s, by rw [List.append_assoc] <;> rfl, by rw [List.length_cons, e], fun x hx => ?_⟩
    rcases List.mem_cons.mp hx with rfl | hx
    · exact hv
    · exact hs x hx
def stepB (m : Mdl) (p : List Int) (j : Nat) : Bool := goesB m (p.take j) (gI p j)
theorem gI_at {b s : List Int} {v : Int} : gI (b ++ v :: s) (b.length : Nat) = v := by
  unfold gI
  rw [Int.toNat_natCast, List.getD_eq_getElem?_getD, List.getElem?_append_right (Nat.le_refl _), Nat.sub_self] <;> rfl
theorem gI_left {b s : List Int} {i : Int} (h : i < b.length) (h0 : 0 ≤ i) : gI (b ++ s) i = gI b i := by
  unfold gI
  rw [List.getD_eq_getElem?_getD, List.getD_eq_getElem?_getD, List.getElem?_append_left (by omega)]
theorem all_range' (f : Nat → Bool) (a n : Nat) : (List.range' a (n + 1)).all f = (f a && (List.range' (a + 1) n).all f) := by
  rw [List.range'_succ, List.all_cons]
theorem ext_all (m : Mdl) : ∀ (n : Nat) (b : List Int), ext m n b = (allX (valsM m) n b).filter fun p => (List.range' b.length n).all (stepB m p)
  | 0, b => rfl
  | n + 1, b => by
    show ((valsM m).flatMap fun v => if goesB m b v = true then ext m n (b ++ [v]) else []) = ((valsM m).flatMap fun v => allX (valsM m) n (b ++ [v])).filter _
    rw [List.filter_flatMap]
    congr 1
    funext v
    have key : ∀ p ∈ allX (valsM m) n (b ++ [v]), (List.range' b.length (n + 1)).all (stepB m p) = (goesB m b v && (List.range' (b ++ [v]).length n).all (stepB m p)) := fun p hp => by
      obtain ⟨s, rfl, _⟩ := allX_mem hp
      rw [all_range', List.length_append]
      congr 1
      unfold stepB
      rw [List.append_assoc, List.take_left]
      exact congrArg (goesB m b) gI_at
    rw [List.filter_congr key]
    cases c : goesB m b v with
    | true =>
      rw [if_pos rfl, ext_all m n (b ++ [v])]
      refine List.filter_congr fun p _ => ?_
      rw [Bool.true_and]
    | false =>
      rw [if_neg Bool.false_ne_true]
      exact (List.filter_eq_nil_iff.mpr fun p _ => by rw [Bool.false_and]; exact Bool.false_ne_true).symm
/-- a right model's facts -/
structure MOk (m : Mdl) : Prop where
  m1 : 1 ≤ m.many
  m12 : m.many ≤ 12
  l1 : 1 ≤ m.levels
  l4 : m.levels ≤ 4
  wl : (m.ws.length : Int) = m.many
  wr : ∀ l ∈ m.ws, (l.length : Int) = m.levels ∧ ∀ x ∈ l, 0 ≤ x ∧ x ≤ 1000
  tn : m.ts.length ≤ 144
  tt : ∀ t ∈ m.ts, 0 ≤ t.1.1 ∧ t.1.1 < t.1.2 ∧ t.1.2 < m.many ∧ (t.2.length : Int) = m.levels ∧ ∀ l ∈ t.2, (l.length : Int) = m.levels ∧ ∀ x ∈ l, 0 ≤ x ∧ x ≤ 1000
theorem MOk.of {m : Mdl} (sm : MdlSm m) (wr : wrongM m = none) : MOk m := by
  obtain ⟨c1, c2, c3, c4, _⟩ := wrong_ok wr
  obtain ⟨w1, w2⟩ := tab_rows c3
  refine ⟨c1.1, c1.2, c2.1, c2.2, w1, fun l hl => ⟨(w2 l hl).1, (sm.wr l hl).2.2⟩, sm.tl, fun t ht => ?_⟩
  obtain ⟨i, hi⟩ := List.mem_iff_getElem?.mp ht
  obtain ⟨g1, _⟩ := gT_get (c4 i (List.getElem?_eq_some_iff.mp hi).1) hi
  unfold tieB at g1
  simp only [Bool.and_eq_true, decide_eq_true_eq] at g1
  obtain ⟨a, b, c, d, e⟩ := sm.tr t ht
  obtain ⟨r1, r2⟩ := tab_rows g1.2.2
  exact ⟨a.1, g1.2.1, g1.1, r1, fun l hl => ⟨(r2 l hl).1, (e l hl).2.2⟩⟩
theorem gI_nn {l : List Int} (h : ∀ x ∈ l, 0 ≤ x ∧ x ≤ 1000) (i : Int) : 0 ≤ gI l i ∧ gI l i ≤ 1000 := by
  unfold gI
  rw [List.getD_eq_getElem?_getD]
  cases e : l[i.toNat]? with
  | none => exact ⟨by decide, by decide⟩
  | some x => exact h x (List.mem_of_getElem? e)
theorem wv_nn {m : Mdl} (ok : MOk m) (j : Nat) (v : Int) : 0 ≤ wv m j v ∧ wv m j v ≤ 1000 := by
  unfold wv
  refine gI_nn (fun x hx => ?_) v
  rw [List.getD_eq_getElem?_getD] at hx
  cases e : m.ws[j]? with
  | none => rw [e] at hx; exact absurd hx List.not_mem_nil
  | some l => rw [e] at hx; exact (ok.wr l (List.mem_of_getElem? e)).2 x hx
theorem tv_nn {m : Mdl} (ok : MOk m) {t : Tie} (ht : t ∈ m.ts) (a b : Int) : 0 ≤ tv t a b ∧ tv t a b ≤ 1000 := by
  unfold tv gR
  refine gI_nn (fun x hx => ?_) b
  rw [List.getD_eq_getElem?_getD] at hx
  cases e : t.2[a.toNat]? with
  | none => rw [e] at hx; exact absurd hx List.not_mem_nil
  | some l => rw [e] at hx; exact ((ok.tt t ht).2.2.2.2 l (List.mem_of_getElem? e)).2 x hx
/-! ### the product -/
def wtW (m : Mdl) (p : List Int) : Nat → Int
  | 0 => 1
  | k + 1 => wtW m p k * wv m k (gI p k)
def wtT (p : List Int) (a : Int) (ts : List Tie) : Int := ts.foldl (fun a t => a * tv t (gI p t.1.1) (gI p t.1.2)) a
def wt (m : Mdl) (p : List Int) : Int := wtT p (wtW m p m.many.toNat) m.ts
theorem wtT_snoc {p : List Int} {a : Int} {ts : List Tie} {i : Nat} {t : Tie} (h : ts[i]? = some t) : wtT p a (ts.take (i + 1)) = wtT p a (ts.take i) * tv t (gI p t.1.1) (gI p t.1.2) := by
  unfold wtT
  rw [List.take_add_one, h, List.foldl_append] <;> rfl
theorem mul_pos' {a b : Int} (ha : 0 ≤ a) (hb : 0 ≤ b) : 0 < a * b ↔ 0 < a ∧ 0 < b := by
  constructor
  · intro h
    refine ⟨?_, ?_⟩
    · rcases Int.lt_or_eq_of_le ha with z | z
      · exact z
      · rw [← z, Int.zero_mul] at h; omega
    · rcases Int.lt_or_eq_of_le hb with z | z
      · exact z
      · rw [← z, Int.mul_zero] at h; omega
  · rintro ⟨h1, h2⟩
    exact Int.mul_pos h1 h2
theorem wtW_nn {m : Mdl} (ok : MOk m) (p : List Int) : ∀ k, 0 ≤ wtW m p k ∧ (0 < wtW m p k ↔ ∀ j, j < k → 0 < wv m j (gI p j))
  | 0 => ⟨by show (0 : Int) ≤ 1; decide, fun _ j hj => absurd hj (Nat.not_lt_zero _), fun _ => by show (0 : Int) < 1; decide⟩
  | k + 1 => by
    obtain ⟨h1, h2⟩ := wtW_nn ok p k
    obtain ⟨h3, _⟩ := wv_nn ok k (gI p k)
    refine ⟨Int.mul_nonneg h1 h3, ?_⟩
    show 0 < wtW m p k * wv m k (gI p k) ↔ _
    rw [mul_pos' h1 h3, h2]
    constructor
    · rintro ⟨a, b⟩ j hj
      by_cases c : j = k
      · rw [c]; exact b
      · exact a j (by omega)
    · exact fun a => ⟨fun j hj => a j (by omega), a k (by omega)⟩
theorem wtT_nn (p : List Int) : ∀ {ts : List Tie} {a : Int}, 0 ≤ a → (∀ t ∈ ts, 0 ≤ tv t (gI p t.1.1) (gI p t.1.2)) → 0 ≤ wtT p a ts ∧ (0 < wtT p a ts ↔ 0 < a ∧ ∀ t ∈ ts, 0 < tv t (gI p t.1.1) (gI p t.1.2))
  | [], a, h, _ => ⟨h, fun z => ⟨z, fun t ht => absurd ht List.not_mem_nil⟩, fun z => z.1⟩
  | t :: ts, a, h, g => by
    have h3 := g t List.mem_cons_self
    obtain ⟨h1, h2⟩ := wtT_nn p (ts := ts) (Int.mul_nonneg h h3) fun u hu => g u (List.mem_cons_of_mem _ hu)
    refine ⟨h1, ?_⟩
    show 0 < wtT p (a * tv t (gI p t.1.1) (gI p t.1.2)) ts ↔ _
    rw [h2, mul_pos' h h3]
    constructor
    · rintro ⟨⟨x, y⟩, z⟩
      refine ⟨x, fun u hu => ?_⟩
      rcases List.mem_cons.mp hu with rfl | hu
      · exact y
      · exact z u hu
    · rintro ⟨x, y⟩
      exact ⟨⟨x, y t List.mem_cons_self⟩, fun u hu => y u (List.mem_cons_of_mem _ hu)⟩
theorem wt_pos {m : Mdl} (ok : MOk m) (p : List Int) : 0 < wt m p ↔ (∀ j, j < m.many.toNat → 0 < wv m j (gI p j)) ∧ ∀ t ∈ m.ts, 0 < tv t (gI p t.1.1) (gI p t.1.2) := by
  unfold wt
  obtain ⟨h1, h2⟩ := wtW_nn ok p m.many.toNat
  rw [(wtT_nn p h1 fun t ht => (tv_nn ok ht _ _).1).2, h2]
theorem gI_take {p : List Int} {j : Nat} {i : Int} (h0 : 0 ≤ i) (h : i < j) : gI (p.take j) i = gI p i := by
  unfold gI
  rw [List.getD_eq_getElem?_getD, List.getD_eq_getElem?_getD, List.getElem?_take, if_pos (by omega)]
/-- what fits, as the list of those that weigh more than 0 -/
theorem step_iff {m : Mdl} (ok : MOk m) {p : List Int} (hp : p.length = m.many.toNat) : (List.range' 0 m.many.toNat).all (stepB m p) = decide (0 < wt m p) := by
  have len : ∀ j, j < m.many.toNat → (p.take j).length = j := fun j hj => by rw [List.length_take]; omega
  rw [Bool.eq_iff_iff, decide_eq_true_eq, List.all_eq_true, wt_pos ok]
  have tie : ∀ t ∈ m.ts, goesT (p.take t.1.2.toNat) (gI p t.1.2.toNat) t = true ↔ 0 < tv t (gI p t.1.1) (gI p t.1.2) := fun t ht => by
    obtain ⟨a, b, c, _⟩ := ok.tt t ht
    have lj := len t.1.2.toNat (by omega)
    unfold goesT
    rw [lj, decide_eq_true (by omega : t.1.2 = ((t.1.2.toNat : Nat) : Int)), Bool.not_true, Bool.false_or, gI_take a (by omega), show ((t.1.2.toNat : Nat) : Int) = t.1.2 by omega]
    have := (tv_nn ok ht (gI p t.1.1) (gI p t.1.2)).1
    rw [Bool.not_eq_true', decide_eq_false_iff_not]
    omega
  constructor
  · intro h
    have get : ∀ j, j < m.many.toNat → 0 < wv m j (gI p j) ∧ ∀ t ∈ m.ts, goesT (p.take j) (gI p j) t = true := fun j hj => by
      have z := h j (by rw [List.mem_range'_1]; omega)
      unfold stepB goesB at z
      rw [Bool.and_eq_true, decide_eq_true_eq, List.all_eq_true, len j hj] at z
      exact z
    refine ⟨fun j hj => (get j hj).1, fun t ht => ?_⟩
    obtain ⟨a, b, c, _⟩ := ok.tt t ht
    exact (tie t ht).mp ((get t.1.2.toNat (by omega)).2 t ht)
  · rintro ⟨h1, h2⟩ j hj
    rw [List.mem_range'_1] at hj
    have hj : j < m.many.toNat := by omega
    unfold stepB goesB
    rw [Bool.and_eq_true, decide_eq_true_eq, List.all_eq_true, len j hj]
    refine ⟨h1 j hj, fun t ht => ?_⟩
    by_cases c : t.1.2 = (j : Int)
    · have e : j = t.1.2.toNat := by omega
      rw [e]
      exact (tie t ht).mpr (h2 t ht)
    · unfold goesT
      rw [len j hj, decide_eq_false c] <;> rfl
theorem ext_fits {m : Mdl} (ok : MOk m) : ext m m.many.toNat [] = (picsL (valsM m) m.many.toNat).filter fun p => decide (0 < wt m p) := by
  rw [ext_all, pics_all]
  refine List.filter_congr fun p hp => ?_
  obtain ⟨s, rfl, e, _⟩ := allX_mem hp
  exact step_iff ok e
/-! ### what has no end -/
def keyL (m : Mdl) (b : List Int) : List Int := (m.ts.filter fun t => decide (t.1.1 < (b.length : Int)) && decide ((b.length : Int) ≤ t.1.2)).map fun t => gI b t.1.1
def Agree (m : Mdl) (b c : List Int) : Prop := b.length = c.length ∧ ∀ t ∈ m.ts, t.1.1 < (b.length : Int) → (b.length : Int) ≤ t.1.2 → gI b t.1.1 = gI c t.1.1
theorem agree_of {m : Mdl} {b c : List Int} (hl : b.length = c.length) (h : keyL m b = keyL m c) : Agree m b c := by
  refine ⟨hl, fun t ht h1 h2 => ?_⟩
  unfold keyL at h
  rw [← hl] at h
  exact List.map_inj_left.mp h t (List.mem_filter.mpr ⟨ht, by rw [decide_eq_true h1, decide_eq_true h2] <;> rfl⟩)
theorem agree_snoc {m : Mdl} (ok : MOk m) {b c : List Int} (h : Agree m b c) (v : Int) : Agree m (b ++ [v]) (c ++ [v]) := by
  obtain ⟨hl, h⟩ := h
  refine ⟨by rw [List.length_append, List.length_append, hl], fun t ht h1 h2 => ?_⟩
  rw [List.length_append] at h1 h2
  have h1 : t.1.1 < ((b.length + 1 : Nat) : Int) := h1
  have h2 : ((b.length + 1 : Nat) : Int) ≤ t.1.2 := h2
  have t0 := (ok.tt t ht).1
  by_cases e : t.1.1 = (b.length : Int)
  · have e2 : t.1.1 = (c.length : Int) := by rw [e, hl]
    have z1 : gI (b ++ [v]) t.1.1 = v := by rw [e]; exact gI_at
    have z2 : gI (c ++ [v]) t.1.1 = v := by rw [e2]; exact gI_at
    rw [z1, z2]
  · rw [gI_left (by omega) t0, gI_left (by omega) t0]
    exact h t ht (by omega) (by omega)
theorem agree_goes {m : Mdl} (ok : MOk m) {b c : List Int} (h : Agree m b c) (v : Int) : goesB m b v = goesB m c v := by
  obtain ⟨hl, h⟩ := h
  unfold goesB
  rw [hl]
  congr 1
  rw [Bool.eq_iff_iff, List.all_eq_true, List.all_eq_true]
  have one : ∀ t ∈ m.ts, goesT b v t = goesT c v t := fun t ht => by
    unfold goesT
    rw [hl]
    by_cases e : t.1.2 = (c.length : Int)
    · obtain ⟨_, t1, _⟩ := ok.tt t ht
      rw [h t ht (by omega) (by omega)]
    · rw [decide_eq_false e] <;> rfl
  exact ⟨fun z t ht => by rw [← one t ht]; exact z t ht, fun z t ht => by rw [one t ht]; exact z t ht⟩
theorem ext_nil {m : Mdl} (ok : MOk m) : ∀ (n : Nat) {b c : List Int}, Agree m b c → ext m n b = [] → ext m n c = []
  | 0, b, c, _, h => by cases h
  | n + 1, b, c, h, e => by
    have e : ((valsM m).flatMap fun v => if goesB m b v = true then ext m n (b ++ [v]) else []) = [] := e
    show ((valsM m).flatMap fun v => if goesB m c v = true then ext m n (c ++ [v]) else []) = []
    rw [List.flatMap_eq_nil_iff] at e ⊢
    intro v hv
    have z := e v hv
    rw [← agree_goes ok h v]
    by_cases g : goesB m b v = true
    · rw [if_pos g] at z ⊢
      exact ext_nil ok n (agree_snoc ok h v) z
    · rw [if_neg g]
def DeadOk (m : Mdl) (ks : List NKey) : Prop := ∀ k ∈ ks, ∀ b : List Int, (b.length : Int) = k.1 → keyL m b = k.2 → ext m (m.many.toNat - b.length) b = []
theorem DeadOk.put {m : Mdl} (ok : MOk m) {ks ks' : List NKey} (h : DeadOk m ks) {b : List Int} (hb : ext m (m.many.toNat - b.length) b = []) (hk : ∀ q, q ∈ ks' ↔ q ∈ ks ∨ q = ((b.length : Int), keyL m b)) : DeadOk m ks' := fun k hk' c h1 h2 => by
  rcases (hk k).mp hk' with z | rfl
  · exact h k z c h1 h2
  · have hl : b.length = c.length := by have : (c.length : Int) = (b.length : Int) := h1; omega
    rw [← hl]
    exact ext_nil ok _ (agree_of hl h2.symm) hb
/-- how many may be put in -/
def addN : Nat → Nat
  | 0 => 0
  | n + 1 => 1 + 4 * addN n
theorem ext_mem {m : Mdl} {n : Nat} {b p : List Int} (h : p ∈ ext m n b) : ∃ s, p = b ++ s ∧ s.length = n ∧ ∀ x ∈ s, 0 ≤ x ∧ x < m.levels := by
  rw [ext_all] at h
  obtain ⟨s, h1, h2, h3⟩ := allX_mem (List.mem_filter.mp h).1
  refine ⟨s, h1, h2, fun x hx => ?_⟩
  obtain ⟨i, hi, rfl⟩ := List.mem_map.mp (h3 x hx)
  have := List.mem_range.mp hi
  exact ⟨by omega, by omega⟩
theorem take_more {α : Type} {A B : List α} {n : Nat} (h : (A.take n).length < n) : (A ++ B).take n = A.take n ++ B.take (n - (A.take n).length) := by
  rw [List.length_take] at h ⊢
  rw [List.take_append]
  congr 2
  omega
theorem take_full {α : Type} {A B : List α} {n : Nat} (h : ¬ (A.take n).length < n) : (A ++ B).take n = A.take n := by
  rw [List.length_take] at h
  rw [List.take_append, show n - A.length = 0 by omega, List.take_zero, List.append_nil]
/-! ### one behind another -/
theorem lex_pre (b : List Int) {v u : Int} (h : v < u) (s r : List Int) : HT.lexLt (b ++ v :: s) (b ++ u :: r) = true := by
  induction b with
  | nil =>
    show HT.lexLt (v :: s) (u :: r) = true
    rw [HT.lexLt_cons, if_neg (by omega)]
    exact decide_eq_true h
  | cons x b ih =>
    show HT.lexLt (x :: (b ++ v :: s)) (x :: (b ++ u :: r)) = true
    rw [HT.lexLt_cons, if_pos rfl]
    exact ih
theorem allX_asc {L : List Int} (hL : L.Pairwise (· < ·)) : ∀ (n : Nat) (b : List Int), (allX L n b).Pairwise fun x y => HT.lexLt x y = true
  | 0, b => List.pairwise_singleton _ _
  | n + 1, b => by
    show (L.flatMap fun v => allX L n (b ++ [v])).Pairwise _
    rw [List.pairwise_flatMap]
    refine ⟨fun v _ => allX_asc hL n (b ++ [v]), hL.imp fun {v u} hvu x hx y hy => ?_⟩
    obtain ⟨s, rfl, _⟩ := allX_mem hx
    obtain ⟨r, rfl, _⟩ := allX_mem hy
    rw [List.append_assoc, List.append_assoc]
    exact lex_pre b hvu s r
theorem vals_asc (m : Mdl) : (valsM m).Pairwise (· < ·) := by
  unfold valsM
  rw [List.pairwise_map]
  exact List.pairwise_lt_range.imp fun {a b} h => by omega
theorem ext_asc (m : Mdl) (n : Nat) : (ext m n []).Pairwise fun x y => HT.lexLt x y = true := by
  rw [ext_all]
  exact (allX_asc (vals_asc m) n []).filter _
end L2
namespace Law
open PySem L2
theorem atI_gI {l : List Int} {i : Int} (h0 : 0 ≤ i) (h : i < (l.length : Int)) : atI (l.map V.int) i = some (.int (gI l i)) := by
  obtain ⟨n, rfl⟩ := Int.eq_ofNat_of_zero_le h0
  refine atI_nat ?_
  unfold gI
  have hn : n < l.length := by omega
  rw [List.getElem?_map, Int.toNat_natCast, List.getD_eq_getElem?_getD, List.getElem?_eq_getElem hn] <;> rfl
theorem gI_get {l : List Int} {i : Nat} {x : Int} (h : l[i]? = some x) : gI l (i : Nat) = x := by
  unfold gI
  rw [Int.toNat_natCast, List.getD_eq_getElem?_getD, h] <;> rfl
theorem gI_in {l : List Int} {i : Int} {lo hi : Int} (h0 : 0 ≤ i) (h : i < (l.length : Int)) (g : ∀ x ∈ l, lo ≤ x ∧ x < hi) : lo ≤ gI l i ∧ gI l i < hi := by
  obtain ⟨n, rfl⟩ := Int.eq_ofNat_of_zero_le h0
  have hn : n < l.length := by omega
  rw [gI_get (List.getElem?_eq_getElem hn)]
  exact g _ (List.getElem_mem hn)
/-- a row of a table -/
theorem row_at {K : PySem.W.Frag} {H : Hp} {vs : List V} {t : List (List Int)} (h : AllIn (RowAt K H) vs t) {i : Int} (h0 : 0 ≤ i) (hl : i < (t.length : Int)) : ∃ a, atI vs i = some (.ref a) ∧ SqT K H a ((gR t i).map V.int) ∧ gR t i ∈ t := by
  obtain ⟨n, rfl⟩ := Int.eq_ofNat_of_zero_le h0
  have hn : n < vs.length := by rw [h.1]; omega
  obtain ⟨l, hl1, a, e, hS⟩ := h.2 n _ (List.getElem?_eq_getElem hn)
  have eg : gR t ((n : Nat) : Int) = l := by
    unfold gR
    rw [Int.toNat_natCast, List.getD_eq_getElem?_getD, hl1] <;> rfl
  refine ⟨a, atI_nat (by rw [List.getElem?_eq_getElem hn, e]), by rw [eg]; exact hS, by rw [eg]; exact List.mem_of_getElem? hl1⟩
theorem wv_gR (m : Mdl) (i : Nat) (v : Int) : wv m i v = gI (gR m.ws (i : Nat)) v := by
  unfold wv gR
  rw [Int.toNat_natCast]
theorem ei (x y : Int) : decide (V.int x = V.int y) = decide (x = y) := decide_eq_decide.mpr ⟨fun z => V.int.inj z, fun z => by rw [z]⟩
/-- a picture of the model -/
abbrev PicOk (m : Mdl) (p : List Int) : Prop := (p.length : Int) = m.many ∧ ∀ x ∈ p, 0 ≤ x ∧ x < m.levels
theorem pic_row {m : Mdl} {p : List Int} (h : PicOk m p) : (rowI m.levels p && decide ((p.length : Int) = m.many)) = true := by
  rw [decide_eq_true h.1, Bool.and_true]
  unfold rowI
  rw [List.all_eq_true]
  intro x hx
  obtain ⟨a, b⟩ := h.2 x hx
  rw [decide_eq_true a, decide_eq_true (show x ≤ m.levels - 1 by omega)] <;> rfl
theorem mod_get {K : PySem.W.Frag} {C : Addr} {H : Hp} {q : Addr} {m : Mdl} (h : ModAt K C H q m) : ∃ dx wa ta wvs tvs, H q = some (.ins C dx (modF m.many m.levels wa ta)) ∧ SqT K H wa wvs ∧ AllIn (RowAt K H) wvs m.ws ∧ SqT K H ta tvs ∧ AllIn (TieAt K H) tvs m.ts := by
  obtain ⟨dx, wa, ta, h1, ⟨wvs, h2, h3⟩, tvs, h4, h5⟩ := h
  exact ⟨dx, wa, ta, wvs, tvs, h1, h2, h3, h4, h5⟩
theorem notin_goes {m : Mdl} (b : List Int) (v : Int) : ∀ ts : List Tie, (!inV (.int 0) ((ts.filter fun t => decide (t.1.2 = (b.length : Int))).map fun t => V.int (tv t (gI b t.1.1) v))) = ts.all (goesT b v)
  | [] => rfl
  | t :: ts => by
    have ih := notin_goes (m := m) b v ts
    rw [List.all_cons, ← ih, List.filter_cons]
    unfold goesT
    by_cases c : t.1.2 = (b.length : Int)
    · rw [decide_eq_true c, if_pos rfl, List.map_cons]
      unfold inV
      rw [List.any_cons, Bool.not_or]
      show (!decide (tv t (gI b t.1.1) v = 0) && _) = ((!true || _) && _)
      rw [Bool.not_true, Bool.false_or]
    · rw [decide_eq_false c, if_neg Bool.false_ne_true, Bool.not_false, Bool.true_or, Bool.true_and]
section
variable {P : Program} {w : World} {K : PySem.W.Frag} {mg : Str → Option Value} {base : Heap}
def spIsPic (K : PySem.W.Frag) (C : Addr) : Sp := fun vs H Q _ => ∃ (q b : Addr) (m : Mdl) (l : List Int), vs = [.ref q, .ref b] ∧ ModAt K C H q m ∧ SqT K H b (l.map V.int) ∧ l.length ≤ 16000000 ∧ ∀ H', Same H H' → Q (.bl (rowI m.levels l && decide ((l.length : Int) = m.many))) H'
abbrev nIsPicture : List Str := ["model", "thing"]
theorem scIsPicture : FnScope nIsPicture ["model", "thing"] (defScope s_is_picture) := ⟨rfl, rfl, rfl, by decide +kernel, rfl, by decide +kernel, by decide +kernel⟩
theorem ok_is_picture {f : Addr} {fd : FuncData} {fcRowI : Addr} {fdcRowI : FuncData} {C : Addr} (F : Fun K "is_picture" "is_picture" s_is_picture f fd) (T : NmA mg) (cRowI : Cl P w K mg base CX0 3 "is_row_below" fcRowI fdcRowI ["bound", "thing"] (spRowI K)) (S : ModT K mg C) : FnOk P w K mg base CX0 4 f fd ["model", "thing"] (spIsPic K C) := by
  refine F.ok scIsPicture (fun vs H Q E h => ?_) (fun cdv A' outer s H vs Q E hr h => ?_)
  · obtain ⟨q, b, m, l, rfl, _⟩ := h
    rfl
  · obtain ⟨q, b, m, l, rfl, hM, hS, ll, k⟩ := h
    refine ⟨_, pss_one (ps_ret (pe_and (cRowI.call (hr.mono (by decide)) (pa_cons (pe_fld (pv 0) rfl) (pa_cons (pv 1) pa_nil))) (pe_one (pe_cmpR op_eq (pe_callB call_len_seq (by rfl) T.len PySem.boot_len (pa_cons (pv 1) pa_nil)) (pe_fld (pv 0) rfl) (nomark _))))), ?_⟩
    obtain ⟨dx, wa, ta, hq, _⟩ := id hM
    refine ⟨_, rfl, q, C, dx, _, _, rfl, hq, S.cl, S.nL, modF_levels _ _ _ _, _, rfl, m.levels, b, l, rfl, hS, ll, fun H1 s1 => ⟨_, rfl, ?_⟩⟩
    cases c : rowI m.levels l with
    | false =>
      rw [c, Bool.false_and] at k
      exact iteF (k H1 s1)
    | true =>
      rw [c, Bool.true_and] at k
      refine iteT ⟨_, rfl, b, _, rfl, .inr (s1.sqT hS), _, rfl, q, C, dx, _, _, rfl, s1 _ _ hq, S.cl, S.nK, modF_many _ _ _ _, rfl, ?_⟩
      rw [ei, List.length_map]
      exact k H1 s1
def spWeight (K : PySem.W.Frag) (C : Addr) : Sp := fun vs H Q _ => ∃ (q b : Addr) (m : Mdl) (p : List Int), vs = [.ref q, .ref b] ∧ ModAt K C H q m ∧ MOk m ∧ SqT K H b (p.map V.int) ∧ PicOk m p ∧ ∀ H', Same H H' → Q (.int (wt m p)) H'
abbrev nWeight : List Str := ["model", "picture", "found", "value", "row", "one", "other", "table"]
theorem scWeight : FnScope nWeight ["model", "picture"] (defScope s_weight) := ⟨rfl, rfl, rfl, by decide +kernel, rfl, by decide +kernel, by decide +kernel⟩
theorem ok_weight {f : Addr} {fd : FuncData} {fcIsPic : Addr} {fdcIsPic : FuncData} {C : Addr} (F : Fun K "weight" "weight" s_weight f fd) (T : NmA mg) (cIsPic : Cl P w K mg base CX0 4 "is_picture" fcIsPic fdcIsPic ["model", "thing"] (spIsPic K C)) (S : ModT K mg C) : FnOk P w K mg base CX0 5 f fd ["model", "picture"] (spWeight K C) := by
  refine F.ok scWeight (fun vs H Q E h => ?_) (fun cdv A' outer s H vs Q E hr h => ?_)
  · obtain ⟨q, b, m, p, rfl, _⟩ := h
    rfl
  · obtain ⟨q, b, m, p, rfl, hM, ok, hS, hp, k⟩ := h
    refine ⟨_, pss_cons (ps_if (pt_not (pt_val (cIsPic.call (hr.mono (by decide)) (pa_cons (pv 0) (pa_cons (pv 1) pa_nil)))))
        pss_never pss_nil)
      (pss_cons (ps_set (i := 2) scWeight.nd rfl (Or.inl rfl) pe_int)
      (pss_cons (ps_for PassesOwn.never rfl (RZ.pi_zipA (by rfl) T.zip (pa_cons (pv 1) (pa_cons (pe_fld (pv 0) rfl) pa_nil))) (pg_tup (by rfl) (pgs_cons (pg_name (i := 3) scWeight.nd rfl (Or.inl rfl)) (pgs_cons (pg_name (i := 4) scWeight.nd rfl (Or.inl rfl)) pgs_nil)))
        (pss_one (ps_set (i := 2) scWeight.nd rfl (Or.inl rfl) (pe_op op_mul (pv 2) (pe_ix ix_tup (pv 4) (pv 3) (fun _ _ => rfl))))))
      (pss_cons (ps_for PassesOwn.never rfl (pi_tup (pe_fld (pv 0) rfl)) (pg_tup (by rfl) (pgs_cons (pg_name (i := 5) scWeight.nd rfl (Or.inl rfl)) (pgs_cons (pg_name (i := 6) scWeight.nd rfl (Or.inl rfl)) (pgs_cons (pg_name (i := 7) scWeight.nd rfl (Or.inl rfl)) pgs_nil))))
        (pss_one (ps_set (i := 2) scWeight.nd rfl (Or.inl rfl) (pe_op op_mul (pv 2) (pe_ix ix_tup (pe_ix ix_tup (pv 7) (pe_ix ix_tup (pv 1) (pv 5) (fun _ _ => rfl)) (fun _ _ => rfl)) (pe_ix ix_tup (pv 1) (pv 6) (fun _ _ => rfl)) (fun _ _ => rfl))))))
      (pss_one (ps_ret (pv 2)))))), ?_⟩
    have pl : p.length ≤ 16000000 := by have := hp.1; have := ok.m12; omega
    refine ⟨_, rfl, _, rfl, q, b, m, p, rfl, hM, hS, pl, fun H1 s1 => ⟨_, rfl, ?_⟩⟩
    rw [pic_row hp]
    refine iteF ?_
    have hM1 := hM.same s1
    have hS1 := s1.sqT hS
    obtain ⟨dx, wa, ta, wvs, tvs, hq, hW, aW, hT, aT⟩ := mod_get hM1
    have wl : (p.map V.int).length = wvs.length := by rw [List.length_map, aW.1]; have := hp.1; have := ok.wl; omega
    refine ⟨_, rfl, _, rfl, q, C, dx, _, _, rfl, hq, S.cl, S.nW, modF_weights _ _ _ _, b, wa, _, _, rfl, .inr ⟨hS1, hW, RZ.for_zipT wl (fun i σ H' => Same H1 H' ∧ ∃ u1 u2 : Option V, σ = [some (.ref q), some (.ref b), some (.int (wtW m p i)), u1, u2, none, none, none]) ⟨Same.refl _, none, none, rfl⟩ (fun i σ H' h => ⟨h.1.sqT hS1, h.1.sqT hW⟩) ?_ ?_⟩⟩
    · rintro i x y T σ H2 hx hy ⟨s2, u1, u2, rfl⟩ hT2
      rw [List.getElem?_map] at hx
      obtain ⟨z, hz, rfl⟩ := Option.map_eq_some_iff.mp hx
      obtain ⟨l, hl, a, rfl, ha⟩ := aW.2 i y hy
      have z01 := hp.2 z (List.mem_of_getElem? hz)
      have ll := (ok.wr l (List.mem_of_getElem? hl)).1
      have s3 : Same H2 (upd H2 T (.tup [.int z, .ref a])) := Same.new hT2
      have ha3 := (s2.trans s3).sqT ha
      have ew : wv m i (gI p (i : Nat)) = gI l z := by
        rw [wv_gR, gI_get hz]
        unfold gR
        rw [Int.toNat_natCast, List.getD_eq_getElem?_getD, hl] <;> rfl
      have b1 := wv_nn ok i (gI p (i : Nat))
      rw [ew] at b1
      refine ⟨T, _, rfl, SqT.of upd_same, rfl, _, _, rfl, _, _, rfl, rfl, ?_⟩
      refine ⟨_, rfl, _, rfl, _, rfl, a, _, _, _, rfl, rfl, ha3, atI_gI z01.1 (by omega), _, _, rfl, rfl, .inr ⟨by omega, by omega⟩, s2.trans s3, some (.int z), some (.ref a), ?_⟩
      rw [show wtW m p (i + 1) = wtW m p i * gI l z by rw [← ew] <;> rfl]
      rfl
    · rintro σ H2 ⟨s2, u1, u2, rfl⟩
      have hT2 := s2.sqT hT
      have en : (p.map V.int).length = m.many.toNat := by rw [List.length_map]; have := hp.1; omega
      rw [en]
      refine ⟨_, rfl, q, C, dx, _, _, rfl, s2 _ _ hq, S.cl, S.nT, modF_ties _ _ _ _, ta, rfl, ⟨_, hT2⟩, for_tup (fun i σ H' => Same H2 H' ∧ ∃ u1 u2 u3 u4 u5 : Option V, σ = [some (.ref q), some (.ref b), some (.int (wtT p (wtW m p m.many.toNat) (m.ts.take i))), u1, u2, u3, u4, u5]) ⟨Same.refl _, _, _, _, _, _, rfl⟩ (fun i σ H' _ h => h.1.sqT hT2) ?_ ?_⟩
      · rintro i x σ H3 hi ⟨s3, u1, u2, u3, u4, u5, rfl⟩
        obtain ⟨t, ht, c, d, rfl, hc, vs, hd, aR⟩ := aT.2 i x hi
        obtain ⟨t0, t1, t2, t3, t4⟩ := ok.tt t (List.mem_of_getElem? ht)
        have s13 := s2.trans s3
        have hS3 := s13.sqT hS1
        have p1 := gI_in (lo := 0) (hi := m.levels) t0 (by have := hp.1; omega) hp.2
        have p2 := gI_in (lo := 0) (hi := m.levels) (i := t.1.2) (by omega) (by have := hp.1; omega) hp.2
        obtain ⟨r, r1, r2, r3⟩ := row_at aR (i := gI p t.1.1) p1.1 (by omega)
        have rl := (t4 _ r3).1
        have b1 : 0 ≤ gI (gR t.2 (gI p t.1.1)) (gI p t.1.2) ∧ _ := tv_nn ok (List.mem_of_getElem? ht) (gI p t.1.1) (gI p t.1.2)
        have hl : ∀ {i : Int}, 0 ≤ i → i < m.many → atI (p.map V.int) i = some (.int (gI p i)) := fun h0 h1 => atI_gI h0 (by have := hp.1; omega)
        refine ⟨c, _, rfl, s13.sqT hc, rfl, _, _, rfl, _, _, rfl, _, _, rfl, rfl, ?_⟩
        refine ⟨_, rfl, _, rfl, _, rfl, _, rfl, b, _, _, _, rfl, rfl, hS3, hl t0 (by omega), d, _, _, _, rfl, rfl, s13.sqT hd, r1, _, rfl, _, rfl, b, _, _, _, rfl, rfl, hS3, hl (by omega) t2, r, _, _, _, rfl, rfl, s13.sqT r2, atI_gI p2.1 (by omega), _, _, rfl, rfl, .inr ⟨by omega, by have := b1.2; show gI (gR t.2 (gI p t.1.1)) (gI p t.1.2) < _; have : gI (gR t.2 (gI p t.1.1)) (gI p t.1.2) ≤ 1000 := b1.2; omega⟩, s3, u1, u2, some (.int t.1.1), some (.int t.1.2), some (.ref d), ?_⟩
        rw [wtT_snoc ht]
        rfl
      · rintro σ H3 ⟨s3, u1, u2, u3, u4, u5, rfl⟩
        rw [aT.1, List.take_length]
        exact ⟨_, rfl, k H3 ((s1.trans s2).trans s3)⟩
def spGoes (K : PySem.W.Frag) (C : Addr) : Sp := fun vs H Q _ => ∃ (q b : Addr) (m : Mdl) (g : List Int) (v : Int), vs = [.ref q, .ref b, .int v] ∧ ModAt K C H q m ∧ MOk m ∧ SqT K H b (g.map V.int) ∧ (g.length : Int) < m.many ∧ (∀ x ∈ g, 0 ≤ x ∧ x < m.levels) ∧ 0 ≤ v ∧ v < m.levels ∧ ∀ H', Same H H' → Q (.bl (goesB m g v)) H'
abbrev nGoesOn : List Str := ["model", "begun", "value", "place", "numbers", "one", "other", "table"]
theorem scGoesOn : FnScope nGoesOn ["model", "begun", "value"] (defScope s_goes_on) := ⟨rfl, rfl, rfl, by decide +kernel, rfl, by decide +kernel, by decide +kernel⟩
theorem ok_goes_on {f : Addr} {fd : FuncData} {C : Addr} (F : Fun K "goes_on" "goes_on" s_goes_on f fd) (T : NmA mg) (S : ModT K mg C) : FnOk P w K mg base CX0 1 f fd ["model", "begun", "value"] (spGoes K C) := by
  refine F.ok scGoesOn (fun vs H Q E h => ?_) (fun cdv A' outer s H vs Q E hr h => ?_)
  · obtain ⟨q, b, m, g, v, rfl, _⟩ := h
    rfl
  · obtain ⟨q, b, m, g, v, rfl, hM, ok, hS, gl, gv, v0, v1, k⟩ := h
    have hu := hu_of hr
    refine ⟨_, pss_cons (ps_set (i := 3) scGoesOn.nd rfl (Or.inr rfl) (pe_callB call_len_seq (by rfl) T.len PySem.boot_len (pa_cons (pv 1) pa_nil)))
      (pss_cons (ps_setLc (i := 4) (own := [("one", 5), ("other", 6), ("table", 7)]) (g := (gTup K 3 (gCons (gName 5) (gCons (gName 6) (gCons (gName 7) gNil))))) (tt := _) (by rfl) scGoesOn.nd rfl rfl (sw_true rfl rfl rfl (by decide +kernel)) (pi_tup (pe_fld (pv 0) rfl)) (blkOk_by (own := [("one", 5), ("other", 6), ("table", 7)]) (N := nGoesOn) (sc := defScope s_goes_on) (by decide +kernel)) (fun _ _ _ _ _ => (pg_tup (by rfl) (pgs_cons (pg_name (i := 5) scGoesOn.nd rfl (Or.inl rfl)) (pgs_cons (pg_name (i := 6) scGoesOn.nd rfl (Or.inl rfl)) (pgs_cons (pg_name (i := 7) scGoesOn.nd rfl (Or.inl rfl)) pgs_nil))))) (fun _ _ _ _ _ => (pts_one (pt_cmpR op_eq (pv 6) (pv 3) (nomark _)))) (fun _ _ _ _ _ => (pe_ix (r := rIxT K) (show IxR _ (rIxT K) from ix_tup) (pe_ix (r := rIxT K) (show IxR _ (rIxT K) from ix_tup) (pv 7) (pe_ix (r := rIxT K) (show IxR _ (rIxT K) from ix_tup) (pv 1) (pv 5) (fun _ _ => rfl)) (fun _ _ => rfl)) (pv 2) (fun _ _ => rfl))))
      (pss_one (ps_ret (pe_and (pe_cmpR op_gt (pe_ix ix_tup (pe_ix ix_tup (pe_fld (pv 0) rfl) (pv 3) (fun _ _ => rfl)) (pv 2) (fun _ _ => rfl)) pe_int (nomark _)) (pe_one (pe_cmpR op_notIn_seq pe_int (pv 4) (by rfl))))))), ?_⟩
    obtain ⟨dx, wa, ta, wvs, tvs, hq, hW, aW, hT, aT⟩ := mod_get hM
    have m12 := ok.m12
    refine ⟨_, rfl, b, _, rfl, .inr hS, ?_⟩
    rw [List.length_map]
    refine ⟨_, rfl, q, C, dx, _, _, rfl, hq, S.cl, S.nT, modF_ties _ _ _ _, ta, rfl, ⟨_, hT⟩, fun D hD => ?_⟩
    refine lc_tup (K := K) (a := ta) (xs := tvs) (fun i H' => Same H H' ∧ H' D = some (.lst (((m.ts.take i).filter fun t => decide (t.1.2 = (g.length : Int))).map fun t => V.int (tv t (gI g t.1.1) v)))) ⟨Same.new hD, upd_same⟩ (fun i H' _ h => h.1.sqT hT) ?_ ?_
    · rintro i x H' hi ⟨s1, h1⟩
      obtain ⟨t, ht, c, d, rfl, hc, vs, hd, aR⟩ := aT.2 i x hi
      obtain ⟨t0, t1, t2, t3, t4⟩ := ok.tt t (List.mem_of_getElem? ht)
      have il := (List.getElem?_eq_some_iff.mp ht).1
      have fs := filter_snoc (f := fun t : Tie => decide (t.1.2 = (g.length : Int))) ht
      refine ⟨c, _, rfl, s1.sqT hc, rfl, _, _, rfl, _, _, rfl, _, _, rfl, rfl, ?_⟩
      refine ⟨rfl, _, rfl, _, rfl, rfl, _, rfl, ?_⟩
      rw [ei]
      refine ite2 (fun c1 => ?_) (fun c1 => ?_)
      · rw [if_pos c1] at fs
        have c1 := of_decide_eq_true c1
        have p1 := gI_in (lo := 0) (hi := m.levels) (l := g) (i := t.1.1) t0 (by omega) gv
        obtain ⟨r, r1, r2, r3⟩ := row_at aR (i := gI g t.1.1) p1.1 (by omega)
        have rl := (t4 _ r3).1
        refine ⟨_, rfl, _, rfl, _, rfl, b, _, _, _, rfl, rfl, s1.sqT hS, atI_gI t0 (by omega), d, _, _, _, rfl, rfl, s1.sqT hd, r1, _, rfl, r, _, _, _, rfl, rfl, s1.sqT r2, atI_gI v0 (by omega), _, h1, ?_, s1.mut hD, ?_⟩
        · have z := List.length_filter_le (fun t : Tie => decide (t.1.2 = (g.length : Int))) (m.ts.take i)
          have := ok.tn
          rw [List.length_take] at z
          rw [List.length_map]
          exact small1000 (by omega)
        · rw [upd_same, fs, List.map_append] <;> rfl
      · rw [if_neg c1, List.append_nil] at fs
        exact ⟨s1, by rw [fs]; exact h1⟩
    · rintro H' ⟨s1, h1⟩
      rw [aT.1, List.take_length] at h1
      obtain ⟨r, r1, r2, r3⟩ := row_at aW (i := (g.length : Int)) (by omega) (by have := ok.wl; omega)
      have rl := (ok.wr _ r3).1
      refine ⟨_, rfl, q, C, dx, _, _, rfl, s1 _ _ hq, S.cl, S.nW, modF_weights _ _ _ _, _, rfl, wa, _, _, _, rfl, rfl, s1.sqT hW, r1, _, rfl, r, _, _, _, rfl, rfl, s1.sqT r2, atI_gI v0 (by omega), _, _, rfl, rfl, _, rfl, ?_⟩
      rw [← wv_gR]
      unfold goesB at k
      rw [← notin_goes (m := m)] at k
      change (if decide (0 < wv m g.length v) = true then _ else _)
      cases c : decide (0 < wv m g.length v) with
      | false =>
        rw [c, Bool.false_and] at k
        exact iteF (k H' s1)
      | true =>
        rw [c, Bool.true_and] at k
        refine iteT ⟨_, rfl, D, _, rfl, .inl (SqL.of h1), rfl, ?_, ?_⟩
        · rw [List.all_map, List.all_eq_true]
          exact fun _ _ => rfl
        · rw [if_pos rfl]
          exact k H' s1
end
end Law

namespace L2
open PySem
def IsX (H : Hp) (d : Addr) : Prop := ∃ φ, H d = some (.ext φ)
section
variable {H H' : Hp} {d : Addr}
theorem NDic.ext {P : Program} {w : World} {ks : List NKey} (h : NDic P w H d ks) : IsX H d := by
  obtain ⟨xs, _, e, _⟩ := h
  exact ⟨_, e⟩
theorem NDic.same {P : Program} {w : World} {ks : List NKey} (h : NDic P w H d ks) (s : Same H H') : NDic P w H' d ks := by
  obtain ⟨xs, h1, h2, h3⟩ := h
  refine ⟨xs, h1, s _ _ h2, fun x hx => ?_⟩
  obtain ⟨c, z1, z2⟩ := h3 x hx
  exact ⟨c, s _ _ z1, s _ _ z2⟩
theorem NDic.updL {P : Program} {w : World} {ks : List NKey} {F : Addr} {acc : List V} {o : HO} (h : NDic P w H d ks) (hF : H F = some (.lst acc)) : NDic P w (upd H F o) d ks := by
  obtain ⟨xs, h1, h2, h3⟩ := h
  refine ⟨xs, h1, by rw [upd_ne (ne_of h2 hF (by intro z; cases z))]; exact h2, fun x hx => ?_⟩
  obtain ⟨c, z1, z2⟩ := h3 x hx
  exact ⟨c, by rw [upd_ne (ne_of z1 hF (by intro z; cases z))]; exact z1, by rw [upd_ne (ne_of z2 hF (by intro z; cases z))]; exact z2⟩
end
end L2
namespace Law
open PySem L2
/-! ### all stands but the dict at d -/
def Exc (d : Addr) (H H' : Hp) : Prop := ∀ c o, c ≠ d → H c = some o → H' c = some o
section
variable {K : PySem.W.Frag} {H H' H1 H2 : Hp} {d : Addr}
theorem Exc.trans (a : Exc d H H1) (b : Exc d H1 H2) : Exc d H H2 := fun c o n e => b c o n (a c o n e)
theorem Exc.of (s : Same H H') : Exc d H H' := fun c o _ e => s c o e
theorem Exc.get (e : Exc d H H') (x : IsX H d) {c : Addr} {o : HO} (h : H c = some o) (ne : ∀ φ, o ≠ .ext φ) : H' c = some o := by
  obtain ⟨φ, x⟩ := x
  exact e c o (ne_of h x (ne φ)) h
theorem Exc.mut {F : Addr} {o : HO} (e : Exc d H H') (h : H F = none) : Exc d H (upd H' F o) := fun c u n z => by
  rw [upd_ne (ne_of_none z h)]
  exact e c u n z
theorem Exc.sqT (e : Exc d H H') (x : IsX H d) {a : Addr} {xs : List V} (h : SqT K H a xs) : SqT K H' a xs := by
  rcases h with (h | ⟨o, h⟩) | h
  · exact .inl (.inl (e.get x h (by intro φ z; cases z)))
  · exact .inl (.inr ⟨o, e.get x h (by intro φ z; cases z)⟩)
  · exact .inr h
theorem Exc.row (e : Exc d H H') (x : IsX H d) {v : V} {l : List Int} (h : RowAt K H v l) : RowAt K H' v l := by
  obtain ⟨a, h1, h2⟩ := h
  exact ⟨a, h1, e.sqT x h2⟩
theorem Exc.rows (e : Exc d H H') (x : IsX H d) {a : Addr} {t : List (List Int)} (h : RowsAt K H a t) : RowsAt K H' a t := by
  obtain ⟨vs, h1, h2⟩ := h
  exact ⟨vs, e.sqT x h1, h2.mono fun _ _ => e.row x⟩
theorem Exc.tie (e : Exc d H H') (x : IsX H d) {v : V} {t : Tie} (h : TieAt K H v t) : TieAt K H' v t := by
  obtain ⟨a, b, h1, h2, h3⟩ := h
  exact ⟨a, b, h1, e.sqT x h2, e.rows x h3⟩
theorem Exc.mod {C : Addr} (e : Exc d H H') (x : IsX H d) {q : Addr} {m : Mdl} (h : ModAt K C H q m) : ModAt K C H' q m := by
  obtain ⟨dx, w, t, h1, h2, vs, h3, h4⟩ := h
  exact ⟨dx, w, t, e.get x h1 (by intro φ z; cases z), e.rows x h2, vs, e.sqT x h3, h4.mono fun _ _ => e.tie x⟩
end
theorem AllIn.app {α : Type} {R : V → α → Prop} {vs ws : List V} {l r : List α} (h : AllIn R vs l) (g : AllIn R ws r) : AllIn R (vs ++ ws) (l ++ r) := by
  refine ⟨by rw [List.length_append, List.length_append, h.1, g.1], fun i v hv => ?_⟩
  by_cases c : i < vs.length
  · rw [List.getElem?_append_left c] at hv
    obtain ⟨x, h1, h2⟩ := h.2 i v hv
    exact ⟨x, by rw [List.getElem?_append_left (by rw [← h.1]; exact c)]; exact h1, h2⟩
  · rw [List.getElem?_append_right (by omega)] at hv
    obtain ⟨x, h1, h2⟩ := g.2 _ v hv
    exact ⟨x, by rw [List.getElem?_append_right (by rw [← h.1]; omega), ← h.1]; exact h1, h2⟩
def upto (m : Mdl) (n : Nat) (g : List Int) (i : Nat) : List (List Int) := ((valsM m).take i).flatMap fun v => if goesB m g v = true then ext m n (g ++ [v]) else []
theorem upto_succ {m : Mdl} {n : Nat} {g : List Int} {i : Nat} (h : i < m.levels.toNat) : upto m n g (i + 1) = upto m n g i ++ if goesB m g i = true then ext m n (g ++ [(i : Int)]) else [] := by
  unfold upto
  have e : (valsM m)[i]? = some (i : Int) := by
    unfold valsM
    rw [List.getElem?_map, List.getElem?_range h] <;> rfl
  rw [List.take_add_one, e, List.flatMap_append]
  congr 1
  show List.flatMap _ [(i : Int)] = _
  rw [List.flatMap_cons, List.flatMap_nil, List.append_nil]
theorem upto_all (m : Mdl) (n : Nat) (g : List Int) : upto m n g m.levels.toNat = ext m (n + 1) g := by
  unfold upto
  rw [List.take_of_length_le (by unfold valsM; rw [List.length_map, List.length_range]; exact Nat.le_refl _)] <;> rfl
theorem take_nil {α : Type} {A : List α} {n : Nat} (hn : 0 < n) : (A.take n).isEmpty = true ↔ A = [] := by
  cases A with
  | nil => simp
  | cons x A =>
    cases n with
    | zero => omega
    | succ n => simp
end Law
namespace L2
open PySem PySem.Spec PyProof.Rows
/-- a list == [] -/
def rEqL0 (K : PySem.W.Frag) : R2 := fun x y H Q => ∃ p q xs, x = .ref p ∧ y = .ref q ∧ SqL K H p xs ∧ SqL K H q [] ∧ Q (.bl xs.isEmpty) H
theorem op_eqL0 {X : Cx} (hu : X.A.units + 64 < cLine) : OpR X (compareOp .Eq) (rEqL0 X.K) := by
  intro pins s σ H x y v u Q I rx ry h
  obtain ⟨p, q, xs, rfl, rfl, hp, hq, k⟩ := h
  cases (show v = Value.ref p from rx)
  cases (show u = Value.ref q from ry)
  obtain ⟨us, r1, p1, _⟩ := I.list hp
  obtain ⟨ws, r2, p2, _⟩ := I.list hq
  cases r2
  cases xs with
  | nil =>
    cases r1
    exact SeqAt.eq_listAt (e := fun _ => true) p1.isList p2.isList rfl (by omega) (fun j h1 h2 => absurd h1 (Nat.not_lt_zero j)) ⟨.bl true, H, I, rfl, k⟩
  | cons x xs =>
    cases r1
    exact SeqAt.eq_list_lengthsAt p1.isList p2.isList rfl (by omega) ⟨.bl false, H, I, rfl, k⟩
end L2
namespace Law
open PySem L2
theorem catA_ok {K : PySem.W.Frag} {H : Hp} {a b : Addr} {xs ys : List V} {Q : VK} (ha : SqT K H a xs) (hb : SqT K H b ys) (ny : ys ≠ []) (hl : xs.length + ys.length ≤ sizeLine) (k : ∀ p H', Same H H' → SqT K H' p (xs ++ ys) → Q (.ref p) H') : rCatA K (.ref a) (.ref b) H Q :=
  ⟨a, b, xs, ys, rfl, rfl, ha, hb, hl, fun z => k b H (Same.refl H) (by rw [z]; exact hb), fun _ z => absurd z ny, fun _ _ p hp => k p _ (Same.new hp) (SqT.of upd_same)⟩
section
variable {P : Program} {w : World} {K : PySem.W.Frag} {mg : Str → Option Value} {base : Heap}
def spFF (P : Program) (w : World) (K : PySem.W.Frag) (C : Addr) (n : Nat) : Sp := fun vs H Q _ => ∃ (q b d : Addr) (m : Mdl) (g : List Int) (most : Int) (ks : List NKey), vs = [.ref q, .ref b, .int most, .ref d] ∧ ModAt K C H q m ∧ MOk m ∧ SqT K H b (g.map V.int) ∧ ((g.length + n : Nat) : Int) = m.many ∧ (∀ x ∈ g, 0 ≤ x ∧ x < m.levels) ∧ 1 ≤ most ∧ most ≤ 1001 ∧ NDic P w H d ks ∧ DeadOk m ks ∧ ks.length + addN n ≤ 6000000 ∧
  ∀ (p : Addr) (vs' : List V) (ks' : List NKey) (H' : Hp), H p = none → Exc d H H' → H' p = some (.lst vs') → AllIn (RowAt K H') vs' ((ext m n g).take most.toNat) → NDic P w H' d ks' → DeadOk m ks' → ks'.length ≤ ks.length + addN n → Q (.ref p) H'
abbrev nFittingFrom : List Str := ["model", "begun", "most", "dead", "place", "key", "found", "value", "one", "other", "_"]
theorem scFittingFrom : FnScope nFittingFrom ["model", "begun", "most", "dead"] (defScope s_fitting_from) := ⟨rfl, rfl, rfl, by decide +kernel, rfl, by decide +kernel, by decide +kernel⟩
theorem ok_ffs {f : Addr} {fd : FuncData} {fcRec : Addr} {fdcRec : FuncData} {fcGoes : Addr} {fdcGoes : FuncData} {C : Addr} {n : Nat} (F : Fun K "fitting_from" "fitting_from" s_fitting_from f fd) (T : NmA mg) (cRec : Cl P w K mg base CX0 (n + 2) "fitting_from" fcRec fdcRec ["model", "begun", "most", "dead"] (spFF P w K C n)) (cGoes : Cl P w K mg base CX0 1 "goes_on" fcGoes fdcGoes ["model", "begun", "value"] (spGoes K C)) (S : ModT K mg C) : FnOk P w K mg base CX0 (n + 3) f fd ["model", "begun", "most", "dead"] (spFF P w K C (n + 1)) := by
  refine F.ok scFittingFrom (fun vs H Q E h => ?_) (fun cdv A' outer s H vs Q E hr h => ?_)
  · obtain ⟨q, b, d, m, g, most, ks, rfl, _⟩ := h
    rfl
  · obtain ⟨q, b, d, m, g, most, ks, rfl, hM, ok, hS, gl, gv, m1, m2, hD, dk, kl, k⟩ := h
    have hu := hu_of hr
    have hu9 := Nat.lt_of_le_of_lt (Nat.add_le_add_left (show 9 ≤ 64 by decide) _) hr.units
    refine ⟨_, pss_cons (ps_set (i := 4) scFittingFrom.nd rfl (Or.inr rfl) (pe_callB call_len_seq (by rfl) T.len PySem.boot_len (pa_cons (pv 1) pa_nil)))
      (pss_cons (ps_if (pt_cmpR op_eq (pv 4) (pe_fld (pv 0) rfl) (nomark _))
        (pss_one (ps_ret (pe_lst (pa_cons (pv 1) pa_nil)))) pss_nil)
      (pss_cons (ps_set (i := 5) scFittingFrom.nd rfl (Or.inl rfl) (pe_tup (pa_cons (pv 4) (pa_cons (pe_callTy call_tuple_of (by rfl) T.tuple (by decide +kernel) (pa_cons (pe_lc (own := [("one", 8), ("other", 9), ("_", 10)]) (g := (gTup K 3 (gCons (gName 8) (gCons (gName 9) (gCons (gName 10) gNil))))) (tt := _) rfl scFittingFrom.nd  (pi_tup (pe_fld (pv 0) rfl)) (blkOk_by (own := [("one", 8), ("other", 9), ("_", 10)]) (N := nFittingFrom) (sc := defScope s_fitting_from) (by decide +kernel)) (fun _ _ _ _ _ => (pg_tup (by rfl) (pgs_cons (pg_name (i := 8) scFittingFrom.nd rfl (Or.inl rfl)) (pgs_cons (pg_name (i := 9) scFittingFrom.nd rfl (Or.inl rfl)) (pgs_cons (pg_name (i := 10) scFittingFrom.nd rfl (Or.inl rfl)) pgs_nil))))) (fun _ _ _ _ _ => (pts_one (pt_chain op_lt op_le (pv 8) (pv 4) (pv 9)))) (fun _ _ _ _ _ => (pe_ix (r := rIxT K) (show IxR _ (rIxT K) from ix_tup) (pv 1) (pv 8) (fun _ _ => rfl)))) pa_nil)) pa_nil))))
      (pss_cons (ps_set (i := 6) scFittingFrom.nd rfl (Or.inl rfl) (pe_lst pa_nil))
      (pss_cons (ps_if (pt_cmp (pc_ndin hu9 (pv 5) (pv 3)))
        (pss_one (ps_ret (pv 6))) pss_nil)
      (pss_cons (ps_for PassesOwn.never rfl (pi_range1 (by rfl) T.range (pa_cons (pe_fld (pv 0) rfl) pa_nil)) (pg_name (i := 7) scFittingFrom.nd rfl (Or.inl rfl))
        (pss_one (ps_if (PW.pt (pw_and (pt_cmpR op_lt (pe_callB call_len_seq (by rfl) T.len PySem.boot_len (pa_cons (pv 6) pa_nil)) (pv 2) (nomark _)) (pw_and1 (pt_val (cGoes.call (hr.mono (by omega)) (pa_cons (pv 0) (pa_cons (pv 1) (pa_cons (pv 7) pa_nil))))))))
          (pss_one (ps_expr (pe_bm PySem.F.plainAttrs_list PySem.F.slot_list_extend PySem.F.type_list_extend mt_extend (pv 6) (pa_cons (cRec.call hr (pa_cons (pv 0) (pa_cons (pe_op op_catA (pv 1) (pe_tup (pa_cons (pv 7) pa_nil))) (pa_cons (pe_op op_sub (pv 2) (pe_callB call_len_seq (by rfl) T.len PySem.boot_len (pa_cons (pv 6) pa_nil))) (pa_cons (pv 3) pa_nil))))) pa_nil)))) pss_nil)))
      (pss_cons (ps_if (pt_cmpR (op_eqL0 hr.units) (pv 6) (pe_lst pa_nil) (nomark _))
        (pss_one (ps_ndput hu9 (pv 3) (pv 5) pe_bl rfl)) pss_nil)
      (pss_one (ps_ret (pv 6))))))))), ?_⟩
    obtain ⟨dx, wa, ta, wvs, tvs, hq, hW, aW, hT, aT⟩ := mod_get hM
    have m12 := ok.m12
    refine ⟨_, rfl, b, _, rfl, .inr hS, ?_⟩
    rw [List.length_map]
    refine ⟨_, rfl, _, rfl, q, C, dx, _, _, rfl, hq, S.cl, S.nK, modF_many _ _ _ _, rfl, _, rfl, ?_⟩
    rw [ei, decide_eq_false (by omega)]
    refine iteF ?_
    refine ⟨_, rfl, _, rfl, q, C, dx, _, _, rfl, hq, S.cl, S.nT, modF_ties _ _ _ _, ta, rfl, ⟨_, hT⟩, fun D hDn => ?_⟩
    refine lc_tup (K := K) (a := ta) (xs := tvs) (fun i H' => Same H H' ∧ H' D = some (.lst (((m.ts.take i).filter fun t => decide (t.1.1 < (g.length : Int)) && decide ((g.length : Int) ≤ t.1.2)).map fun t => V.int (gI g t.1.1)))) ⟨Same.new hDn, upd_same⟩ (fun i H' _ h => h.1.sqT hT) ?_ ?_
    · rintro i x H' hi ⟨s1, h1⟩
      obtain ⟨t, ht, c, e, rfl, hc, _⟩ := aT.2 i x hi
      obtain ⟨t0, t1, t2, _⟩ := ok.tt t (List.mem_of_getElem? ht)
      have fs := filter_snoc (f := fun t : Tie => decide (t.1.1 < (g.length : Int)) && decide ((g.length : Int) ≤ t.1.2)) ht
      have out : (decide (t.1.1 < (g.length : Int)) && decide ((g.length : Int) ≤ t.1.2)) = false → Same H H' ∧ H' D = some (.lst (((m.ts.take (i + 1)).filter fun t => decide (t.1.1 < (g.length : Int)) && decide ((g.length : Int) ≤ t.1.2)).map fun t => V.int (gI g t.1.1))) := fun e2 => by
        rw [e2, if_neg Bool.false_ne_true, List.append_nil] at fs
        exact ⟨s1, by rw [fs]; exact h1⟩
      refine ⟨c, _, rfl, s1.sqT hc, rfl, _, _, rfl, _, _, rfl, _, _, rfl, rfl, ?_⟩
      refine ⟨rfl, _, rfl, _, rfl, _, _, rfl, rfl, _, rfl, ?_⟩
      cases c1 : decide (t.1.1 < (g.length : Int)) with
      | false => exact iteF ⟨_, rfl, iteF (out (by rw [c1] <;> rfl))⟩
      | true =>
        refine iteT ⟨_, rfl, _, _, rfl, rfl, _, rfl, ?_⟩
        cases c2 : decide ((g.length : Int) ≤ t.1.2) with
        | false => exact iteF (out (by rw [c1, c2] <;> rfl))
        | true =>
          rw [c1, c2] at fs
          have c1 := of_decide_eq_true c1
          refine iteT ⟨_, rfl, _, rfl, b, _, _, _, rfl, rfl, s1.sqT hS, atI_gI t0 c1, _, h1, ?_, s1.mut hDn, ?_⟩
          · have z := List.length_filter_le (fun t : Tie => decide (t.1.1 < (g.length : Int)) && decide ((g.length : Int) ≤ t.1.2)) (m.ts.take i)
            have := ok.tn
            rw [List.length_take] at z
            rw [List.length_map]
            exact small1000 (by omega)
          · rw [upd_same, fs, List.map_append] <;> rfl
    rintro H1 ⟨s1, h1⟩
    rw [aT.1, List.take_length] at h1
    have eK : ((m.ts.filter fun t => decide (t.1.1 < (g.length : Int)) && decide ((g.length : Int) ≤ t.1.2)).map fun t => V.int (gI g t.1.1)) = (keyL m g).map V.int := by
      unfold keyL
      rw [List.map_map] <;> rfl
    rw [eK] at h1
    refine ⟨D, _, rfl, .inl ⟨SqL.of h1, fun T hTn => ?_⟩⟩
    refine new_step hTn fun H2 s2 e2 => ?_
    refine ⟨by show 2 ≤ sizeLine; decide, fun kp hkp => ?_⟩
    refine new_step hkp fun H3 s3 e3 => ?_
    refine ⟨by show 0 ≤ sizeLine; decide, fun F hF => ?_⟩
    have s03 := (s1.trans s2).trans s3
    have F0 : H F = none := s03.free hF
    refine new_step hF fun H4 s4 e4 => ?_
    have s04 := s03.trans s4
    have nk3 : NKAt H3 kp ((g.length : Int), keyL m g) := ⟨T, e3, s3 _ _ e2⟩
    have nk : NKAt H4 kp ((g.length : Int), keyL m g) := ⟨T, s4 _ _ e3, (s3.trans s4) _ _ e2⟩
    have hD3 := hD.same s03
    have hD4 := hD.same s04
    have xd3 := hD3.ext
    refine ⟨_, rfl, _, rfl, d, kp, _, ks, rfl, rfl, nk, hD4, _, rfl, ite2 (fun c => ?_) (fun _ => ?_)⟩
    · have c := of_decide_eq_true c
      have z := dk _ c g rfl rfl
      have en : m.many.toNat - g.length = n + 1 := by omega
      rw [en] at z
      refine ⟨_, rfl, k F [] ks H4 F0 (Exc.of s04) e4 ?_ hD4 dk (by omega)⟩
      rw [z, List.take_nil]
      exact AllIn.nil
    have hM3 := hM.same s03
    have hS3 := s03.sqT hS
    have l1 := ok.l1
    have l4 := ok.l4
    have addE : addN (n + 1) = 1 + 4 * addN n := rfl
    refine ⟨_, rfl, q, C, dx, _, _, rfl, s04 _ _ hq, S.cl, S.nL, modF_levels _ _ _ _, _, rfl, by omega, by omega, ?_⟩
    refine for_range (lo := 0) (n := m.levels.toNat) (fun i σ H' => (Exc d H3 H' ∧ ∃ (vs' : List V) (ks' : List NKey), H' F = some (.lst vs') ∧ AllIn (RowAt K H') vs' ((upto m n g i).take most.toNat) ∧ NDic P w H' d ks' ∧ DeadOk m ks' ∧ ks'.length ≤ ks.length + i * addN n) ∧ ∃ u : Option V, σ = [some (.ref q), some (.ref b), some (.int most), some (.ref d), some (.int (g.length : Nat)), some (.ref kp), some (.ref F), u, none, none, none]) ⟨⟨Exc.of s4, [], ks, e4, by rw [show upto m n g 0 = [] from rfl, List.take_nil]; exact AllIn.nil, hD4, dk, by omega⟩, none, rfl⟩ ?_ ?_
    · rintro i σ H5 hi ⟨⟨x5, vs', ks', h5, a5, d5, k5, l5⟩, u, rfl⟩
      rw [Int.zero_add]
      have hM5 := x5.mod xd3 hM3
      have hS5 := x5.sqT xd3 hS3
      have us := upto_succ (m := m) (n := n) (g := g) hi
      have lt : vs'.length = ((upto m n g i).take most.toNat).length := a5.1
      have hi4 : (i + 1) * addN n ≤ 4 * addN n := Nat.mul_le_mul_right _ (by omega)
      have iE : (i + 1) * addN n = i * addN n + addN n := Nat.succ_mul _ _
      have stay : ∀ H', Exc d H5 H' → NDic P w H' d ks' → ((upto m n g (i + 1)).take most.toNat = (upto m n g i).take most.toNat) → (Exc d H3 H' ∧ ∃ (vs' : List V) (ks' : List NKey), H' F = some (.lst vs') ∧ AllIn (RowAt K H') vs' ((upto m n g (i + 1)).take most.toNat) ∧ NDic P w H' d ks' ∧ DeadOk m ks' ∧ ks'.length ≤ ks.length + (i + 1) * addN n) := fun H' x dd e => ⟨x5.trans x, vs', ks', x.get d5.ext h5 (by intro φ z; cases z), by rw [e]; exact a5.mono fun _ _ => x.row d5.ext, dd, k5, by omega⟩
      refine ⟨_, rfl, F, _, rfl, .inl (SqL.of h5), _, rfl, _, _, rfl, rfl, _, rfl, ?_⟩
      cases c1 : decide ((vs'.length : Int) < most) with
      | false =>
        have c1 := of_decide_eq_false c1
        refine iteF ⟨stay H5 (fun _ _ _ e => e) d5 ?_, _, rfl⟩
        rw [us]
        exact take_full (by rw [← lt]; omega)
      | true =>
        have c1 := of_decide_eq_true c1
        refine iteT ⟨_, rfl, _, rfl, _, rfl, q, b, m, g, (i : Int), rfl, hM5, ok, hS5, by omega, gv, by omega, by omega, fun H6 s6 => ⟨_, rfl, ?_⟩⟩
        have x56 : Exc d H5 H6 := Exc.of s6
        have d6 := d5.same s6
        cases c2 : goesB m g (i : Int) with
        | false =>
          refine iteF ⟨stay H6 x56 d6 ?_, _, rfl⟩
          rw [us, c2, if_neg Bool.false_ne_true, List.append_nil]
        | true =>
          rw [c2, if_pos rfl] at us
          have h6 := s6 _ _ h5
          refine iteT ⟨_, rfl, .inl ⟨rfl, _, SqL.of h6⟩, _, rfl, _, rfl, _, rfl, by show 1 ≤ sizeLine; decide, fun o ho => ?_⟩
          refine new_step ho fun H7 s7 e7 => ?_
          have s57 := s6.trans s7
          refine catA_ok (s57.sqT hS5) (SqT.of e7) (by simp) (by rw [List.length_map, sizeLine_eq]; show _ + 1 ≤ _; omega) fun o2 H8 s8 hS8 => ?_
          have s58 := s57.trans s8
          have h8 := s58 _ _ h5
          have hM8 := hM5.same s58
          have d8 := d5.same s58
          have hS8 : SqT K H8 o2 ((g ++ [(i : Int)]).map V.int) := by rw [List.map_append]; exact hS8
          refine ⟨_, rfl, _, rfl, F, _, rfl, .inl (SqL.of h8), _, _, rfl, rfl, _, rfl, q, o2, d, m, g ++ [(i : Int)], most - vs'.length, ks', rfl, hM8, ok, hS8, by rw [List.length_append]; show ((g.length + 1 + n : Nat) : Int) = _; omega, fun x hx => ?_, by omega, by omega, d8, k5, by omega, fun p ws ks2 H9 hp x9 h9 a9 d9 k9 l9 => ?_⟩
          · rcases List.mem_append.mp hx with hx | hx
            · exact gv x hx
            · rw [List.mem_singleton.mp hx]
              exact ⟨by omega, by omega⟩
          have h9F := x9.get d8.ext h8 (by intro φ z; cases z)
          have x59 : Exc d H5 H9 := (Exc.of s58).trans x9
          have et : (upto m n g (i + 1)).take most.toNat = (upto m n g i).take most.toNat ++ (ext m n (g ++ [(i : Int)])).take (most - vs'.length).toNat := by
            rw [us, take_more (by rw [← lt]; omega), ← lt, show (most - (vs'.length : Int)).toNat = most.toNat - vs'.length by omega]
          refine ⟨F, p, _, _, rfl, rfl, h9F, h9, ?_, ⟨(x5.trans x59).mut hF, vs' ++ ws, ks2, upd_same, ?_, d9.updL h9F, k9, by omega⟩, _, rfl⟩
          · have z1 : ws.length = _ := a9.1
            rw [List.length_take] at z1 lt
            rw [sizeLine_eq]
            omega
          · rw [et]
            exact (AllIn.app (a5.mono fun _ _ => x59.row d5.ext) a9).mono fun _ _ h => h.upd h9F
    · rintro σ H5 ⟨⟨x5, vs', ks', h5, a5, d5, k5, l5⟩, u, rfl⟩
      rw [upto_all] at a5
      have lt : vs'.length = ((ext m (n + 1) g).take most.toNat).length := a5.1
      have l4' : m.levels.toNat * addN n ≤ 4 * addN n := Nat.mul_le_mul_right _ (by omega)
      have x05 : Exc d H H5 := (Exc.of s03).trans x5
      refine ⟨_, rfl, by show 0 ≤ sizeLine; decide, fun e he => ?_⟩
      refine new_step he fun H6 s6 e6 => ?_
      have h6 := s6 _ _ h5
      have d6 := d5.same s6
      have x06 : Exc d H H6 := x05.trans (Exc.of s6)
      have a6 := a5.mono fun _ _ h => RowAt.same s6 h
      refine ⟨F, e, _, rfl, rfl, SqL.of h6, SqL.of e6, _, rfl, ite2 (fun c => ?_) (fun _ => ?_)⟩
      · have z : ext m (n + 1) g = [] := by
          have v0 : vs'.length = 0 := by rw [List.length_eq_zero_iff]; exact List.isEmpty_iff.mp c
          rw [v0, List.length_take] at lt
          exact List.length_eq_zero_iff.mp (by omega)
        have nk6 : NKAt H6 kp ((g.length : Int), keyL m g) := by
          obtain ⟨t, z1, z2⟩ := nk3
          exact ⟨t, s6 _ _ (x5.get xd3 z1 (by intro φ z; cases z)), s6 _ _ (x5.get xd3 z2 (by intro φ z; cases z))⟩
        refine ⟨_, rfl, _, rfl, d, kp, _, ks', rfl, rfl, rfl, nk6, d6, by rw [sizeLine_eq]; omega, fun ks2 H7 hm hl hx hd => ?_⟩
        have x67 : Exc d H6 H7 := hx
        exact ⟨_, rfl, k F vs' ks2 H7 F0 (x06.trans x67) (x67.get d6.ext h6 (by intro φ z; cases z)) (a6.mono fun _ _ => x67.row d6.ext) hd (k5.put ok (by rw [show m.many.toNat - g.length = n + 1 by omega]; exact z) hm) (by omega)⟩
      · exact ⟨_, rfl, k F vs' ks' H6 F0 x06 h6 a6 d6 k5 (by omega)⟩
theorem ok_ff0 {f : Addr} {fd : FuncData} {C : Addr} (F : Fun K "fitting_from" "fitting_from" s_fitting_from f fd) (T : NmA mg) (S : ModT K mg C) : FnOk P w K mg base CX0 2 f fd ["model", "begun", "most", "dead"] (spFF P w K C 0) := by
  refine F.ok scFittingFrom (fun vs H Q E h => ?_) (fun cdv A' outer s H vs Q E hr h => ?_)
  · obtain ⟨q, b, d, m, g, most, ks, rfl, _⟩ := h
    rfl
  · obtain ⟨q, b, d, m, g, most, ks, rfl, hM, ok, hS, gl, gv, m1, m2, hD, dk, kl, k⟩ := h
    refine ⟨_, pss_cons (ps_set (i := 4) scFittingFrom.nd rfl (Or.inr rfl) (pe_callB call_len_seq (by rfl) T.len PySem.boot_len (pa_cons (pv 1) pa_nil)))
      (pss_cons (ps_if (pt_cmpR op_eq (pv 4) (pe_fld (pv 0) rfl) (nomark _)) (pss_one (ps_ret (pe_lst (pa_cons (pv 1) pa_nil)))) pss_nil) pss_never), ?_⟩
    obtain ⟨dx, wa, ta, hq, _⟩ := id hM
    refine ⟨_, rfl, b, _, rfl, .inr hS, ?_⟩
    rw [List.length_map]
    refine ⟨_, rfl, _, rfl, q, C, dx, _, _, rfl, hq, S.cl, S.nK, modF_many _ _ _ _, rfl, _, rfl, ?_⟩
    rw [ei, decide_eq_true (by omega)]
    refine iteT ⟨_, rfl, by show 1 ≤ sizeLine; decide, fun F hF => ?_⟩
    refine k F _ ks _ hF (Exc.of (Same.new hF)) upd_same ?_ (hD.same (Same.new hF)) dk (Nat.le_add_right _ _)
    have e : (ext m 0 g).take most.toNat = [g] := by
      show [g].take most.toNat = [g]
      exact List.take_of_length_le (by show 1 ≤ _; omega)
    rw [e]
    exact AllIn.snoc (R := RowAt K _) AllIn.nil (show RowAt K _ (.ref b) g from ⟨b, rfl, (Same.new hF).sqT hS⟩)
theorem ok_ffn {f fcGoes : Addr} {fd fdcGoes : FuncData} {C : Addr} (F : Fun K "fitting_from" "fitting_from" s_fitting_from f fd) (T : NmA mg) (cGoes : Cl P w K mg base CX0 1 "goes_on" fcGoes fdcGoes ["model", "begun", "value"] (spGoes K C)) (S : ModT K mg C) (bF : Binds K fd ["model", "begun", "most", "dead"] []) (mF : mg "fitting_from" = some (.ref f)) (kF : PySem.W.keepIn K (.ref f) = true) : ∀ n, FnOk P w K mg base CX0 (n + 2) f fd ["model", "begun", "most", "dead"] (spFF P w K C n)
  | 0 => ok_ff0 F T S
  | n + 1 => ok_ffs F T ⟨ok_ffn F T cGoes S bF mF kF n, bF, mF, kF⟩ cGoes S
def spFF12 (P : Program) (w : World) (K : PySem.W.Frag) (C : Addr) : Sp := fun vs H Q E => ∃ n, n ≤ 12 ∧ spFF P w K C n vs H Q E
theorem ok_ff12 {f fcGoes : Addr} {fd fdcGoes : FuncData} {C : Addr} (F : Fun K "fitting_from" "fitting_from" s_fitting_from f fd) (T : NmA mg) (cGoes : Cl P w K mg base CX0 1 "goes_on" fcGoes fdcGoes ["model", "begun", "value"] (spGoes K C)) (S : ModT K mg C) (bF : Binds K fd ["model", "begun", "most", "dead"] []) (mF : mg "fitting_from" = some (.ref f)) (kF : PySem.W.keepIn K (.ref f) = true) : FnOk P w K mg base CX0 14 f fd ["model", "begun", "most", "dead"] (spFF12 P w K C) := by
  refine ⟨fun vs H Q E h => ?_, fun A outer s H args us vs Q E hr he hb hv hs => ?_⟩
  · obtain ⟨n, _, h⟩ := h
    exact (ok_ffn F T cGoes S bF mF kF n).len vs H Q E h
  · obtain ⟨n, hn, h⟩ := hs
    exact (ok_ffn F T cGoes S bF mF kF n).run A outer s H args us vs Q E (hr.mono (by omega)) he hb hv h
end
end Law

namespace L2
open PySem PySem.Spec PyProof.Rows
/-! ### several clauses 'except x as n', one name -/
def wManyAs (K : PySem.W.Frag) (i : Nat) (Wout : WX) (D : Ends) : List (Value × (Addr → Value → Option Addr → TS)) → WX
  | [] => Wout
  | (c, ts) :: r => fun cls d σ H => ∃ b, PySem.W.exmOne K cls c = some b ∧ (b = true → ∀ a, H a = none → ts a cls d { nx := fun σ' H' => D.nx (σ'.set i none) H', rt := D.rt, bk := fun σ' H' => D.bk (σ'.set i none) H', ct := fun σ' H' => D.ct (σ'.set i none) H' } (σ.set i (some (.ref a))) H) ∧ (b = false → wManyAs K i Wout D r cls d σ H)
inductive HdsAs (X : Cx) (n : Str) : List ExceptHandler → List (Value × (Addr → Value → Option Addr → TS)) → Prop
  | nil : HdsAs X n [] []
  | cons {x : Str} {c : Value} {ts : Addr → Value → Option Addr → TS} {b₀ : Stmt} {suite : List Stmt} {np pos' : Pos} {hds : List ExceptHandler} {l : List (Value × (Addr → Value → Option Addr → TS))} (hc : Names X x c)
      (hsu : ∀ (a : Addr) (oe : Obj) (cls : Value) (d : Option Addr) (pn : List (Addr × Obj)), Zc cls d oe → (∃ vs, oe.data = .fields vs) → PSs (X.suite a ((a, oe) :: pn)) (b₀ :: suite) (ts a cls d)) (r : HdsAs X n hds l) :
      HdsAs X n (.ExceptHandler (some (.Name x np)) (some n) (b₀ :: suite) pos' :: hds) ((c, ts) :: l)
section
variable {X : Cx} {n : Str} {i : Nat} {body : List Stmt} {h₀ : ExceptHandler} {hds : List ExceptHandler} {l : List (Value × (Addr → Value → Option Addr → TS))} {pos : Pos} {tb : WX → TS} {Wout : WX}
theorem ps_try_manyAs (hs : X.stack = X.env :: X.outer) (hf : X.env.frame = some X.env.locals) (hN : X.N.Nodup) (hi : X.N[i]? = some n) (hln : X.env.kindOf n = some .local) (tk : Takes X Wout)
    (hb : ∀ (W : WX) (pn : List (Addr × Obj)) (xe : Value → Shared → Prop), Takes (X.tr pn xe) W → PassesOwn (model X.prog X.w) X.A X.env xe → PSs (X.tr pn xe) body (tb W))
    (hh : HdsAs X n (h₀ :: hds) l) : PS X (.Try body (h₀ :: hds) [] [] pos) (fun D σ H => tb (wManyAs X.K i Wout D l) D σ H) := by
  refine ⟨fun pins s σ H D I h => ?_⟩
  have ok := I.ok
  have hfr : X.A.frames = some (X.env :: X.outer) := by rw [ok.frames, hs]
  have hloc : Loc X.env.scope n := .inl hln
  refine wpAny_Try_except ?_
  refine wpAny_mono ((hb (wManyAs X.K i Wout D l) (X.pn ++ pins) (fun e s₁ => wpAny (model X.prog X.w) X.A (noteFrame e X.env) (fun _ s₂ => wpAny (model X.prog X.w) X.A (setFlight e none) (fun _ s₃ =>
    wpAny (model X.prog X.w) X.A (handleBy e X.env (h₀ :: hds)) (SP X pins D) X.xe s₃) X.xe s₂) X.xe s₁) (fun u s' xx => ?_) PassesOwn.looking).run [] s σ H D (I.toTry _) h) (fun f s1 hsp => ?_) (fun e s1 he => he)
  · -- the catch
    obtain ⟨a, B, sI, pins', σ', H', cls, d, rfl, J', nb, up, sky, na, os, ag, w⟩ := xx
    have J : Inv X pins σ' H' sI := J'.ofTry ok
    have sky' : Sky B (X.env :: X.outer) a (Zc cls d) X.env.locals s'.heap := by rw [← hs]; exact sky
    show wpAny (model X.prog X.w) X.A (noteFrame (.ref a) X.env) _ _ _
    refine Sky.land Zc.steady hfr hf sky' fun h3 fl3 up3 => ?_
    have J3 : Inv X pins σ' H' { s' with heap := h3 } := J.landed nb fl3.1 (up.trans up3) os ag
    obtain ⟨oe3, vs3, he3, hz3, hd3⟩ := fl3.there
    have notFr : ∀ {h : Heap} {o : Obj} {vs : Array Value}, h.FunFrames B (X.env :: X.outer) → h.get? a = some o → o.data = .fields vs → a ∉ frs (X.env :: X.outer) := fun {h o vs} ff e dd hm => by
      obtain ⟨_, o', e', hnf⟩ := ff.mem hm
      rw [e] at e'; cases e'
      exact hnf _ dd
    have nfr := notFr fl3.2.2.1 he3 hd3
    have nL : a ≠ X.env.locals := fun z => nfr (List.mem_filterMap.mpr ⟨X.env, List.mem_cons_self, by rw [hf, z]⟩)
    have nF : a ∉ X.fs := fun hm => by
      obtain ⟨e, he, q⟩ := List.mem_filterMap.mp hm
      exact nfr (List.mem_filterMap.mpr ⟨e, List.mem_cons_of_mem _ he, q⟩)
    have S3 := J3.suite he3 hd3 na nL nF
    have go : ∀ {hds' : List ExceptHandler} {l' : List (Value × (Addr → Value → Option Addr → TS))}, HdsAs X n hds' l' → wManyAs X.K i Wout D l' cls d σ' H' →
        wpAny (model X.prog X.w) X.A (handleBy (.ref a) X.env hds') (SP X pins D) X.xe { s' with heap := h3 } := by
      intro hds' l' hk
      induction hk with
      | nil =>
        intro w
        refine wpAny_handleBy_nil ?_
        obtain ⟨k1, k2, k3, oe, vs, T, oT, ts', he, hz, hd, h1, hr⟩ := id fl3
        unfold PySem.passOn
        refine wpAny_bind (wpAny_field he hd h1 ?_)
        rw [if_neg (show ¬ ((Value.ref T == Value.none) = true) from by simp)]
        have fin : wpAny (model X.prog X.w) X.A (setFlight (.ref a) X.env.frame) (fun _ s4 => wpAny (model X.prog X.w) X.A (throw (.ref a) : Sem Flow) (SP X pins D) X.xe s4) X.xe { s' with heap := h3 } := by
          rw [hf]
          refine HandSPX.setFlight_upZ fl3 fun h4 hh4 up4 => wpAny_throw (tk _ _ ?_)
          exact ⟨a, B, sI, pins, σ', H', cls, d, rfl, J, nb, (up.trans up3).trans up4, .inr (.inr (by rw [hs]; exact hh4)), na, os, ag, w⟩
        first
          | exact wpAny_bind (wpAny_pure (wpAny_bind fin))
          | exact wpAny_bind fin
      | @cons x c ts b₀ suite np pos' hds2 l2 hc hsu r ih =>
        intro w
        obtain ⟨b, hb1, hyes, hno⟩ := w
        refine wpAny_handleBy_cons (codeAny_handlers_test ?_) (by intro q; cases q)
        have LT : PySem.W.Looks (model X.prog X.w) h3 (typeOf (.ref a)) cls := fun A Q E s k q => wpAny_typeOf_ref (k _ _ he3) (by rw [hz3.1]; exact q)
        have LM := PySem.W.exm_one (M := model X.prog X.w) (J3.kIn) LT hb1
        have test : ∀ {Q : Value → Shared → Prop} {E : Value → Shared → Prop}, Q c { s' with heap := h3 } → wpAny (model X.prog X.w) (X.A.mark (some (.ref a))) (eval (.Name x np) X.env) Q E { s' with heap := h3 } := fun {Q E} q => by
          obtain ⟨hg, hdbg, hm | ⟨hm, hv, hnn⟩⟩ := hc
          · exact ld_glob (X := X.suite a ((a, oe3) :: (X.pn ++ pins))) S3 hg hm q hdbg
          · exact ld_blt (X := X.suite a ((a, oe3) :: (X.pn ++ pins))) S3 hg hm hv q hnn hdbg
        refine test (LM.here ?_)
        cases b with
        | true =>
          refine codeAny_handlers_suite_as ?_
          refine HandSPX.lands_againZ fl3 fun h4 fl4 up4 => ?_
          have J4 : Inv X pins σ' H' { s' with heap := h4 } := J.landed nb fl4.1 ((up.trans up3).trans up4) os ag
          obtain ⟨oe4, vs4, he4, hz4, hd4⟩ := fl4.there
          have S4 := J4.suite he4 hd4 na nL nF
          refine store_ok (X := X.suite a ((a, oe4) :: (X.pn ++ pins))) (v := .ref a) S4 hN hi hloc rfl (fun s5 S5 => ?_) (.inr hln)
          refine wpAny_mono ((hsu a oe4 cls d (X.pn ++ pins) hz4 ⟨_, hd4⟩).run [] s5 _ H' _ S5 (hyes rfl a na)) (fun f s6 hsp => ?_) (fun _ _ z => False.elim z)
          have end_ : ∀ {σ6 : St} {H6 : Hp} {Q : Shared → Prop}, Inv (X.suite a ((a, oe4) :: (X.pn ++ pins))) [] σ6 H6 s6 → (∀ s7, Inv X pins (σ6.set i none) H6 s7 → Q s7) →
              wpAny (model X.prog X.w) X.A (do bindName X.env n .none; unbindBehindTheSuite X.env n pos') (fun _ s7 => Q s7) X.xe s6 := fun {σ6 H6 Q} S6 hq => gone_ok (S6.unsuite ok) hN hi hln hq
          cases f with
          | next =>
            obtain ⟨σ6, H6, S6, q6⟩ := hsp
            exact end_ S6 fun s7 J7 => ⟨_, _, J7, q6⟩
          | brk =>
            obtain ⟨σ6, H6, S6, q6⟩ := hsp
            exact end_ S6 fun s7 J7 => ⟨_, _, J7, q6⟩
          | cont =>
            obtain ⟨σ6, H6, S6, q6⟩ := hsp
            exact end_ S6 fun s7 J7 => ⟨_, _, J7, q6⟩
          | ret u =>
            obtain ⟨v6, σ6, H6, S6, r6, q6⟩ := hsp
            exact end_ S6 fun s7 J7 => ⟨_, _, _, J7, r6, q6⟩
        | false =>
          show wpAny _ X.A (handleBy (.ref a) X.env hds2) _ _ _
          exact ih (hno rfl)
    exact go hh w
  · cases f with
    | next =>
      obtain ⟨σ', H', J', q⟩ := hsp
      exact wpAny_execs_nil ⟨σ', H', J'.ofTry ok, q⟩
    | brk =>
      obtain ⟨σ', H', J', q⟩ := hsp
      exact ⟨σ', H', J'.ofTry ok, q⟩
    | cont =>
      obtain ⟨σ', H', J', q⟩ := hsp
      exact ⟨σ', H', J'.ofTry ok, q⟩
    | ret u =>
      obtain ⟨v, σ', H', J', r, q⟩ := hsp
      exact ⟨v, σ', H', J'.ofTry ok, r, q⟩
end
end L2
namespace Law
open PySem PySem.Spec PyProof.Rows L2
/-! ### list.count of truth values -/
def eqt (b : Bool) (v : Value) : Bool := match v with
  | .bool c => c == b
  | _ => false
theorem bools_of : ∀ {bs : List Bool} {its : List Value}, Vals (bs.map V.bl) its → its = bs.map Value.bool
  | [], _, .nil => rfl
  | b :: bs, _, .cons r rr => by
    cases r
    rw [bools_of rr] <;> rfl
theorem eqt_count (b : Bool) : ∀ bs : List Bool, (bs.map Value.bool).countP (eqt b) = bs.count b
  | [] => rfl
  | c :: bs => by
    rw [List.map_cons, List.countP_cons, List.count_cons, eqt_count b bs] <;> rfl
section
variable {X : Cx}
def rCntB (K : PySem.W.Frag) : V → List V → Hp → VK → Prop := fun x xs H Q => ∃ (p : Addr) (bs : List Bool) (b : Bool), x = .ref p ∧ xs = [.bl b] ∧ SqL K H p (bs.map V.bl) ∧ Q (.int (bs.count b : Nat)) H
theorem mt_bcount : MtR X "list.count" (rCntB X.K) := by
  intro pins s σ H x xs v us Q I rx rxs h
  obtain ⟨p, bs, b, rfl, rfl, hs, q⟩ := h
  cases rx
  obtain ⟨u, rfl, ru⟩ := rxs.one
  cases ru
  obtain ⟨its, rv, ⟨⟨cls, dd, data, sl⟩, n, ho, hc, hdn, hd⟩, hlen⟩ := I.list hs
  simp only at hc hd
  subst hc hd
  have hi := bools_of rv
  subst hi
  refine call_meets PySem.F.slot_list_count ⟨_, ho, rfl⟩ PySem.F.entry_list_count (PySem.F.args_list_count_2 _ _)
    (SeqAt.list_countAt p (bs.map Value.bool).toArray n dd sl (.bool b) (eqt b)) ⟨ho, fun y hy => ?_, ?_⟩
  · have hy' : y ∈ bs.map Value.bool := by simpa using hy
    obtain ⟨c, _, rfl⟩ := List.mem_map.mp hy'
    exact eqAt_V (y := .bl c) (x := .bl b) rfl rfl rfl rfl
  · refine ⟨.int (bs.count b : Nat), H, I.tok _, ⟨s.toks, ?_⟩, q⟩
    show Value.int (((bs.map Value.bool).toArray.toList.countP (eqt b) : Nat) : Int) s.toks = Value.int ((bs.count b : Nat) : Int) s.toks
    rw [show (bs.map Value.bool).toArray.toList = bs.map Value.bool by simp, eqt_count]
end
/-! ### own exceptions as values -/
structure ExV (K : PySem.W.Frag) (C : Addr) : Prop where
  ox : OexC K C
  cl : (PySem.W.clsIn K C).isSome = true
  ga : PySem.W.findIn K (.ref C) "__getattribute__" = some (some (.builtin "BaseException.__getattribute__"))
  gg : PySem.W.findIn K (.ref C) "__getattr__" = some none
  ha : PySem.W.findIn K (.ref C) "__class__" = some (some (.builtin "object.__class__"))
  hn : PySem.W.specialIn K (.builtin "object.__class__") "__get__" = some (some (.builtin "getset_descriptor.__get__"))
  ht : PySem.W.takesIn K (.builtin "object.__class__") = some true
  hm : PySem.W.mroIn K C (.type "object") = some true
  hd : PySem.W.hasDictIn K C = true
def ExAt (H : Hp) (a C : Addr) (d : Option Addr) : Prop := H a = some (exo a C d) ∧ (d = none ∨ ∃ dd fs, d = some dd ∧ H dd = some (exd dd fs))
theorem ExAt.same {H H' : Hp} {a C : Addr} {d : Option Addr} (s : Same H H') (x : ExAt H a C d) : ExAt H' a C d := ⟨s _ _ x.1, by
  rcases x.2 with h | ⟨dd, fs, h1, h2⟩
  · exact .inl h
  · exact .inr ⟨dd, fs, h1, s _ _ h2⟩⟩
theorem exInst {P : Program} {w : World} {H : Hp} {h : Heap} {a C : Addr} {d : Option Addr} (hok : HOk P w H h) (x : ExAt H a C d) : ∃ ox od, PySem.W.InstAt h a ox C od := by
  obtain ⟨t1, e⟩ := exo_at hok x.1
  rcases x.2 with rfl | ⟨dd, fs, rfl, h2⟩
  · exact ⟨_, none, e, rfl, rfl, trivial⟩
  · obtain ⟨mA, hn, _⟩ := exd_at hok h2
    obtain ⟨od, ho, _⟩ := lookIn_ns hn
    exact ⟨_, some od, e, rfl, rfl, ho⟩
section
variable {X : Cx}
def rIsV (K : PySem.W.Frag) : List V → Hp → VK → Prop := fun xs H Q => ∃ (a C : Addr) (d : Option Addr) (c : V) (cv : Value) (b : Bool), xs = [.ref a, c] ∧ ExAt H a C d ∧ ExV K C ∧ ClsV c cv ∧ PySem.W.kitOne K (.ref C) cv = some b ∧ Q (.bl b) H
theorem call_isV : CallR X (.builtin "isinstance") (rIsV X.K) := by
  intro pins s σ H xs us Q I r h
  obtain ⟨a, C, d, c, cv, b, rfl, x, T, k, e, q⟩ := h
  obtain ⟨u1, u2, rfl, r1, r2⟩ := vals2 r
  cases (show u1 = Value.ref a from r1)
  have e2 := k.eq r2
  subst e2
  obtain ⟨ox, od, J⟩ := exInst I.hok x
  exact PySem.W.kia_one (PySem.W.kitx_exc T.cl T.ga T.gg T.ox.exC T.ha T.hn T.ht T.hm) I.kIn J e (fun z => nomatch z) fun tk => ⟨.bl b, H, I.tok tk, rfl, q⟩
variable {C fI : Addr} {k : Nat} {fd : FuncData} {ps : List Str} {sp : Sp}
/-- an own exception made, and held as a value -/
theorem run_exv' {ds : List Value} {dvs : List V} (hd : Vals dvs ds) {pins : List (Addr × Obj)} {σ : L2.St} {H1 : Hp} {s1 : Shared} {Q : VK} {vs : List V} {us : List Value} (T : ExV X.K C) (iC : PySem.W.findIn X.K (.ref C) "__init__" = some (some (.ref fI))) (tI : PySem.W.typeIn X.K (.ref fI) = some (.type "function"))
    (F1 : FnOk X.prog X.w X.K X.mg X.base CX0 k fI fd ps sp) (hr : Room (k + 1) X.A) (hb : Binds X.K fd ps ds) (I1 : Inv X pins σ H1 s1) (r1 : Vals vs us) (hz : vs.length ≤ 1000)
    (hq1 : ∀ a, H1 a = none → sp (.ref a :: (vs ++ dvs)) (upd H1 a (exo a C none)) (fun v H2 => v = .non ∧ Q (.ref a) H2) E0) : wpAny (model X.prog X.w) X.A (call (.ref C) us) (EP X pins σ Q) X.xe s1 := by
  obtain ⟨nm, q, N, bs, bm, sn, sub, ab, col, dd, k0, k1, k2, k3, k5, hC, hbm⟩ := T.ox.cls
  obtain ⟨hp, g, dr, tk, os⟩ := s1
  have hsz : hp.objs.size ≤ hp.objs.size + 1 := Nat.le_succ _
  have hn : H1 (hp.objs.size + 1) = none := I1.hok.fresh hsz
  have hq : sp (.ref (hp.objs.size + 1) :: (vs ++ dvs)) (upd H1 (hp.objs.size + 1) (exo (hp.objs.size + 1) C none)) (fun v H2 => v = .non ∧ Q (.ref (hp.objs.size + 1)) H2) E0 := hq1 (hp.objs.size + 1) hn
  have kk : ∀ b o, hp.get? b = some o → ((hp.push (PySem.W.kdv_tup us)).push (PySem.HandSPX.excO C hp.objs.size)).get? b = some o := fun b o e => Heap.get?_push_of_some _ (Heap.get?_push_of_some _ e)
  have hget : ((hp.push (PySem.W.kdv_tup us)).push (PySem.HandSPX.excO C hp.objs.size)).get? (hp.objs.size + 1) = some (PySem.HandSPX.excO C hp.objs.size) := by heap_get
  have I2 : Inv X pins σ (upd H1 (hp.objs.size + 1) (exo (hp.objs.size + 1) C none)) ⟨(hp.push (PySem.W.kdv_tup us)).push (PySem.HandSPX.excO C hp.objs.size), g, dr, tk, os⟩ :=
    I1.laid (t' := tk) (a := hp.objs.size + 1) (o := exo (hp.objs.size + 1) C none) (h' := (hp.push (PySem.W.kdv_tup us)).push (PySem.HandSPX.excO C hp.objs.size)) kk hsz (exo_ok hget)
  have r2 : Vals (V.ref (hp.objs.size + 1) :: (vs ++ dvs)) (Value.ref (hp.objs.size + 1) :: (us ++ ds)) := .cons rfl (r1.append hd)
  have hl : (Value.ref (hp.objs.size + 1) :: us ++ ds).length = ps.length := by
    have e := r2.length
    rw [F1.len _ _ _ _ hq] at e
    exact e.symm
  have hus : us.length ≤ sizeLine := by
    rw [← Paired.length r1, sizeLine_eq]
    omega
  refine wpAny_call (PySem.HandSPX.call_own F.excBase_ValueError (fun Y => PySem.HandSPX.refsVE_contains Y bm hbm) (I1.kIn _ _ hC) (PySem.W.looks_findIn I1.kIn iC) (fun self => PySem.W.bind_fn I1.kIn self tI) hus
    (codeAny_mono (F1.run _ X.stack _ _ ⟨Value.ref (hp.objs.size + 1) :: us, []⟩ (Value.ref (hp.objs.size + 1) :: (us ++ ds)) _ _ E0 (hr.make C us []) (I2.env0.make C us []) (hb _ (Value.ref (hp.objs.size + 1) :: us) I2.kIn hl) r2 hq) fun r s' hq' => ?_))
  cases r with
  | error er => exact False.elim hq'
  | ok fl =>
    cases fl with
    | ret u =>
      obtain ⟨v, H', I3, rv, ev, q3⟩ := I2.after hq'
      subst ev
      exact ⟨rv, ⟨V.ref (hp.objs.size + 1), H', I3, rfl, q3⟩⟩
    | next => exact False.elim hq'
    | brk => exact False.elim hq'
    | cont => exact False.elim hq'
theorem run_exv {pins : List (Addr × Obj)} {σ : L2.St} {H1 : Hp} {s1 : Shared} {Q : VK} {vs : List V} {us : List Value} (T : ExV X.K C) (iC : PySem.W.findIn X.K (.ref C) "__init__" = some (some (.ref fI))) (tI : PySem.W.typeIn X.K (.ref fI) = some (.type "function"))
    (F1 : FnOk X.prog X.w X.K X.mg X.base CX0 k fI fd ps sp) (hr : Room (k + 1) X.A) (hb : Binds X.K fd ps []) (I1 : Inv X pins σ H1 s1) (r1 : Vals vs us) (hz : vs.length ≤ 1000)
    (hq1 : ∀ a, H1 a = none → sp (.ref a :: vs) (upd H1 a (exo a C none)) (fun v H2 => v = .non ∧ Q (.ref a) H2) E0) : wpAny (model X.prog X.w) X.A (call (.ref C) us) (EP X pins σ Q) X.xe s1 :=
  run_exv' (ds := []) (dvs := []) .nil T iC tI F1 hr hb I1 r1 hz fun a ha => by
    rw [List.append_nil]
    exact hq1 a ha
def tExV (C : Addr) (sp : Sp) (ta : TA) : TE := fun σ H Q => ta σ H fun vs H1 => vs.length ≤ 1000 ∧ ∀ a, H1 a = none → sp (.ref a :: vs) (upd H1 a (exo a C none)) (fun v H2 => v = .non ∧ Q (.ref a) H2) E0
theorem pe_exv {x : Str} {p pos : Pos} {e : Expr} {es : List Expr} {ta : TA} (T : ExV X.K C) (iC : PySem.W.findIn X.K (.ref C) "__init__" = some (some (.ref fI))) (tI : PySem.W.typeIn X.K (.ref fI) = some (.type "function"))
    (F1 : FnOk X.prog X.w X.K X.mg X.base CX0 k fI fd ps sp) (hr : Room (k + 1) X.A) (hb : Binds X.K fd ps []) (hg : Gl X x) (hm : X.mg x = some (.ref C)) (ha : PA X (e :: es) ta) (hdb : (x == ("__debug__" : Str)) = false := by decide)
    (he : starEach (e :: es) X.env = (false, eval e X.env) :: starEach es X.env := by rfl) (hpl : (backTo pos (starEach es X.env)).any (·.1) = false := by rfl) : PE X (.Call (.Name x p) (e :: es) [] pos) (tExV C sp ta) := by
  refine ⟨fun pins s σ H Q I h => ?_⟩
  refine wpAny_Call_Name_kw (ld_glob I hg hm ?_ hdb)
  refine PySem.W.callWith_K (h₀ := X.base) I.ok.mod.kin T.ox.kC (thn (ha.run pos pins s σ H _ I h) fun us s1 ⟨vs, H1, I1, r1, hz, q1⟩ => ⟨I1.kIn, ?_⟩) he hpl
  exact run_exv T iC tI F1 hr hb I1 r1 hz q1
theorem pe_exv0 {x : Str} {p pos : Pos} (T : ExV X.K C) (iC : PySem.W.findIn X.K (.ref C) "__init__" = some (some (.ref fI))) (tI : PySem.W.typeIn X.K (.ref fI) = some (.type "function"))
    (F1 : FnOk X.prog X.w X.K X.mg X.base CX0 k fI fd ps sp) (hr : Room (k + 1) X.A) (hb : Binds X.K fd ps []) (hg : Gl X x) (hm : X.mg x = some (.ref C)) (hdb : (x == ("__debug__" : Str)) = false := by decide) : PE X (.Call (.Name x p) [] [] pos) (tExV C sp tNil) := by
  refine ⟨fun pins s σ H Q I h => ?_⟩
  refine wpAny_Call_Name_kw (ld_glob I hg hm ?_ hdb)
  exact PySem.W.callWith_K0 I.kIn T.ox.kC (run_exv (us := []) T iC tI F1 hr hb I .nil h.1 h.2)
/-- e.f of such an exception -/
def tExF (K : PySem.W.Frag) (n : Str) (te : TE) : TE := fun σ H Q => te σ H fun x H1 => ∃ (a C dd : Addr) (fs : List (Str × V)) (v : V), x = .ref a ∧ ExV K C ∧ PySem.W.findIn K (.ref C) n = some none ∧ H1 a = some (exo a C (some dd)) ∧ H1 dd = some (exd dd fs) ∧ fs.lookup n = some v ∧ Q v H1
theorem pe_exf {e : Expr} {te : TE} {pos : Pos} {n : Str} (he : PE X e te) (hb : attributeBase e n X.env (eval e X.env) = eval e X.env := by rfl) : PE X (.Attribute e n pos) (tExF X.K n te) := by
  refine ⟨fun pins s σ H Q I h => ?_⟩
  refine attr_of hb (thn (he.run pins s σ H _ I h) fun u s1 hh => ?_)
  obtain ⟨x, H1, I1, rx, a, C, dd, fs, v, ex, T, hno, ha, hd, l, q⟩ := hh
  subst ex
  obtain rfl : u = Value.ref a := rx
  obtain ⟨t1, ea⟩ := exo_at I1.hok ha
  obtain ⟨mA, hns, hr⟩ := exd_at I1.hok hd
  obtain ⟨od, ho, hl⟩ := lookIn_ns hns
  obtain ⟨u, hu, ru⟩ := RelO.some_of (v := v) (o := mA n) (by rw [← l]; exact hr n)
  have J : PySem.W.InstAt s1.heap a _ C (some od) := ⟨ea, rfl, rfl, ho⟩
  exact HandSPX.exc_get I1.kIn J T.ga T.gg T.ox.exC (PySem.W.findObj_own T.hd hno rfl (by rw [hl, hu])) (handed_of ru) ⟨v, H1, I1.tok _, ru, q⟩
end
end Law
namespace Law
open PySem PySem.Spec PyProof.Rows L2
def spIni (C : Addr) (f : Str) : Sp := fun vs H Q _ => ∃ (a : Addr) (v : V), vs = [.ref a, v] ∧ H a = some (exo a C none) ∧ ∀ dx, H dx = none → dx ≠ a → Q .non (upd (upd H dx (exd dx [(f, v)])) a (exo a C (some dx)))
def spPas : Sp := fun vs H Q _ => ∃ a : Addr, vs = [.ref a] ∧ Q .non H
structure Er1 (P : Program) (w : World) (K : PySem.W.Frag) (mg : Str → Option Value) (base : Heap) (x : Str) (C : Addr) (f : Str) : Prop where
  T : ExV K C
  m : mg x = some (.ref C)
  no : PySem.W.findIn K (.ref C) f = some none
  fn : ∃ fI fd ps, PySem.W.findIn K (.ref C) "__init__" = some (some (.ref fI)) ∧ PySem.W.typeIn K (.ref fI) = some (.type "function") ∧ FnOk P w K mg base CX0 1 fI fd ps (spIni C f) ∧ Binds K fd ps []
structure Er0 (P : Program) (w : World) (K : PySem.W.Frag) (mg : Str → Option Value) (base : Heap) (x : Str) (C : Addr) : Prop where
  T : ExV K C
  m : mg x = some (.ref C)
  fn : ∃ fI fd ps, PySem.W.findIn K (.ref C) "__init__" = some (some (.ref fI)) ∧ PySem.W.typeIn K (.ref fI) = some (.type "function") ∧ FnOk P w K mg base CX0 1 fI fd ps spPas ∧ Binds K fd ps []
end Law
namespace Law
open PySem PySem.Spec PyProof.Rows L2
section
variable {X : Cx} {a : Addr} {oe : Obj} {cls : Value} {d : Option Addr} {pn : List (Addr × Obj)}
/-- isinstance of the error that a suite holds, its dict there -/
def rIsS (K : PySem.W.Frag) (a : Addr) (cls : Value) (d : Option Addr) : List V → Hp → VK → Prop := fun xs H Q => ∃ (C dd : Addr) (fs : List (Str × V)) (c : V) (cv : Value) (b : Bool), xs = [.ref a, c] ∧ cls = .ref C ∧ ExV K C ∧ d = some dd ∧ H dd = some (.xd fs) ∧ ClsV c cv ∧ PySem.W.kitOne K (.ref C) cv = some b ∧ Q (.bl b) H
theorem call_isS (hz : Zc cls d oe) (hf : ∃ vs, oe.data = .fields vs) : CallR (X.suite a ((a, oe) :: pn)) (.builtin "isinstance") (rIsS X.K a cls d) := by
  intro pins s σ H xs us Q I r h
  obtain ⟨C, dd, fs, c, cv, b, rfl, rfl, T, rfl, hd, k, e, q⟩ := h
  obtain ⟨u1, u2, rfl, r1, r2⟩ := vals2 r
  cases (show u1 = Value.ref a from r1)
  have e2 := k.eq r2
  subst e2
  obtain ⟨hget, _⟩ := I.pin (a, oe) (List.mem_append.mpr (.inl List.mem_cons_self))
  obtain ⟨vs, hv⟩ := hf
  have hx : ObjOk X.prog X.w H s.heap dd (.xd fs) := I.hok dd _ hd
  obtain ⟨mA, hns, hr⟩ := hx
  obtain ⟨od, ho, hl⟩ := lookIn_ns hns
  have J : PySem.W.InstAt s.heap a oe C (some od) := ⟨hget, hz.1, by unfold PySem.W.notCls; rw [hv] <;> rfl, by rw [hz.2]; exact ho⟩
  exact PySem.W.kia_one (PySem.W.kitx_exc T.cl T.ga T.gg T.ox.exC T.ha T.hn T.ht T.hm) I.kIn J e (fun z => nomatch z) fun tk => ⟨.bl b, H, I.kept (t' := tk) fun _ _ z => z, rfl, q⟩
def tXs (K : PySem.W.Frag) (a : Addr) (cls : Value) (d : Option Addr) (n : Str) (te : TE) : TE := fun σ H Q => te σ H fun x H1 => x = .ref a ∧ ∃ (C dd : Addr) (fs : List (Str × V)) (v : V), cls = .ref C ∧ ExV K C ∧ PySem.W.findIn K (.ref C) n = some none ∧ d = some dd ∧ H1 dd = some (.xd fs) ∧ fs.lookup n = some v ∧ Q v H1
theorem pe_xs {e : Expr} {te : TE} {pos : Pos} {n : Str} (hz : Zc cls d oe) (hf : ∃ vs, oe.data = .fields vs) (he : PE (X.suite a ((a, oe) :: pn)) e te) (hb : attributeBase e n X.env (eval e X.env) = eval e X.env := by rfl) :
    PE (X.suite a ((a, oe) :: pn)) (.Attribute e n pos) (tXs X.K a cls d n te) := by
  refine ⟨fun pins s σ H Q I h => ?_⟩
  refine attr_of hb (thn (he.run pins s σ H _ I h) fun u s1 hh => ?_)
  obtain ⟨x, H1, I1, rx, ex, C, dd, fs, v, ec, T, hno, ed, ea, l, q⟩ := hh
  subst ex
  obtain rfl : u = Value.ref a := rx
  subst ec
  subst ed
  obtain ⟨ha, _⟩ := I1.pin (a, oe) (List.mem_append_left _ List.mem_cons_self)
  obtain ⟨vs, hd⟩ := hf
  have hx : ObjOk X.prog X.w H1 s1.heap dd (.xd fs) := I1.hok dd _ ea
  obtain ⟨mA, hns, hr⟩ := hx
  obtain ⟨od, ho, hl⟩ := lookIn_ns hns
  obtain ⟨u, hu, ru⟩ := RelO.some_of (v := v) (o := mA n) (by rw [← l]; exact hr n)
  have J : PySem.W.InstAt s1.heap a oe C (some od) := ⟨ha, hz.1, by unfold PySem.W.notCls; rw [hd] <;> rfl, by rw [hz.2]; exact ho⟩
  exact HandSPX.exc_get I1.kIn J T.ga T.gg T.ox.exC (PySem.W.findObj_own T.hd hno rfl (by rw [hl, hu])) (handed_of ru) ⟨v, H1, I1.tok _, ru, q⟩
end
theorem Er1.pmk {X : Cx} {x f : Str} {C : Addr} {p pos : Pos} {e : Expr} {es : List Expr} {ta : TA} (r : Er1 X.prog X.w X.K X.mg X.base x C f) (hr : Room 2 X.A) (ha : PA X (e :: es) ta) (hg : Gl X x := by rfl) (hdb : (x == ("__debug__" : Str)) = false := by decide)
    (he : starEach (e :: es) X.env = (false, eval e X.env) :: starEach es X.env := by rfl) (hpl : (backTo pos (starEach es X.env)).any (·.1) = false := by rfl) : PMk X (.Call (.Name x p) (e :: es) [] pos) (tMkO C (spIni C f) [] ta) := by
  obtain ⟨fI, fd, ps, h1, h2, h3, h4⟩ := r.fn
  exact pmk_oex r.T.ox h1 h2 h3 hr h4 .nil pass0 hg r.m ha hdb he hpl
end Law
namespace Law
open PySem PySem.Spec PyProof.Rows L2
theorem ba4 {a b : Bool} (h : (a && b) = true) : a = true ∧ b = true := Bool.and_eq_true_iff.mp h
theorem optT_ok2 {o : Option Bool} (h : optT o = true) : o = some true := by
  cases o with
  | none => cases h
  | some b =>
    cases b with
    | true => rfl
    | false => cases h
theorem clsB_ok {K : PySem.W.Frag} {C : Addr} (h : clsB K C = true) : ∃ nm q N bs bm sn sub ab col dd k0 k1 k2 k3 k5, K.lookup C = some (excClassObj nm q C N bs bm true sn sub ab col dd k0 k1 k2 k3 k5 "ValueError.__new__") ∧ PySem.HandSPX.refsVE bm = true := by
  unfold clsB at h
  split at h
  · rename_i dd cd sl ho
    split at h
    · rename_i C' bm k0 k1 k2 k3 n k5 hm hs
      obtain ⟨h1, h⟩ := ba4 h
      obtain ⟨h2, h⟩ := ba4 h
      obtain ⟨h3, h⟩ := ba4 h
      obtain ⟨h4, h5⟩ := ba4 h
      obtain ⟨nm, bs, mro, ns, qn, hd, sn, sb, ab, col, del⟩ := cd
      have e1 := of_decide_eq_true h1
      have e2 := of_decide_eq_true h2
      dsimp only at hm h3 h4
      have e3 : del = false := by simpa using h3
      have es : sl = #[k0, k1, k2, k3, some (.builtin n), k5] := by
        have z := congrArg List.toArray hs
        simpa using z
      subst e1 e2 e3 es hm h4
      exact ⟨nm, qn, ns, bs, bm, sn, sb, ab, col, dd, k0, k1, k2, k3, k5, ho, h5⟩
    · cases h
  · cases h
theorem exvB_ok {K : PySem.W.Frag} {C : Addr} (h : exvB K C = true) : ExV K C := by
  obtain ⟨h1, h⟩ := ba4 h
  obtain ⟨h2, h⟩ := ba4 h
  obtain ⟨h3, h⟩ := ba4 h
  obtain ⟨h4, h⟩ := ba4 h
  obtain ⟨h5, h⟩ := ba4 h
  obtain ⟨h6, h⟩ := ba4 h
  obtain ⟨h7, h⟩ := ba4 h
  obtain ⟨h8, h⟩ := ba4 h
  obtain ⟨h9, h⟩ := ba4 h
  obtain ⟨h10, h⟩ := ba4 h
  obtain ⟨h11, h⟩ := ba4 h
  obtain ⟨h12, h13⟩ := ba4 h
  exact ⟨⟨clsB_ok h1, He.eqO_ok h2, optT_ok2 h3, of_decide_eq_true h4, h5⟩, h6, He.eqO_ok h7, He.eqO_ok h8, He.eqO_ok h9, He.eqO_ok h10, optT_ok2 h11, optT_ok2 h12, h13⟩
section
variable {P : Program} {w : World} {K : PySem.W.Frag} {mg : Str → Option Value} {base : Heap}
theorem scE1 : FnScope ["self", "most"] ["self", "most"] (defScope s_TooMany_init) := ⟨rfl, rfl, rfl, by decide +kernel, rfl, by decide +kernel, by decide +kernel⟩
theorem ok_E1 {f C : Addr} {fd : FuncData} (F : Fun K "__init__" "TooMany.__init__" s_TooMany_init f fd) (O : OexC K C) (no : PySem.W.findIn K (.ref C) "most" = some none) : FnOk P w K mg base CX0 1 f fd ["self", "most"] (spIni C "most") := by
  refine F.ok scE1 (fun vs H Q E h => ?_) (fun cdv A outer s H vs Q E hr h => ?_)
  · obtain ⟨a, v, rfl, _⟩ := h
    rfl
  · obtain ⟨a, v, rfl, ha, k⟩ := h
    refine ⟨_, pss_one (ps_ost (pv 0) (pv 1)), ?_⟩
    exact ⟨_, rfl, _, rfl, a, C, rfl, O, no, .inl ⟨ha, fun dx hd ne => k dx hd ne⟩⟩
end
end Law
namespace L2
open PySem PySem.Spec PyProof.Rows
/-- a def that may raise, called by its name -/
structure ClX (P : Program) (w : World) (K : PySem.W.Frag) (mg : Str → Option Value) (base : Heap) (k : Nat) (x : Str) (f : Addr) (fd : FuncData) (ps : List Str) (sp : Sp) : Prop where
  ok : FnOk P w K mg base (L2.CX P w) k f fd ps sp
  b : Binds K fd ps []
  m : mg x = some (.ref f)
  kp : PySem.W.keepIn K (.ref f) = true
theorem ClX.callS {X : Cx} {W : WX} {k : Nat} {x : Str} {f : Addr} {fd : FuncData} {ps : List Str} {sp : Sp} {p pos : Pos} {e : Expr} {es : List Expr} {t : TA} (c : ClX X.prog X.w X.K X.mg X.base k x f fd ps sp) (hr : Room k X.A) (tk : Takes X W) (ha : PA X (e :: es) t) (hg : Gl X x := by rfl) (hdb : (x == ("__debug__" : Str)) = false := by decide)
    (he : starEach (e :: es) X.env = (false, eval e X.env) :: starEach es X.env := by rfl) (hpl : (backTo pos (starEach es X.env)).any (·.1) = false := by rfl) :
    PE X (.Call (.Name x p) (e :: es) [] pos) (tCallS sp (WE W) t) := pe_callS c.ok hr hg c.m c.kp c.b (fun σ => passAt tk σ) ha hdb he hpl
end L2
namespace Law
open PySem PySem.Spec PyProof.Rows L2
theorem del_new {H : Hp} {a : Addr} {o : HO} (h : H a = none) : del (upd H a o) a = H := by
  funext b
  unfold del
  by_cases e : b = a
  · rw [if_pos e, e, h]
  · rw [if_neg e, upd_ne e]
theorem rz_same {H : Hp} {a dx : Addr} {o1 o2 o3 o4 : HO} (ha : H a = none) (hd : (upd H a o1) dx = none) : Same H (upd (del (upd (upd (upd H a o1) dx o2) a o3) a) dx o4) := fun b o e => by
  have nb : b ≠ a := ne_of_none e ha
  have z : upd H a o1 b = some o := by
    rw [upd_ne nb]
    exact e
  have nd : b ≠ dx := ne_of_none z hd
  rw [upd_ne nd, del_ne nb, upd_ne nb, upd_ne nd, upd_ne nb]
  exact e
theorem rz_free {H : Hp} {a dx : Addr} {o1 : HO} (hd : (upd H a o1) dx = none) (ne : dx ≠ a) : H dx = none := by
  rw [upd_ne ne] at hd
  exact hd
/-- an own error with one field, raised -/
theorem rz {H H0 : Hp} {B : Addr} {f : Str} {v : V} {E : Value → Option Addr → Hp → Prop} (s : Same H0 H) (k : ∀ d H', Same H0 H' → H0 d = none → H' d = some (.xd [(f, v)]) → E (.ref B) (some d) H') : tMkO B (spIni B f) [] (fun σ H Q => Q [v] H) [] H fun cls d H' => E cls d H' := by
  refine ⟨by simp, fun ax hax => ⟨ax, _, rfl, upd_same, fun dd hd ne => ⟨rfl, dd, [(_, _)], upd_same, by rw [upd_ne ne, upd_same], rz_free hd ne, ?_⟩⟩⟩
  exact k dd _ (s.trans (rz_same hax hd)) (s.free (rz_free hd ne)) upd_same
end Law
namespace L2
theorem lk_hit {k : PySem.Str} {v : V} {es : List (PySem.Str × V)} : ((k, v) :: es).lookup k = some v := by simp [List.lookup]
end L2
namespace Law
open PySem L2
section
variable {P : Program} {w : World} {K : PySem.W.Frag} {mg : Str → Option Value} {base : Heap}
def spFirst (K : PySem.W.Frag) (C : Addr) : Sp := fun vs H Q _ => ∃ (q : Addr) (m : Mdl) (most : Int), vs = [.ref q, .int most] ∧ ModAt K C H q m ∧ MOk m ∧ 1 ≤ most ∧ most ≤ 1001 ∧
  ∀ (p : Addr) (ws : List V) (H' : Hp), H p = none → Same H H' → H' p = some (.lst ws) → AllIn (RowAt K H') ws ((ext m m.many.toNat []).take most.toNat) → Q (.ref p) H'
abbrev nFirstFitting : List Str := ["model", "most"]
theorem scFirstFitting : FnScope nFirstFitting ["model", "most"] (defScope s_first_fitting) := ⟨rfl, rfl, rfl, by decide +kernel, rfl, by decide +kernel, by decide +kernel⟩
theorem ok_first_fitting {f : Addr} {fd : FuncData} {fcFF : Addr} {fdcFF : FuncData} {C : Addr} (F : Fun K "first_fitting" "first_fitting" s_first_fitting f fd) (T : NmA mg) (cFF : Cl P w K mg base CX0 14 "fitting_from" fcFF fdcFF ["model", "begun", "most", "dead"] (spFF12 P w K C)) : FnOk P w K mg base CX0 15 f fd ["model", "most"] (spFirst K C) := by
  refine F.ok scFirstFitting (fun vs H Q E h => ?_) (fun cdv A' outer s H vs Q E hr h => ?_)
  · obtain ⟨q, m, most, rfl, _⟩ := h
    rfl
  · obtain ⟨q, m, most, rfl, hM, ok, m1, m2, k⟩ := h
    refine ⟨_, pss_one (ps_ret (cFF.call (hr.mono (by decide)) (pa_cons (pv 0) (pa_cons (pe_tup pa_nil) (pa_cons (pv 1) (pa_cons pe_dnewN pa_nil)))))), ?_⟩
    have mm := ok.m1
    have m12 := ok.m12
    refine ⟨_, rfl, by show 0 ≤ sizeLine; decide, fun t ht => ?_⟩
    refine new_step ht fun H1 s1 e1 => ?_
    refine ⟨_, rfl, fun d H2 hd s2 nd => ?_⟩
    have s12 := s1.trans s2
    have ad : addN m.many.toNat ≤ 6000000 := by
      have : ∀ n, n ≤ 12 → addN n ≤ 6000000 := by decide +kernel
      exact this _ (by omega)
    refine ⟨m.many.toNat, by omega, q, t, d, m, [], most, [], rfl, hM.same s12, ok, SqT.of (s2 _ _ e1), by show ((0 + m.many.toNat : Nat) : Int) = _; omega, fun x hx => absurd hx List.not_mem_nil, m1, m2, nd, fun x hx => absurd hx List.not_mem_nil, by show 0 + addN m.many.toNat ≤ _; omega, fun p ws ks H3 hp x3 h3 a3 _ _ _ => ?_⟩
    have d0 : H d = none := s1.free hd
    exact k p ws H3 (s12.free hp) (fun c o e => x3 c o (ne_of_none e d0) (s12 _ _ e)) h3 a3
def spFit0 (K : PySem.W.Frag) (C : Addr) : Sp := fun vs H Q _ => ∃ (q : Addr) (m : Mdl), vs = [.ref q] ∧ ModAt K C H q m ∧ MOk m ∧ (ext m m.many.toNat []).length ≤ 1000 ∧
  ∀ (p : Addr) (ws : List V) (H' : Hp), H p = none → Same H H' → H' p = some (.lst ws) → AllIn (RowAt K H') ws (ext m m.many.toNat []) → Q (.ref p) H'
abbrev nFittingZ : List Str := ["model", "found"]
theorem scFittingZ : FnScope nFittingZ ["model"] (defScope s_fitting) := ⟨rfl, rfl, rfl, by decide +kernel, rfl, by decide +kernel, by decide +kernel⟩
theorem ok_fit0 {f : Addr} {fd : FuncData} {fcFirst : Addr} {fdcFirst : FuncData} {C : Addr} (F : Fun K "fitting" "fitting" s_fitting f fd) (T : NmA mg) (cFirst : Cl P w K mg base CX0 15 "first_fitting" fcFirst fdcFirst ["model", "most"] (spFirst K C)) : FnOk P w K mg base CX0 16 f fd ["model"] (spFit0 K C) := by
  refine F.ok scFittingZ (fun vs H Q E h => ?_) (fun cdv A' outer s H vs Q E hr h => ?_)
  · obtain ⟨q, m, rfl, _⟩ := h
    rfl
  · obtain ⟨q, m, rfl, hM, ok, hl, k⟩ := h
    refine ⟨_, pss_cons (ps_set (i := 1) scFittingZ.nd rfl (Or.inl rfl) (cFirst.call (hr.mono (by decide)) (pa_cons (pv 0) (pa_cons pe_int pa_nil))))
      (pss_cons (ps_if (pt_cmpR op_gt (pe_callB call_len_seq (by rfl) T.len PySem.boot_len (pa_cons (pv 1) pa_nil)) pe_int (nomark _))
        pss_never pss_nil)
      (pss_one (ps_ret (pv 1)))), ?_⟩
    refine ⟨_, rfl, q, m, 1001, rfl, hM, ok, by decide, by decide, fun p ws H1 hp s1 h1 a1 => ?_⟩
    rw [List.take_of_length_le (by show _ ≤ 1001; omega)] at a1
    refine ⟨_, rfl, p, _, rfl, .inl (SqL.of h1), _, _, rfl, rfl, _, rfl, ?_⟩
    rw [a1.1, decide_eq_false (by omega)]
    exact iteF ⟨_, rfl, k p ws H1 hp s1 h1 a1⟩
def spFitX (K : PySem.W.Frag) (C B : Addr) : Sp := fun vs H Q E => ∃ (q : Addr) (m : Mdl), vs = [.ref q] ∧ ModAt K C H q m ∧ MOk m ∧
  (∀ d H', 1000 < (ext m m.many.toNat []).length → Same H H' → H d = none → H' d = some (.xd [("most", .int 1000)]) → E (.ref B) (some d) H') ∧
  ∀ (p : Addr) (ws : List V) (H' : Hp), (ext m m.many.toNat []).length ≤ 1000 → H p = none → Same H H' → H' p = some (.lst ws) → AllIn (RowAt K H') ws (ext m m.many.toNat []) → Q (.ref p) H'
abbrev nFittingX : List Str := ["model", "found"]
theorem scFittingX : FnScope nFittingX ["model"] (defScope s_fitting) := ⟨rfl, rfl, rfl, by decide +kernel, rfl, by decide +kernel, by decide +kernel⟩
theorem ok_fitx {f : Addr} {fd : FuncData} {fcFirst : Addr} {fdcFirst : FuncData} {C B : Addr} (F : Fun K "fitting" "fitting" s_fitting f fd) (T : NmA mg) (cFirst : Cl P w K mg base CX0 15 "first_fitting" fcFirst fdcFirst ["model", "most"] (spFirst K C)) (eTM : Er1 P w K mg base "TooMany" B "most") : FnOk P w K mg base (L2.CX P w) 16 f fd ["model"] (spFitX K C B) := by
  refine F.okX scFittingX (fun vs H Q E h => ?_) (fun cdv A' outer s H vs Q E hr h => ?_)
  · obtain ⟨q, m, rfl, _⟩ := h
    rfl
  · obtain ⟨q, m, rfl, hM, ok, kE, k⟩ := h
    refine ⟨_, pss_cons (ps_set (i := 1) scFittingX.nd rfl (Or.inl rfl) (cFirst.call (hr.mono (by decide)) (pa_cons (pv 0) (pa_cons pe_int pa_nil))))
      (pss_cons (ps_if (pt_cmpR op_gt (pe_callB call_len_seq (by rfl) T.len PySem.boot_len (pa_cons (pv 1) pa_nil)) pe_int (nomark _))
        (pss_one (ps_raise rfl (takes_of rfl rfl rfl rfl) (eTM.pmk (hr.mono (by decide)) (pa_cons pe_int pa_nil)))) pss_nil)
      (pss_one (ps_ret (pv 1)))), ?_⟩
    refine ⟨_, rfl, q, m, 1001, rfl, hM, ok, by decide, by decide, fun p ws H1 hp s1 h1 a1 => ?_⟩
    refine ⟨_, rfl, p, _, rfl, .inl (SqL.of h1), _, _, rfl, rfl, _, rfl, ?_⟩
    have z := a1.1
    rw [List.length_take] at z
    have z : ws.length = min 1001 (ext m m.many.toNat []).length := z
    by_cases c : (ext m m.many.toNat []).length ≤ 1000
    · rw [decide_eq_false (by omega)]
      rw [List.take_of_length_le (by show _ ≤ 1001; omega)] at a1
      exact iteF ⟨_, rfl, k p ws H1 c hp s1 h1 a1⟩
    · rw [decide_eq_true (by omega)]
      exact iteT (rz s1 fun d H' s hd hx => kE d H' (by omega) s hd hx)
def TldAt (K : PySem.W.Frag) (H : Hp) (a : Addr) (m : Mdl) : Prop := if (ext m m.many.toNat []).length ≤ 1000 then ∃ (p : Addr) (ws : List V), SqT K H a [.str "told", .ref p] ∧ H p = some (.lst ws) ∧ AllIn (RowAt K H) ws (ext m m.many.toNat []) else SqT K H a [.str "many", .int 1000]
def spTold (K : PySem.W.Frag) (C : Addr) : Sp := fun vs H Q _ => ∃ (q : Addr) (m : Mdl), vs = [.ref q] ∧ ModAt K C H q m ∧ MOk m ∧ ∀ a H', Same H H' → TldAt K H' a m → Q (.ref a) H'
abbrev nLawTold : List Str := ["_law_made_here", "_law_found", "e"]
theorem scLawTold : FnScope nLawTold ["_law_made_here"] (defScope s_law_told) := ⟨rfl, rfl, rfl, by decide +kernel, rfl, by decide +kernel, by decide +kernel⟩
def tbTold (sp : Sp) (W : WX) : TS := tAsg (tCallS sp (WE W) (tCons (tVar 0) tNil)) (gName 1)
theorem ok_told {f : Addr} {fd : FuncData} {fcFitX : Addr} {fdcFitX : FuncData} {C B : Addr} (F : Fun K "_law_told" "_law_told" s_law_told f fd) (cFitX : ClX P w K mg base 16 "fitting" fcFitX fdcFitX ["model"] (spFitX K C B)) (eTM : Er1 P w K mg base "TooMany" B "most") (x1 : PySem.W.exmOne K (.ref B) (.ref B) = some true) : FnOk P w K mg base CX0 17 f fd ["_law_made_here"] (spTold K C) := by
  refine F.ok scLawTold (fun vs H Q E h => ?_) (fun cdv A' outer s H vs Q E hr h => ?_)
  · obtain ⟨q, m, rfl, _⟩ := h
    rfl
  · obtain ⟨q, m, rfl, hM, ok, k⟩ := h
    refine ⟨_, pss_cons (ps_try_manyAs (n := "e") (i := 2) (tb := tbTold (spFitX K C B)) (l := _) (Wout := fun _ _ _ _ => False) rfl rfl scLawTold.nd rfl rfl takes0
        (fun W pn xe tk _ => pss_one (ps_set (i := 1) scLawTold.nd rfl (Or.inl rfl) (cFitX.callS (hr.mono (by decide)) tk (pa_cons (pv 0) pa_nil))))
        (.cons ⟨rfl, by decide, .inl eTM.m⟩ (fun a oe cls d pn hz hf => pss_one (ps_ret (pe_tup (pa_cons pe_str (pa_cons (pe_xs hz hf (pv 2)) pa_nil))))) .nil))
      (pss_one (ps_ret (pe_tup (pa_cons pe_str (pa_cons (pv 1) pa_nil))))), ?_⟩
    refine ⟨_, rfl, q, m, rfl, hM, ok, fun d H1 hl s1 hd hx => ?_, fun p ws H1 hl hp s1 h1 a1 => ?_⟩
    · refine ⟨true, x1, fun _ a ha => ?_, fun q => nomatch q⟩
      refine ⟨_, rfl, rfl, B, d, _, _, rfl, eTM.T, eTM.no, rfl, hx, lk_hit, by show 2 ≤ sizeLine; decide, fun r hr2 => ?_⟩
      refine k r _ (s1.trans (Same.new hr2)) ?_
      unfold TldAt
      rw [if_neg (by omega)]
      exact SqT.of upd_same
    · refine ⟨_, rfl, by show 2 ≤ sizeLine; decide, fun r hr2 => ?_⟩
      refine k r _ (s1.trans (Same.new hr2)) ?_
      unfold TldAt
      rw [if_pos hl]
      exact ⟨p, ws, SqT.of upd_same, (Same.new hr2) _ _ h1, a1.mono fun _ _ h => h.same (Same.new hr2)⟩
end
end Law

namespace L2
open PySem PySem.Spec PyProof.Rows
def upI (n : Int) : List Int := (List.range n.toNat).map fun i : Nat => (i : Int)
theorem vals_up (m : Mdl) : valsM m = upI m.levels := rfl
theorem up_len (n : Int) : (upI n).length = n.toNat := by unfold upI; rw [List.length_map, List.length_range]
theorem pics_len (L : List Int) : ∀ n, (picsL L n).length = L.length ^ n
  | 0 => rfl
  | n + 1 => by
    show ((picsL L n).flatMap fun f => L.map fun v => f ++ [v]).length = _
    rw [Nat.pow_succ, ← pics_len L n, List.length_flatMap]
    have : (picsL L n).map (fun f => (L.map fun v => f ++ [v]).length) = (picsL L n).map fun _ => L.length := List.map_congr_left fun f _ => List.length_map ..
    rw [this]
    generalize picsL L n = P
    induction P with
    | nil => simp
    | cons x P ih => rw [List.map_cons, List.sum_cons, ih, List.length_cons, Nat.add_mul, Nat.one_mul, Nat.add_comm]
end L2
namespace Law
open PySem L2
theorem mod_dic {K : PySem.W.Frag} {H : Hp} {d : Addr} {m : Mdl} (h : DicAt K H d m) : ∃ wa ta wvs tvs, H d = some (.dK (mdK m.many m.levels wa ta)) ∧ SqT K H wa wvs ∧ AllIn (RowAt K H) wvs m.ws ∧ SqT K H ta tvs ∧ AllIn (TieAt K H) tvs m.ts := by
  obtain ⟨wa, ta, h1, ⟨wvs, h2, h3⟩, tvs, h4, h5⟩ := h
  exact ⟨wa, ta, wvs, tvs, h1, h2, h3, h4, h5⟩
theorem num_pick {d c : Int} (d0 : 0 ≤ d ∧ d ≤ 1000) (c0 : 0 ≤ c ∧ c ≤ 1000) {i : Nat} {x : V} (h : ([.int 0, .int 1, .int 1, .int 1, .int 2, .int 3, .int d, .int c] : List V)[i]? = some x) : ∃ n : Int, x = .int n ∧ 0 ≤ n ∧ n ≤ 1000 := by
  have m := List.mem_of_getElem? h
  simp only [List.mem_cons, List.not_mem_nil, or_false] at m
  rcases m with rfl | rfl | rfl | rfl | rfl | rfl | rfl | rfl
  all_goals first | exact ⟨_, rfl, by decide, by decide⟩ | exact ⟨_, rfl, d0⟩ | exact ⟨_, rfl, c0⟩
section
variable {P : Program} {w : World} {K : PySem.W.Frag} {mg : Str → Option Value} {base : Heap}
def spNum : Sp := fun vs H Q _ => ∃ p : Addr, vs = [.ref p] ∧ HandAt H p ∧ ∀ (n : Int) (H' : Hp), 0 ≤ n → n ≤ 1000 → Stp p H H' → Q (.int n) H'
abbrev nLawNumber : List Str := ["_law_hand_here"]
theorem scLawNumber : FnScope nLawNumber ["_law_hand_here"] (defScope s_law_number) := ⟨rfl, rfl, rfl, by decide +kernel, rfl, by decide +kernel, by decide +kernel⟩
theorem ok_number {f : Addr} {fd : FuncData} {fA : Addr} {fdA : FuncData} {fD : Addr} {fdD : FuncData} (F : Fun K "_law_number" "_law_number" s_law_number f fd) (T : NmA mg) (A : Cl P w K mg base CX0 2 "_law_any" fA fdA ["_law_hand_here", "_law_things"] (spAny K)) (D : Cl P w K mg base CX0 1 "_law_draw" fD fdD ["_law_hand_here", "_law_many"] spDraw) : FnOk P w K mg base CX0 3 f fd ["_law_hand_here"] spNum := by
  refine F.ok scLawNumber (fun vs H Q E h => ?_) (fun cdv A' outer s H vs Q E hr h => ?_)
  · obtain ⟨p, rfl, _⟩ := h
    rfl
  · obtain ⟨p, rfl, hH, k⟩ := h
    refine ⟨_, pss_one (ps_ret (A.call (hr.mono (by decide)) (pa_cons (pv 0) (pa_cons (pe_lst (pa_cons pe_int (pa_cons pe_int (pa_cons pe_int (pa_cons pe_int (pa_cons pe_int (pa_cons pe_int (pa_cons (D.call (hr.mono (by decide)) (pa_cons (pv 0) (pa_cons pe_int pa_nil))) (pa_cons (pe_ifExp (pt_cmpR op_eq (D.call (hr.mono (by decide)) (pa_cons (pv 0) (pa_cons pe_int pa_nil))) pe_int (nomark _)) pe_int pe_int) pa_nil))))))))) pa_nil)))), ?_⟩
    refine ⟨_, rfl, _, rfl, p, 12, rfl, by decide, by decide, hH, fun d H1 d0 d1 S1 => ?_⟩
    refine mrgIf (fun v H' => ∃ c : Int, v = .int c ∧ (0 ≤ c ∧ c ≤ 1000) ∧ Stp p H H') (fun Q' key => ?_) ?_
    · refine ⟨_, rfl, p, 20, rfl, by decide, by decide, S1.hand, fun e H2 _ _ S2 => ⟨rfl, _, rfl, ite2 (fun _ => ?_) (fun _ => ?_)⟩⟩
      · exact key _ _ ⟨1000, rfl, ⟨by decide, by decide⟩, S1.trans S2⟩
      · exact key _ _ ⟨1, rfl, ⟨by decide, by decide⟩, S1.trans S2⟩
    rintro v H2 ⟨c, rfl, c0, S2⟩
    refine ⟨by show 8 ≤ sizeLine; decide, fun L hL => ?_⟩
    refine new_step hL fun H3 s3 e3 => ?_
    refine ⟨p, L, _, rfl, .inl (SqL.of e3), by show 0 < 8; decide, by show 8 < 1073741824; decide, S2.hand.same s3, fun i x H4 hx S4 => ?_⟩
    obtain ⟨n, rfl, n0, n1⟩ := num_pick ⟨d0, by omega⟩ c0 hx
    exact k n H4 n0 n1 ((S2.post s3).trans S4)
def spPics (K : PySem.W.Frag) : Sp := fun vs H Q _ => ∃ many levels : Int, vs = [.int many, .int levels] ∧ 0 ≤ many ∧ many ≤ 12 ∧ 1 ≤ levels ∧ levels ≤ 4 ∧ levels.toNat ^ many.toNat ≤ 1000 ∧
  ∀ (p : Addr) (ws : List V) (H' : Hp), H p = none → Same H H' → H' p = some (.lst ws) → AllIn (RowAt K H') ws (picsL (upI levels) many.toNat) → Q (.ref p) H'
abbrev nLawPictures : List Str := ["_law_many", "_law_levels", "_law_found", "_law_place", "_law_longer", "_law_front", "_law_level"]
theorem scLawPictures : FnScope nLawPictures ["_law_many", "_law_levels"] (defScope s_law_pictures) := ⟨rfl, rfl, rfl, by decide +kernel, rfl, by decide +kernel, by decide +kernel⟩
theorem ok_pictures {f : Addr} {fd : FuncData} (F : Fun K "_law_pictures" "_law_pictures" s_law_pictures f fd) (T : NmA mg) : FnOk P w K mg base CX0 1 f fd ["_law_many", "_law_levels"] (spPics K) := by
  refine F.ok scLawPictures (fun vs H Q E h => ?_) (fun cdv A' outer s H vs Q E hr h => ?_)
  · obtain ⟨many, levels, rfl, _⟩ := h
    rfl
  · obtain ⟨many, levels, rfl, m0, m1, l0, l1, pw, k⟩ := h
    have hu := hu_of hr
    refine ⟨_, pss_cons (ps_set (i := 2) scLawPictures.nd rfl (Or.inl rfl) (pe_lst (pa_cons (pe_tup pa_nil) pa_nil)))
      (pss_cons (ps_for PassesOwn.never rfl (pi_range1 (by rfl) T.range (pa_cons (pv 0) pa_nil)) (pg_name (i := 3) scLawPictures.nd rfl (Or.inl rfl))
        (pss_cons (ps_set (i := 4) scLawPictures.nd rfl (Or.inl rfl) (pe_lst pa_nil))
        (pss_cons (ps_for PassesOwn.never rfl (pi_list (pv 2)) (pg_name (i := 5) scLawPictures.nd rfl (Or.inr rfl))
          (pss_one (ps_expr (pe_bm PySem.F.plainAttrs_list PySem.F.slot_list_extend PySem.F.type_list_extend mt_extend (pv 4) (pa_cons (pe_lc (own := [("_law_level", 6)]) (g := (gName 6)) (tt := tYes) rfl scLawPictures.nd  (pi_range1 (by rfl) T.range (pa_cons (pv 1) pa_nil)) (blkOk_by (own := [("_law_level", 6)]) (N := nLawPictures) (sc := defScope s_law_pictures) (by decide +kernel)) (fun _ _ _ _ _ => (pg_name (i := 6) scLawPictures.nd rfl (Or.inl rfl))) (fun _ _ _ _ _ => pts_nil) (fun _ _ _ _ _ => (pe_op (r := rCatA K) (show OpR _ (binaryOp .Add) (rCatA K) from op_catA) (pv 5) (pe_tup (pa_cons (pv 6) pa_nil))))) pa_nil)))))
        (pss_one (ps_set (i := 2) scLawPictures.nd rfl (Or.inl rfl) (pv 4))))))
      (pss_one (ps_ret (pv 2)))), ?_⟩
    refine ⟨by show 0 ≤ sizeLine; decide, fun t ht => ?_⟩
    refine new_step ht fun H1 s1 e1 => ?_
    refine ⟨by show 1 ≤ sizeLine; decide, fun F hF => ?_⟩
    have F0 : H F = none := s1.free hF
    refine new_step hF fun H2 s2 e2 => ?_
    have s02 := s1.trans s2
    refine ⟨_, rfl, _, rfl, by omega, by omega, ?_⟩
    have small : ∀ i, i ≤ many.toNat → (picsL (upI levels) i).length ≤ 1000 := fun i hi => by
      rw [pics_len, up_len]
      exact Nat.le_trans (Nat.pow_le_pow_right (by omega) hi) pw
    refine for_range (lo := 0) (n := many.toNat) (fun i σ H' => (Same H H' ∧ ∃ (F : Addr) (ws : List V), H F = none ∧ H' F = some (.lst ws) ∧ AllIn (RowAt K H') ws (picsL (upI levels) i) ∧ ∃ u1 u2 u3 : Option V, σ = [some (.int many), some (.int levels), some (.ref F), u1, u2, u3, none])) ⟨s02, F, _, F0, e2, ⟨rfl, fun i v hv => ?_⟩, none, none, none, rfl⟩ ?_ ?_
    · cases i with
      | zero =>
        cases hv
        exact ⟨[], rfl, t, rfl, SqT.of (s2 _ _ e1)⟩
      | succ i => cases hv
    · rintro i σ H3 hi ⟨s3, F, ws, F0, h3, a3, u1, u2, u3, rfl⟩
      have sm := small (i + 1) hi
      have smi := small i (by omega)
      refine ⟨by show 0 ≤ sizeLine; decide, fun G hG => ?_⟩
      have G0 : H G = none := s3.free hG
      refine new_step hG fun H4 s4 e4 => ?_
      have h4 := s4 _ _ h3
      refine ⟨_, rfl, F, rfl, ⟨_, SqL.of h4⟩, for_list (xs := ws) (fun j σ H' => (Same H3 H' ∧ ∃ gs : List V, H' G = some (.lst gs) ∧ AllIn (RowAt K H') gs (((picsL (upI levels) i).take j).flatMap fun f => (upI levels).map fun v => f ++ [v]) ∧ ∃ u1 u2 : Option V, σ = [some (.int many), some (.int levels), some (.ref F), u1, some (.ref G), u2, none])) ⟨s4, [], e4, AllIn.nil, _, _, rfl⟩ (fun j σ H' _ h => SqL.of (h.1 _ _ h3)) ?_ ?_⟩
      · rintro j x σ H5 hj ⟨s5, gs, g5, b5, u1, u2, rfl⟩
        obtain ⟨f, hf, fa, rfl, hS⟩ := a3.2 j x hj
        have fl : f.length ≤ 12 := by
          have := List.mem_of_getElem? hf
          rw [pics_all] at this
          obtain ⟨sf, ef, el, _⟩ := allX_mem this
          rw [ef, List.nil_append]
          omega
        have sz : gs.length + (upI levels).length ≤ 1000 := by
          have e1 : ((picsL (upI levels) i).take (j + 1)).flatMap (fun f => (upI levels).map fun v => f ++ [v]) = ((picsL (upI levels) i).take j).flatMap (fun f => (upI levels).map fun v => f ++ [v]) ++ (upI levels).map fun v => f ++ [v] := by
            rw [List.take_add_one, hf, List.flatMap_append]
            congr 1
            show List.flatMap _ [f] = _
            rw [List.flatMap_cons, List.flatMap_nil, List.append_nil]
          have e2 : (((picsL (upI levels) i).take (j + 1)).flatMap (fun f => (upI levels).map fun v => f ++ [v])).length ≤ (picsL (upI levels) (i + 1)).length := by
            show _ ≤ ((picsL (upI levels) i).flatMap _).length
            conv => rhs; rw [← List.take_append_drop (j + 1) (picsL (upI levels) i), List.flatMap_append, List.length_append]
            exact Nat.le_add_right _ _
          rw [e1, List.length_append, List.length_map, ← b5.1] at e2
          omega
        refine ⟨_, rfl, .inl ⟨rfl, _, SqL.of g5⟩, _, rfl, _, rfl, by omega, by omega, fun D hD => ?_⟩
        have s35 := s5
        refine lc_range (lo := 0) (n := levels.toNat) (fun l H' => Same H5 H' ∧ ∃ ds : List V, H' D = some (.lst ds) ∧ AllIn (RowAt K H') ds ((upI levels).take l |>.map fun v => f ++ [v])) ⟨Same.new hD, [], upd_same, AllIn.nil⟩ (fun l H6 hl g => ?_) fun H6 g => ?_
        · obtain ⟨s6, ds, d6, c6⟩ := g
          refine ⟨rfl, _, rfl, _, rfl, by show 1 ≤ sizeLine; decide, fun o ho => ?_⟩
          refine new_step ho fun H7 s7 e7 => ?_
          rw [Int.zero_add] at e7
          refine catA_ok (((s35.trans s6).trans s7).sqT hS) (SqT.of e7) (by simp) (by rw [List.length_map, sizeLine_eq]; show _ + 1 ≤ _; omega) fun o2 H8 s8 hS8 => ?_
          have s68 := s7.trans s8
          have d8 := s68 _ _ d6
          have tk : (upI levels).take (l + 1) = (upI levels).take l ++ [(l : Int)] := by
            have e : (upI levels)[l]? = some (l : Int) := by unfold upI; rw [List.getElem?_map, List.getElem?_range hl] <;> rfl
            rw [List.take_add_one, e] <;> rfl
          refine ⟨ds, d8, ?_, (s6.trans s68).mut hD, ds ++ [.ref o2], upd_same, ?_⟩
          · rw [c6.1, List.length_map, List.length_take, up_len]
            exact small1000 (by omega)
          · rw [tk, List.map_append]
            refine AllIn.snoc (c6.mono fun _ _ h => (h.same s68).upd d8) (RowAt.upd d8 ⟨o2, rfl, ?_⟩)
            rw [List.map_append]
            exact hS8
        · obtain ⟨s6, ds, d6, c6⟩ := g
          rw [List.take_of_length_le (by rw [up_len]; exact Nat.le_refl _)] at c6
          have g6 := s6 _ _ g5
          have s36 := s5.trans s6
          refine ⟨G, D, _, _, rfl, rfl, g6, d6, ?_, s36.mut hG, gs ++ ds, upd_same, ?_, _, _, rfl⟩
          · rw [c6.1, List.length_map, sizeLine_eq]
            omega
          · have e1 : ((picsL (upI levels) i).take (j + 1)).flatMap (fun f => (upI levels).map fun v => f ++ [v]) = ((picsL (upI levels) i).take j).flatMap (fun f => (upI levels).map fun v => f ++ [v]) ++ (upI levels).map fun v => f ++ [v] := by
              rw [List.take_add_one, hf, List.flatMap_append]
              congr 1
              show List.flatMap _ [f] = _
              rw [List.flatMap_cons, List.flatMap_nil, List.append_nil]
            rw [e1]
            exact (AllIn.app (b5.mono fun _ _ h => h.same s6) c6).mono fun _ _ h => h.upd g6
      · rintro σ H5 ⟨s5, gs, g5, b5, u1, u2, rfl⟩
        rw [a3.1, List.take_length] at b5
        exact ⟨_, rfl, s3.trans s5, G, gs, G0, g5, b5, _, _, _, rfl⟩
    · rintro σ H3 ⟨s3, F, ws, F0, h3, a3, u1, u2, u3, rfl⟩
      exact ⟨_, rfl, k F ws H3 F0 s3 h3 a3⟩
def spLWt (K : PySem.W.Frag) : Sp := fun vs H Q _ => ∃ (d b : Addr) (m : Mdl) (p : List Int), vs = [.ref d, .ref b] ∧ DicAt K H d m ∧ MOk m ∧ SqT K H b (p.map V.int) ∧ PicOk m p ∧ ∀ H', Same H H' → Q (.int (wt m p)) H'
abbrev nLawWeight : List Str := ["_law_model_here", "_law_picture", "_law_found", "_law_place", "_law_one", "_law_other", "_law_table"]
theorem scLawWeight : FnScope nLawWeight ["_law_model_here", "_law_picture"] (defScope s_law_weight) := ⟨rfl, rfl, rfl, by decide +kernel, rfl, by decide +kernel, by decide +kernel⟩
theorem ok_lweight {f : Addr} {fd : FuncData} (F : Fun K "_law_weight" "_law_weight" s_law_weight f fd) (T : NmA mg) : FnOk P w K mg base CX0 1 f fd ["_law_model_here", "_law_picture"] (spLWt K) := by
  refine F.ok scLawWeight (fun vs H Q E h => ?_) (fun cdv A' outer s H vs Q E hr h => ?_)
  · obtain ⟨d, b, m, p, rfl, _⟩ := h
    rfl
  · obtain ⟨d, b, m, p, rfl, hM, ok, hS, hp, k⟩ := h
    have hu := hu_of hr
    refine ⟨_, pss_cons (ps_set (i := 2) scLawWeight.nd rfl (Or.inl rfl) pe_int)
      (pss_cons (ps_for PassesOwn.never rfl (pi_range1 (by rfl) T.range (pa_cons (pe_dget hu (pv 0) pe_str (fun _ _ => rfl)) pa_nil)) (pg_name (i := 3) scLawWeight.nd rfl (Or.inl rfl))
        (pss_one (ps_set (i := 2) scLawWeight.nd rfl (Or.inl rfl) (pe_op op_mul (pv 2) (pe_ix ix_tup (pe_ix ix_tup (pe_dget hu (pv 0) pe_str (fun _ _ => rfl)) (pv 3) (fun _ _ => rfl)) (pe_ix ix_tup (pv 1) (pv 3) (fun _ _ => rfl)) (fun _ _ => rfl))))))
      (pss_cons (ps_for PassesOwn.never rfl (pi_tup (pe_dget hu (pv 0) pe_str (fun _ _ => rfl))) (pg_tup (by rfl) (pgs_cons (pg_name (i := 4) scLawWeight.nd rfl (Or.inl rfl)) (pgs_cons (pg_name (i := 5) scLawWeight.nd rfl (Or.inl rfl)) (pgs_cons (pg_name (i := 6) scLawWeight.nd rfl (Or.inl rfl)) pgs_nil))))
        (pss_one (ps_set (i := 2) scLawWeight.nd rfl (Or.inl rfl) (pe_op op_mul (pv 2) (pe_ix ix_tup (pe_ix ix_tup (pv 6) (pe_ix ix_tup (pv 1) (pv 4) (fun _ _ => rfl)) (fun _ _ => rfl)) (pe_ix ix_tup (pv 1) (pv 5) (fun _ _ => rfl)) (fun _ _ => rfl))))))
      (pss_one (ps_ret (pv 2))))), ?_⟩
    obtain ⟨wa, ta, wvs, tvs, hd, hW, aW, hT, aT⟩ := mod_dic hM
    have m1 := ok.m1
    have m12 := ok.m12
    have pl := hp.1
    refine ⟨_, rfl, d, _, rfl, gd_m hd, _, rfl, by omega, by omega, ?_⟩
    refine for_range (lo := 0) (n := m.many.toNat) (fun i σ H' => Same H H' ∧ ∃ u : Option V, σ = [some (.ref d), some (.ref b), some (.int (wtW m p i)), u, none, none, none]) ⟨Same.refl H, none, rfl⟩ ?_ ?_
    · rintro i σ H2 hi ⟨s2, u, rfl⟩
      rw [Int.zero_add]
      obtain ⟨r, r1, r2, r3⟩ := row_at aW (i := (i : Int)) (by omega) (by have := ok.wl; omega)
      have rl := (ok.wr _ r3).1
      have p1 := gI_in (lo := 0) (hi := m.levels) (l := p) (i := (i : Int)) (by omega) (by omega) hp.2
      have b1 := wv_nn ok i (gI p (i : Nat))
      rw [wv_gR] at b1
      refine ⟨_, rfl, _, rfl, d, _, rfl, gd_w (s2 _ _ hd), _, rfl, wa, _, _, _, rfl, rfl, s2.sqT hW, r1, _, rfl, _, rfl, b, _, _, _, rfl, rfl, s2.sqT hS, atI_gI (by omega) (by omega), r, _, _, _, rfl, rfl, s2.sqT r2, atI_gI p1.1 (by omega), _, _, rfl, rfl, .inr ⟨by omega, by omega⟩, s2, some (.int (i : Nat)), ?_⟩
      rw [show wtW m p (i + 1) = wtW m p i * gI (gR m.ws (i : Nat)) (gI p (i : Nat)) by rw [← wv_gR] <;> rfl]
      rfl
    · rintro σ H2 ⟨s2, u, rfl⟩
      have hT2 := s2.sqT hT
      refine ⟨_, rfl, d, _, rfl, gd_t (s2 _ _ hd), ta, rfl, ⟨_, hT2⟩, for_tup (fun i σ H' => Same H2 H' ∧ ∃ u1 u3 u4 u5 : Option V, σ = [some (.ref d), some (.ref b), some (.int (wtT p (wtW m p m.many.toNat) (m.ts.take i))), u1, u3, u4, u5]) ⟨Same.refl _, _, _, _, _, rfl⟩ (fun i σ H' _ h => h.1.sqT hT2) ?_ ?_⟩
      · rintro i x σ H3 hi ⟨s3, u1, u3, u4, u5, rfl⟩
        obtain ⟨t, ht, c, e, rfl, hc, vs, hd', aR⟩ := aT.2 i x hi
        obtain ⟨t0, t1, t2, t3, t4⟩ := ok.tt t (List.mem_of_getElem? ht)
        have s13 := s2.trans s3
        have hS3 := s13.sqT hS
        have p1 := gI_in (lo := 0) (hi := m.levels) t0 (by omega) hp.2
        have p2 := gI_in (lo := 0) (hi := m.levels) (i := t.1.2) (by omega) (by omega) hp.2
        obtain ⟨r, r1, r2, r3⟩ := row_at aR (i := gI p t.1.1) p1.1 (by omega)
        have rl := (t4 _ r3).1
        have b1 : 0 ≤ gI (gR t.2 (gI p t.1.1)) (gI p t.1.2) ∧ gI (gR t.2 (gI p t.1.1)) (gI p t.1.2) ≤ 1000 := tv_nn ok (List.mem_of_getElem? ht) (gI p t.1.1) (gI p t.1.2)
        have hl : ∀ {i : Int}, 0 ≤ i → i < m.many → atI (p.map V.int) i = some (.int (gI p i)) := fun h0 h1 => atI_gI h0 (by omega)
        refine ⟨c, _, rfl, s13.sqT hc, rfl, _, _, rfl, _, _, rfl, _, _, rfl, rfl, ?_⟩
        refine ⟨_, rfl, _, rfl, _, rfl, _, rfl, b, _, _, _, rfl, rfl, hS3, hl t0 (by omega), e, _, _, _, rfl, rfl, s13.sqT hd', r1, _, rfl, _, rfl, b, _, _, _, rfl, rfl, hS3, hl (by omega) t2, r, _, _, _, rfl, rfl, s13.sqT r2, atI_gI p2.1 (by omega), _, _, rfl, rfl, .inr ⟨by omega, by omega⟩, s3, u1, some (.int t.1.1), some (.int t.1.2), some (.ref e), ?_⟩
        rw [wtT_snoc ht]
        rfl
      · rintro σ H3 ⟨s3, u1, u3, u4, u5, rfl⟩
        rw [aT.1, List.take_length]
        exact ⟨_, rfl, k H3 (s2.trans s3)⟩
end
end Law

namespace L2
open PySem PySem.Spec PyProof.Rows
abbrev Pr := Int × Int
def PrAt (K : PySem.W.Frag) (H : Hp) (v : V) (a : Pr) : Prop := ∃ s, v = .ref s ∧ SqT K H s [.int a.1, .int a.2]
theorem PrAt.same {K : PySem.W.Frag} {H H' : Hp} {v : V} {a : Pr} (e : Same H H') (h : PrAt K H v a) : PrAt K H' v a := by
  obtain ⟨s, h1, h2⟩ := h
  exact ⟨s, h1, e.sqT h2⟩
theorem PrAt.upd {K : PySem.W.Frag} {H : Hp} {D : Addr} {acc : List V} {o : HO} {v : V} {a : Pr} (hD : H D = some (.lst acc)) (h : PrAt K H v a) : PrAt K (upd H D o) v a := by
  obtain ⟨s, h1, h2⟩ := h
  exact ⟨s, h1, sqT_updL hD h2⟩
def cntP (ps : List Pr) (q : Int) : Nat := (ps.filter fun t => decide (q = t.1) || decide (q = t.2)).length
abbrev ltP (x y : Pr) : Prop := x.1 < y.1 ∨ (x.1 = y.1 ∧ x.2 < y.2)
structure PsOk (many : Int) (ps : List Pr) : Prop where
  b : ∀ t ∈ ps, 0 ≤ t.1 ∧ t.1 < t.2 ∧ t.2 < many
  a : ps.Pairwise ltP
  c : ∀ q, cntP ps q ≤ 4
theorem PsOk.nil (many : Int) : PsOk many [] := ⟨fun t ht => absurd ht List.not_mem_nil, List.Pairwise.nil, fun _ => Nat.zero_le _⟩
theorem cntP_app (ps : List Pr) (t : Pr) (q : Int) : cntP (ps ++ [t]) q = cntP ps q + if q = t.1 ∨ q = t.2 then 1 else 0 := by
  unfold cntP
  rw [List.filter_append, List.length_append]
  congr 1
  rw [List.filter_cons, List.filter_nil]
  by_cases c : q = t.1 ∨ q = t.2
  · rw [if_pos c, if_pos (by rcases c with c | c <;> simp [c])] <;> rfl
  · rw [if_neg c, if_neg (fun z => c (by simpa using z))] <;> rfl
theorem PsOk.snoc {many : Int} {ps : List Pr} {t : Pr} (h : PsOk many ps) (hb : 0 ≤ t.1 ∧ t.1 < t.2 ∧ t.2 < many) (hl : ∀ u ∈ ps, ltP u t) (h1 : cntP ps t.1 < 4) (h2 : cntP ps t.2 < 4) : PsOk many (ps ++ [t]) := by
  refine ⟨fun u hu => ?_, ?_, fun q => ?_⟩
  · rcases List.mem_append.mp hu with hu | hu
    · exact h.b u hu
    · rw [List.mem_singleton.mp hu]
      exact hb
  · rw [List.pairwise_append]
    refine ⟨h.a, List.pairwise_singleton _ _, fun u hu v hv => ?_⟩
    rw [List.mem_singleton.mp hv]
    exact hl u hu
  · rw [cntP_app]
    by_cases c : q = t.1 ∨ q = t.2
    · rw [if_pos c]
      rcases c with c | c
      · rw [c]; omega
      · rw [c]; omega
    · rw [if_neg c]
      exact h.c q
theorem cnt_tp (ts : List Tie) (q : Int) : cntT ts q = cntP (ts.map (·.1)) q := by
  unfold cntT cntP
  rw [List.filter_map, List.length_map] <;> rfl
end L2
namespace Law
open PySem L2
theorem prAt_stp {K : PySem.W.Frag} {p : Addr} {H H' : Hp} {v : V} {a : Pr} (S : Stp p H H') (hh : HandAt H p) (h : PrAt K H v a) : PrAt K H' v a := by
  obtain ⟨s, h1, h2⟩ := h
  exact ⟨s, h1, S.sqT hh h2⟩
theorem in_pr (q : Int) (t : Pr) : inV (.int q) [.int t.1, .int t.2] = (decide (q = t.1) || decide (q = t.2)) := in_two q t.1 t.2
section
variable {P : Program} {w : World} {K : PySem.W.Frag} {mg : Str → Option Value} {base : Heap}
def spPairs (K : PySem.W.Frag) : Sp := fun vs H Q _ => ∃ (p : Addr) (many rare : Int), vs = [.ref p, .int many, .int rare] ∧ HandAt H p ∧ 0 ≤ many ∧ many ≤ 12 ∧ 0 < rare ∧ rare < 1000 ∧
  ∀ (L : Addr) (ws : List V) (ps : List Pr) (H' : Hp), H L = none → Stp p H H' → H' L = some (.lst ws) → AllIn (PrAt K H') ws ps → PsOk many ps → ps.length ≤ 144 → Q (.ref L) H'
abbrev nLawPairs : List Str := ["_law_hand_here", "_law_many", "_law_rare", "_law_found", "_law_one", "_law_other", "_law_crowd", "_law_place", "_law_pair"]
theorem scLawPairs : FnScope nLawPairs ["_law_hand_here", "_law_many", "_law_rare"] (defScope s_law_pairs) := ⟨rfl, rfl, rfl, by decide +kernel, rfl, by decide +kernel, by decide +kernel⟩
theorem ok_pairs {f : Addr} {fd : FuncData} {fD : Addr} {fdD : FuncData} (F : Fun K "_law_pairs" "_law_pairs" s_law_pairs f fd) (T : NmA mg) (D : Cl P w K mg base CX0 1 "_law_draw" fD fdD ["_law_hand_here", "_law_many"] spDraw) : FnOk P w K mg base CX0 2 f fd ["_law_hand_here", "_law_many", "_law_rare"] (spPairs K) := by
  refine F.ok scLawPairs (fun vs H Q E h => ?_) (fun cdv A' outer s H vs Q E hr h => ?_)
  · obtain ⟨p, many, rare, rfl, _⟩ := h
    rfl
  · obtain ⟨p, many, rare, rfl, hH, m0, m12, r0, r1, k⟩ := h
    have hu := hu_of hr
    refine ⟨_, pss_cons (ps_set (i := 3) scLawPairs.nd rfl (Or.inr rfl) (pe_lst pa_nil))
      (pss_cons (ps_for PassesOwn.never rfl (pi_range1 (by rfl) T.range (pa_cons (pv 1) pa_nil)) (pg_name (i := 4) scLawPairs.nd rfl (Or.inl rfl))
        (pss_one (ps_for PassesOwn.never rfl (pi_range2 (by rfl) T.range (pa_cons (pe_op op_add (pv 4) pe_int) (pa_cons (pv 1) pa_nil))) (pg_name (i := 5) scLawPairs.nd rfl (Or.inl rfl))
          (pss_cons (ps_setLc (i := 6) (own := [("_law_place", 7)]) (g := (gName 7)) (tt := tYes) (by rfl) scLawPairs.nd rfl rfl (sw_true rfl rfl rfl (by decide +kernel)) (pi_list (pe_lst (pa_cons (pv 4) (pa_cons (pv 5) pa_nil)))) (blkOk_by (own := [("_law_place", 7)]) (N := nLawPairs) (sc := defScope s_law_pairs) (by decide +kernel)) (fun _ _ _ _ _ => (pg_name (i := 7) scLawPairs.nd rfl (Or.inr rfl))) (fun _ _ _ _ _ => pts_nil) (fun _ _ _ _ _ => (pe_callB (r := rLenK K) (show CallR _ (.builtin "len") (rLenK K) from call_len_seq) (by rfl) T.len PySem.boot_len (pa_cons (pe_lc (own := [("_law_pair", 8)]) (g := (gName 8)) (tt := _) rfl scLawPairs.nd  (show PI _ _ _ (iList K _) from pi_list (pv 3)) (blkOk_by (own := [("_law_pair", 8)]) (N := nLawPairs) (sc := ({ kind := .function, names := [(".0", .local), ("_law_place", .cell), ("len", .globalImplicit), ("_law_found", .cell)], isGenerator := false, isCoroutine := false } : Scope)) (by decide +kernel)) (fun _ _ _ _ _ => (pg_name (i := 8) scLawPairs.nd rfl (Or.inl rfl))) (fun _ _ _ _ _ => (pts_one (pt_cmpR (r := rIn K false) (show OpR _ (compareOp .In) (rIn K false) from op_in_seq) (pv 7) (pv 8) (by rfl)))) (fun _ _ _ _ _ => (pv 8))) pa_nil))))
          (pss_one (ps_if (PW.pt (pw_and (pt_cmpR op_lt (pe_callB (cr_max rfl) (by rfl) T.max (by decide +kernel) (pa_cons (pv 6) pa_nil)) pe_int (nomark _)) (pw_and1 (pt_cmpR op_eq (D.call (hr.mono (by decide)) (pa_cons (pv 0) (pa_cons (pv 2) pa_nil))) pe_int (nomark _)))))
            (pss_one (ps_expr (pe_bm PySem.F.plainAttrs_list PySem.F.slot_list_append PySem.F.type_list_append mt_append (pv 3) (pa_cons (pe_tup (pa_cons (pv 4) (pa_cons (pv 5) pa_nil))) pa_nil)))) pss_nil))))))
      (pss_one (ps_ret (pv 3)))), ?_⟩
    refine ⟨by show 0 ≤ sizeLine; decide, fun F hF => ?_⟩
    refine new_step hF fun H1 s1 e1 => ?_
    have Fp : F ≠ p := ne_hand hH hF
    obtain ⟨M, rfl⟩ : ∃ M : Nat, many = (M : Int) := ⟨many.toNat, by omega⟩
    refine ⟨_, rfl, _, rfl, by omega, by omega, ?_⟩
    rw [Int.toNat_natCast]
    refine for_range (lo := 0) (n := M) (fun i σ H' => (Stp p H H' ∧ ∃ (ws : List V) (ps : List Pr), H' F = some (.lst ws) ∧ AllIn (PrAt K H') ws ps ∧ PsOk (M : Int) ps ∧ ps.length ≤ 12 * i ∧ ∀ t ∈ ps, t.1 < (i : Int)) ∧ ∃ u1 u2 u3 : Option V, σ = [some (.ref p), some (.int (M : Int)), some (.int rare), some (.ref F), u1, u2, u3, none, none]) ⟨⟨Stp.of hH s1, [], [], e1, AllIn.nil, PsOk.nil _, Nat.le_refl _, fun t ht => absurd ht List.not_mem_nil⟩, none, none, none, rfl⟩ ?_ ?_
    · rintro i σ H2 hi ⟨⟨S2, ws, ps, f1, f2, f3, f4, f5⟩, u1, u2, u3, rfl⟩
      rw [Int.zero_add]
      refine ⟨_, rfl, _, _, rfl, rfl, _, rfl, _, _, rfl, ⟨by omega, by omega, by omega, by omega⟩, ?_⟩
      have en : ((M : Int) - ((i : Int) + 1)).toNat = M - (i + 1) := by omega
      rw [en]
      refine for_range (lo := (i : Int) + 1) (n := M - (i + 1)) (fun j σ H' => (Stp p H H' ∧ ∃ (ws : List V) (ps : List Pr), H' F = some (.lst ws) ∧ AllIn (PrAt K H') ws ps ∧ PsOk (M : Int) ps ∧ ps.length ≤ 12 * i + j ∧ ∀ t ∈ ps, t.1 < (i : Int) ∨ (t.1 = (i : Int) ∧ t.2 < (i : Int) + 1 + (j : Int))) ∧ ∃ u2 u3 : Option V, σ = [some (.ref p), some (.int (M : Int)), some (.int rare), some (.ref F), some (.int (i : Nat)), u2, u3, none, none]) ⟨⟨S2, ws, ps, f1, f2, f3, by omega, fun t ht => .inl (f5 t ht)⟩, _, _, rfl⟩ ?_ ?_
      · rintro j σ H3 hj ⟨⟨S3, ws, ps, f1, f2, f3, f4, f5⟩, u2, u3, rfl⟩
        generalize hsec : (i : Int) + 1 + (j : Int) = sec at f5 ⊢
        refine ⟨_, rfl, _, rfl, by show 2 ≤ sizeLine; decide, fun L hL => ?_⟩
        refine new_step hL fun H4 s4 e4 => ?_
        refine ⟨L, rfl, ⟨_, SqL.of e4⟩, fun D hD => ?_⟩
        have g4 := s4 _ _ f1
        have a4 : AllIn (PrAt K H4) ws ps := f2.mono fun _ _ => PrAt.same s4
        refine lc_list (K := K) (a := L) (xs := ([(i : Int), sec].map V.int)) (fun c H' => Same H4 H' ∧ H' D = some (.lst ((([(i : Int), sec].take c).map fun q => ((cntP ps q : Nat) : Int)).map V.int))) ⟨Same.new hD, upd_same⟩ (fun c H' _ h => SqL.of (h.1 _ _ e4)) (fun c x H5 hc g => ?_) fun H5 g => ?_
        · obtain ⟨s5, d5⟩ := g
          rw [List.getElem?_map] at hc
          obtain ⟨q, hq, rfl⟩ := Option.map_eq_some_iff.mp hc
          have g5 := s5 _ _ g4
          refine ⟨rfl, _, rfl, F, rfl, ⟨_, SqL.of g5⟩, fun D2 hD2 => ?_⟩
          refine lc_list (K := K) (a := F) (xs := ws) (fun b H' => Same H5 H' ∧ ∃ vs : List V, H' D2 = some (.lst vs) ∧ vs.length = cntP (ps.take b) q) ⟨Same.new hD2, [], upd_same, rfl⟩ (fun b H' _ h => SqL.of (h.1 _ _ g5)) (fun b x H6 hb g => ?_) fun H6 g => ?_
          · obtain ⟨s6, vs, d6, l6⟩ := g
            obtain ⟨t, ht, s, rfl, hs⟩ := a4.2 b x hb
            have bl := (List.getElem?_eq_some_iff.mp ht).1
            have ct : cntP (ps.take (b + 1)) q = cntP (ps.take b) q + if q = t.1 ∨ q = t.2 then 1 else 0 := by
              rw [List.take_add_one, ht]
              exact cntP_app _ _ _
            refine ⟨rfl, _, rfl, _, rfl, s, _, rfl, .inr ((s5.trans s6).sqT hs), rfl, rfl, _, rfl, ?_⟩
            rw [in_pr, if_neg Bool.false_ne_true]
            refine ite2 (fun c => ?_) (fun c => ?_)
            · rw [if_pos (by simpa using c)] at ct
              refine ⟨_, rfl, vs, d6, ?_, s6.mut hD2, vs ++ [.ref s], upd_same, by rw [List.length_append, l6, ct] <;> rfl⟩
              have z : cntP (ps.take b) q ≤ ps.length := Nat.le_trans (List.length_filter_le _ _) (by rw [List.length_take]; omega)
              rw [l6]
              exact small1000 (by omega)
            · rw [if_neg (fun z => c (by simpa using z)), Nat.add_zero] at ct
              exact ⟨s6, vs, d6, by rw [ct]; exact l6⟩
          · obtain ⟨s6, vs, d6, l6⟩ := g
            rw [f2.1, List.take_length] at l6
            have d56 := s6 _ _ d5
            refine ⟨D2, _, rfl, .inl (SqL.of d6), _, d56, ?_, (s5.trans s6).mut hD, ?_⟩
            · rw [List.length_map, List.length_map, List.length_take]
              exact small1000 (Nat.le_trans (Nat.min_le_right _ _) (by show 2 ≤ 1000; decide))
            · rw [upd_same, l6, List.take_add_one, hq, List.map_append, List.map_append] <;> rfl
        · obtain ⟨s5, d5⟩ := g
          rw [List.take_of_length_le (by rw [List.length_map]; exact Nat.le_refl _)] at d5
          have S5 := S3.post (s4.trans s5)
          refine ⟨_, rfl, D, _, rfl, SqL.of d5, by show 0 < 2; decide, fun mx hmx hle => ⟨_, _, rfl, rfl, _, rfl, ?_⟩⟩
          have g5 := s5 _ _ g4
          have stay : ∀ H', Stp p H5 H' → (Stp p H H' ∧ ∃ (ws : List V) (ps : List Pr), H' F = some (.lst ws) ∧ AllIn (PrAt K H') ws ps ∧ PsOk (M : Int) ps ∧ ps.length ≤ 12 * i + (j + 1) ∧ ∀ t ∈ ps, t.1 < (i : Int) ∨ (t.1 = (i : Int) ∧ t.2 < (i : Int) + 1 + ((j + 1 : Nat) : Int))) := fun H' S' =>
            ⟨S5.trans S', ws, ps, S'.keep _ _ Fp g5, a4.mono fun _ _ h => prAt_stp S' S5.hand (h.same s5), f3, by omega, fun t ht => by rcases f5 t ht with h | ⟨h, h2⟩ <;> omega⟩
          refine ite2 (fun c1 => ?_) (fun _ => ⟨stay H5 (Stp.refl S5.hand), _, _, rfl⟩)
          have c1 := of_decide_eq_true c1
          have k1 := hle ((cntP ps (i : Int) : Nat) : Int) List.mem_cons_self
          have k2 := hle ((cntP ps sec : Nat) : Int) (List.mem_cons_of_mem _ List.mem_cons_self)
          refine ⟨_, rfl, _, rfl, p, rare, rfl, r0, by omega, S5.hand, fun d H6 _ _ S6 => ⟨rfl, _, rfl, ite2 (fun _ => ?_) (fun _ => ⟨stay H6 S6, _, _, rfl⟩)⟩⟩
          have g6 := S6.keep _ _ Fp g5
          have a6 : AllIn (PrAt K H6) ws ps := a4.mono fun _ _ h => prAt_stp S6 S5.hand (h.same s5)
          have S06 := S5.trans S6
          refine ⟨_, rfl, .inl ⟨rfl, _, SqL.of g6⟩, _, rfl, _, rfl, by show 2 ≤ sizeLine; decide, fun q hq => ?_⟩
          refine new_step hq fun H7 s7 e7 => ?_
          have g7 := s7 _ _ g6
          refine ⟨F, ws, _, rfl, rfl, g7, by rw [f2.1]; exact small1000 (by omega), ⟨(S06.post s7).mut hH hF, ws ++ [.ref q], ps ++ [((i : Int), sec)], upd_same, ?_, ?_, by rw [List.length_append]; show _ + 1 ≤ _; omega, fun t ht => ?_⟩, _, _, rfl⟩
          · exact AllIn.snoc (a6.mono fun _ _ h => (h.same s7).upd g7) (PrAt.upd g7 ⟨q, rfl, SqT.of e7⟩)
          · refine f3.snoc ⟨by show (0 : Int) ≤ (i : Int); omega, by show (i : Int) < sec; omega, by show sec < (M : Int); omega⟩ (fun u hu => ?_) (by show cntP ps (i : Int) < 4; omega) (by show cntP ps sec < 4; omega)
            rcases f5 u hu with h | ⟨h, h2⟩
            · exact .inl h
            · exact .inr ⟨h, h2⟩
          · rcases List.mem_append.mp ht with h | h
            · rcases f5 t h with h | ⟨h, h2⟩ <;> omega
            · rw [List.mem_singleton.mp h]
              refine .inr ⟨rfl, ?_⟩
              show sec < _
              omega
      · rintro σ H3 ⟨⟨S3, ws, ps, f1, f2, f3, f4, f5⟩, u2, u3, rfl⟩
        exact ⟨⟨S3, ws, ps, f1, f2, f3, by omega, fun t ht => by rcases f5 t ht with h | ⟨h, _⟩ <;> omega⟩, _, _, _, rfl⟩
    · rintro σ H2 ⟨⟨S2, ws, ps, f1, f2, f3, f4, f5⟩, u1, u2, u3, rfl⟩
      exact ⟨_, rfl, k F ws ps H2 hF S2 f1 f2 f3 (by omega)⟩
end
end Law

namespace Law
open PySem L2
theorem rare_pick {i : Nat} {x : V} (h : ([.int 1, .int 2, .int 2, .int 3] : List V)[i]? = some x) : ∃ n : Int, x = .int n ∧ 0 < n ∧ n < 1000 := by
  have m := List.mem_of_getElem? h
  simp only [List.mem_cons, List.not_mem_nil, or_false] at m
  rcases m with rfl | rfl | rfl | rfl <;> exact ⟨_, rfl, by decide, by decide⟩
abbrev RowsIn (lv : Int) (t : List (List Int)) : Prop := ∀ l ∈ t, (l.length : Int) = lv ∧ ∀ x ∈ l, 0 ≤ x ∧ x ≤ 1000
theorem rowsIn_snoc {lv : Int} {t : List (List Int)} {l : List Int} (h : RowsIn lv t) (hl : (l.length : Int) = lv) (hx : ∀ x ∈ l, 0 ≤ x ∧ x ≤ 1000) : RowsIn lv (t ++ [l]) := fun r hr => by
  rcases List.mem_append.mp hr with h' | h'
  · exact h r h'
  · rw [List.mem_singleton.mp h']
    exact ⟨hl, hx⟩
theorem nums_snoc {l : List Int} {n : Int} (h : ∀ x ∈ l, 0 ≤ x ∧ x ≤ 1000) (h0 : 0 ≤ n) (h1 : n ≤ 1000) : ∀ x ∈ l ++ [n], 0 ≤ x ∧ x ≤ 1000 := fun x hx => by
  rcases List.mem_append.mp hx with h' | h'
  · exact h x h'
  · rw [List.mem_singleton.mp h']
    exact ⟨h0, h1⟩
/-- a model made of rows and ties that are right -/
theorem model_ok {many levels : Int} {ws : List (List Int)} {ts : List Tie} {ps : List Pr} (m1 : 1 ≤ many ∧ many ≤ 12) (l1 : 1 ≤ levels ∧ levels ≤ 4) (wl : (ws.length : Int) = many) (wr : RowsIn levels ws) (t1 : ts.map (·.1) = ps) (ok : PsOk many ps) (t2 : TsOk many levels ts) : MdlSm ⟨many, levels, ws, ts⟩ ∧ wrongM ⟨many, levels, ws, ts⟩ = none := by
  have w : wrongM ⟨many, levels, ws, ts⟩ = none := made_ok m1 l1 (rowOk_tab wl wr) t2 fun q _ => by
    show cntT ts (q : Int) ≤ 4
    rw [cnt_tp, t1]
    exact ok.c q
  refine ⟨ok_sm w (fun l hl => ?_) fun t ht => t2.n t ht, w⟩
  obtain ⟨a, b⟩ := wr l hl
  refine ⟨fun z => ?_, fun x hx => (b x hx).1⟩
  rw [z] at a
  have : ((0 : Nat) : Int) = levels := a
  omega
section
variable {P : Program} {w : World} {K : PySem.W.Frag} {mg : Str → Option Value} {base : Heap}
def spModel (K : PySem.W.Frag) : Sp := fun vs H Q _ => ∃ (p : Addr) (many levels : Int), vs = [.ref p, .int many, .int levels] ∧ HandAt H p ∧ (1 ≤ many ∧ many ≤ 12) ∧ (1 ≤ levels ∧ levels ≤ 4) ∧ ∀ (d : Addr) (m : Mdl) (H' : Hp), H d = none → Stp p H H' → DicAt K H' d m → MdlSm m → wrongM m = none → m.many = many → m.levels = levels → Q (.ref d) H'
abbrev nLawModel : List Str := ["_law_hand_here", "_law_many", "_law_levels", "_law_kind", "_law_weights", "_law_ties", "_law_place", "_law_one", "_law_other", "_law_table", "_law_level", "_law_row", "_law_more"]
theorem scLawModel : FnScope nLawModel ["_law_hand_here", "_law_many", "_law_levels"] (defScope s_law_model) := ⟨rfl, rfl, rfl, by decide +kernel, rfl, by decide +kernel, by decide +kernel⟩
theorem ok_model {f : Addr} {fd : FuncData} {fD : Addr} {fdD : FuncData} {fcNum : Addr} {fdcNum : FuncData} {fcPairs : Addr} {fdcPairs : FuncData} {fA : Addr} {fdA : FuncData} (F : Fun K "_law_model" "_law_model" s_law_model f fd) (T : NmA mg) (D : Cl P w K mg base CX0 1 "_law_draw" fD fdD ["_law_hand_here", "_law_many"] spDraw) (cNum : Cl P w K mg base CX0 3 "_law_number" fcNum fdcNum ["_law_hand_here"] spNum) (cPairs : Cl P w K mg base CX0 2 "_law_pairs" fcPairs fdcPairs ["_law_hand_here", "_law_many", "_law_rare"] (spPairs K)) (A : Cl P w K mg base CX0 2 "_law_any" fA fdA ["_law_hand_here", "_law_things"] (spAny K)) : FnOk P w K mg base CX0 4 f fd ["_law_hand_here", "_law_many", "_law_levels"] (spModel K) := by
  refine F.ok scLawModel (fun vs H Q E h => ?_) (fun cdv A' outer s H vs Q E hr h => ?_)
  · obtain ⟨p, many, levels, rfl, _⟩ := h
    rfl
  · obtain ⟨p, many, levels, rfl, hH, m1, l1, k⟩ := h
    have hu := hu_of hr
    refine ⟨_, pss_cons (ps_set (i := 3) scLawModel.nd rfl (Or.inr rfl) (D.call (hr.mono (by decide)) (pa_cons (pv 0) (pa_cons pe_int pa_nil))))
      (pss_cons (ps_par (i := 4) (j := 5) (by rfl) scLawModel.nd rfl rfl (by decide) rfl rfl (pa_cons (pe_lst pa_nil) (pa_cons (pe_lst pa_nil) pa_nil)) (by rfl))
      (pss_cons (ps_for PassesOwn.never rfl (pi_range1 (by rfl) T.range (pa_cons (pv 1) pa_nil)) (pg_name (i := 6) scLawModel.nd rfl (Or.inl rfl))
        (pss_one (ps_expr (pe_bm PySem.F.plainAttrs_list PySem.F.slot_list_append PySem.F.type_list_append mt_append (pv 4) (pa_cons (pe_callTy call_tuple_of (by rfl) T.tuple (by decide +kernel) (pa_cons (pe_lc (own := [("_law_level", 10)]) (g := (gName 10)) (tt := tYes) rfl scLawModel.nd  (pi_range1 (by rfl) T.range (pa_cons (pv 2) pa_nil)) (blkOk_by (own := [("_law_level", 10)]) (N := nLawModel) (sc := defScope s_law_model) (by decide +kernel)) (fun _ _ _ _ _ => (pg_name (i := 10) scLawModel.nd rfl (Or.inl rfl))) (fun _ _ _ _ _ => pts_nil) (fun _ _ _ _ _ => (pe_ifExp (pt_cmpR op_eq (pv 3) pe_int (nomark _)) (cNum.call (hr.mono (by decide)) (pa_cons (pv 0) pa_nil)) (pe_op op_add pe_int (D.call (hr.mono (by decide)) (pa_cons (pv 0) (pa_cons pe_int pa_nil))))))) pa_nil)) pa_nil)))))
      (pss_cons (ps_for PassesOwn.never rfl (pi_list (cPairs.call (hr.mono (by decide)) (pa_cons (pv 0) (pa_cons (pv 1) (pa_cons (A.call (hr.mono (by decide)) (pa_cons (pv 0) (pa_cons (pe_lst (pa_cons pe_int (pa_cons pe_int (pa_cons pe_int (pa_cons pe_int pa_nil))))) pa_nil))) pa_nil))))) (pg_tup (by rfl) (pgs_cons (pg_name (i := 7) scLawModel.nd rfl (Or.inl rfl)) (pgs_cons (pg_name (i := 8) scLawModel.nd rfl (Or.inl rfl)) pgs_nil)))
        (pss_cons (ps_set (i := 9) scLawModel.nd rfl (Or.inl rfl) (pe_lst pa_nil))
        (pss_cons (ps_for PassesOwn.never rfl (pi_range1 (by rfl) T.range (pa_cons (pv 2) pa_nil)) (pg_name (i := 10) scLawModel.nd rfl (Or.inl rfl))
          (pss_cons (ps_setLc (i := 11) (own := [("_law_more", 12)]) (g := (gName 12)) (tt := tYes) (by rfl) scLawModel.nd rfl rfl (sw_true rfl rfl rfl (by decide +kernel)) (pi_range1 (by rfl) T.range (pa_cons (pv 2) pa_nil)) (blkOk_by (own := [("_law_more", 12)]) (N := nLawModel) (sc := defScope s_law_model) (by decide +kernel)) (fun _ _ _ _ _ => (pg_name (i := 12) scLawModel.nd rfl (Or.inl rfl))) (fun _ _ _ _ _ => pts_nil) (fun _ _ _ _ _ => (pe_ifExp (pt_cmpR op_eq (D.call (hr.mono (by decide)) (pa_cons (pv 0) (pa_cons pe_int pa_nil))) pe_int (nomark _)) (cNum.call (hr.mono (by decide)) (pa_cons (pv 0) pa_nil)) (pe_op op_add pe_int (D.call (hr.mono (by decide)) (pa_cons (pv 0) (pa_cons pe_int pa_nil)))))))
          (pss_one (ps_expr (pe_bm PySem.F.plainAttrs_list PySem.F.slot_list_append PySem.F.type_list_append mt_append (pv 9) (pa_cons (pe_callTy call_tuple_of (by rfl) T.tuple (by decide +kernel) (pa_cons (pv 11) pa_nil)) pa_nil))))))
        (pss_one (ps_expr (pe_bm PySem.F.plainAttrs_list PySem.F.slot_list_append PySem.F.type_list_append mt_append (pv 5) (pa_cons (pe_tup (pa_cons (pv 7) (pa_cons (pv 8) (pa_cons (pe_callTy call_tuple_of (by rfl) T.tuple (by decide +kernel) (pa_cons (pv 9) pa_nil)) pa_nil)))) pa_nil)))))))
      (pss_one (ps_ret (pe_disp (pps_cons pe_str (pv 1) (pps_cons pe_str (pv 2) (pps_cons pe_str (pe_callTy call_tuple_of (by rfl) T.tuple (by decide +kernel) (pa_cons (pv 4) pa_nil)) (pps_cons pe_str (pe_callTy call_tuple_of (by rfl) T.tuple (by decide +kernel) (pa_cons (pv 5) pa_nil)) pps_nil)))) (by rfl) (by rfl) (fun z => by cases z) (by decide))))))), ?_⟩
    obtain ⟨M, hM, mM⟩ : ∃ M : Nat, many = (M : Int) ∧ many.toNat = M := ⟨many.toNat, by omega, rfl⟩
    obtain ⟨Lv, hLv, mLv⟩ : ∃ M : Nat, levels = (M : Int) ∧ levels.toNat = M := ⟨levels.toNat, by omega, rfl⟩
    refine ⟨_, rfl, p, 4, rfl, by decide, by decide, hH, fun kd H1 _ _ S1 => ?_⟩
    refine ⟨by show 0 ≤ sizeLine; decide, fun W hW => ?_⟩
    have W0 : H W = none := by
      cases z : H W with
      | none => rfl
      | some o =>
        have Wp : W ≠ p := ne_hand S1.hand hW
        rw [S1.keep _ _ Wp z] at hW
        cases hW
    have Wp : W ≠ p := ne_hand hH W0
    refine new_step hW fun H2 s2 e2 => ?_
    refine ⟨by show 0 ≤ sizeLine; decide, fun T hT => ?_⟩
    have S2 := S1.post s2
    have free : ∀ {H' : Hp} {a : Addr}, Stp p H H' → H' a = none → H a = none := fun {H'} {a} S h => by
      cases z : H a with
      | none => rfl
      | some o =>
        have ap : a ≠ p := ne_hand S.hand h
        rw [S.keep _ _ ap z] at h
        cases h
    have T0 := free S2 hT
    have Tp : T ≠ p := ne_hand hH T0
    have TW : W ≠ T := ne_of_none e2 hT
    refine new_step hT fun H3 s3 e3 => ?_
    have S3 := S2.post s3
    have w3 := s3 _ _ e2
    refine ⟨_, _, rfl, ?_⟩
    refine ⟨_, rfl, _, rfl, by omega, by omega, ?_⟩
    rw [mM]
    refine for_range (lo := 0) (n := M) (fun i σ H' => (Stp p H H' ∧ H' T = some (.lst []) ∧ ∃ (acc : List V) (ws : List (List Int)), H' W = some (.lst acc) ∧ AllIn (RowAt K H') acc ws ∧ ws.length = i ∧ RowsIn levels ws) ∧ ∃ u : Option V, σ = [some (.ref p), some (.int many), some (.int levels), some (.int kd), some (.ref W), some (.ref T), u, none, none, none, none, none, none]) ⟨⟨S3, e3, [], [], w3, AllIn.nil, rfl, fun l hl => absurd hl List.not_mem_nil⟩, none, rfl⟩ ?_ ?_
    · rintro i σ H4 hi ⟨⟨S4, e4, acc, ws, w4, a4, n4, r4⟩, u, rfl⟩
      refine ⟨_, rfl, .inl ⟨rfl, _, SqL.of w4⟩, _, rfl, _, rfl, by omega, by omega, fun D hD => ?_⟩
      have Dp : D ≠ p := ne_hand S4.hand hD
      rw [mLv]
      refine lc_range (lo := 0) (n := Lv) (fun j H' => Stp p H4 H' ∧ ∃ l : List Int, H' D = some (.lst (l.map V.int)) ∧ l.length = j ∧ ∀ x ∈ l, 0 ≤ x ∧ x ≤ 1000) ⟨Stp.of S4.hand (Same.new hD), [], upd_same, rfl, fun x hx => absurd hx List.not_mem_nil⟩ (fun j H5 hj g => ?_) fun H5 g => ?_
      · obtain ⟨S5, l, f1, f2, f3⟩ := g
        have put : ∀ (n : Int) H6, 0 ≤ n → n ≤ 1000 → Stp p H5 H6 → ∃ ac, H6 D = some (.lst ac) ∧ ac.length < sizeLine ∧ Stp p H4 (upd H6 D (.lst (ac ++ [.int n]))) ∧ ∃ l : List Int, upd H6 D (.lst (ac ++ [.int n])) D = some (.lst (l.map V.int)) ∧ l.length = j + 1 ∧ ∀ x ∈ l, 0 ≤ x ∧ x ≤ 1000 := fun n H6 n0 n1 S6 =>
          ⟨_, S6.keep _ _ Dp f1, by rw [List.length_map, f2]; exact small1000 (by omega), (S5.trans S6).mut S4.hand hD, l ++ [n], by rw [upd_same, List.map_append] <;> rfl, by rw [List.length_append, f2] <;> rfl, nums_snoc f3 n0 n1⟩
        refine ⟨rfl, _, rfl, rfl, _, rfl, ite2 (fun _ => ?_) (fun _ => ?_)⟩
        · exact ⟨_, rfl, p, rfl, S5.hand, fun n H6 n0 n1 S6 => put n H6 n0 n1 S6⟩
        · exact ⟨_, rfl, p, 3, rfl, by decide, by decide, S5.hand, fun n H6 n0 n1 S6 => ⟨_, _, rfl, rfl, put (1 + n) H6 (by omega) (by omega) S6⟩⟩
      · obtain ⟨S5, l, f1, f2, f3⟩ := g
        refine ⟨D, _, rfl, .inl ⟨SqL.of f1, fun B hB => ?_⟩⟩
        refine new_step hB fun H6 s6 e6 => ?_
        have S46 := S5.post s6
        have w6 := S46.keep _ _ Wp w4
        refine ⟨W, acc, _, rfl, rfl, w6, by rw [a4.1, n4]; exact small1000 (by omega), ⟨(S4.trans S46).mut hH W0, by rw [upd_ne TW.symm]; exact S46.keep _ _ Tp e4, acc ++ [.ref B], ws ++ [l], upd_same, ?_, by rw [List.length_append, n4] <;> rfl, rowsIn_snoc r4 (by omega) f3⟩, _, rfl⟩
        exact AllIn.snoc (a4.mono fun _ _ h => (rowAt_stp S46 S4.hand h).upd w6) (RowAt.upd w6 ⟨B, rfl, SqT.of e6⟩)
    · rintro σ H4 ⟨⟨S4, e4, acc, ws, w4, a4, n4, r4⟩, u, rfl⟩
      refine ⟨_, rfl, _, rfl, _, rfl, by show 4 ≤ sizeLine; decide, fun L hL => ?_⟩
      refine new_step hL fun H5 s5 e5 => ?_
      refine ⟨p, L, _, rfl, .inl (SqL.of e5), by show 0 < 4; decide, by show 4 < 1073741824; decide, S4.hand.same s5, fun i x H6 hx S6 => ?_⟩
      obtain ⟨rare, rfl, r0, r1⟩ := rare_pick hx
      refine ⟨p, many, rare, rfl, S6.hand, by omega, by omega, r0, r1, fun PL pws ps H7 hPL S7 ePL aP okP lP => ?_⟩
      have S47 : Stp p H4 H7 := (S6.pre s5 S4.hand).trans S7
      have S07 := S4.trans S47
      have PL0 := free (S4.trans (S6.pre s5 S4.hand)) hPL
      have PLp : PL ≠ p := ne_hand hH PL0
      have w7 := S47.keep _ _ Wp w4
      have t7 := S47.keep _ _ Tp e4
      have PLW : PL ≠ W := fun z => by rw [z, (S6.pre s5 S4.hand).keep _ _ Wp w4] at hPL; cases hPL
      have PLT : PL ≠ T := fun z => by rw [z, (S6.pre s5 S4.hand).keep _ _ Tp e4] at hPL; cases hPL
      have a7 : AllIn (RowAt K H7) acc ws := a4.mono fun _ _ => rowAt_stp S47 S4.hand
      refine ⟨PL, rfl, ⟨_, SqL.of ePL⟩, for_list (xs := pws) (fun i σ H' => (Stp p H H' ∧ H' PL = some (.lst pws) ∧ AllIn (PrAt K H') pws ps ∧ H' W = some (.lst acc) ∧ AllIn (RowAt K H') acc ws ∧ ∃ (tac : List V) (ts : List Tie), H' T = some (.lst tac) ∧ AllIn (TieAt K H') tac ts ∧ ts.map (·.1) = ps.take i ∧ TsOk many levels ts) ∧ ∃ u1 u2 u3 u4 u5 u6 : Option V, σ = [some (.ref p), some (.int many), some (.int levels), some (.int kd), some (.ref W), some (.ref T), u1, u2, u3, u4, u5, u6, none]) ⟨⟨S07, ePL, aP, w7, a7, [], [], t7, AllIn.nil, rfl, TsOk.nil⟩, _, _, _, _, _, _, rfl⟩ (fun i σ H' _ h => SqL.of h.1.2.1) ?_ ?_⟩
      · rintro i x σ H8 hi ⟨⟨S8, eP8, aP8, w8, a8, tac, ts, t8, b8, c8, d8⟩, u1, u2, u3, u4, u5, u6, rfl⟩
        obtain ⟨t, ht, s, rfl, hs⟩ := aP8.2 i x hi
        obtain ⟨tb0, tb1, tb2⟩ := okP.b t (List.mem_of_getElem? ht)
        refine ⟨s, _, rfl, hs, rfl, _, _, rfl, _, _, rfl, rfl, ?_⟩
        refine ⟨by show 0 ≤ sizeLine; decide, fun B0 hB0 => ?_⟩
        have B00 := free S8 hB0
        have B0p : B0 ≠ p := ne_hand hH B00
        refine new_step hB0 fun H9 s9 e9 => ?_
        refine ⟨_, rfl, _, rfl, by omega, by omega, ?_⟩
        rw [mLv]
        refine for_range (lo := 0) (n := Lv) (fun j σ H' => (Stp p H8 H' ∧ ∃ (bac : List V) (tb : List (List Int)), H' B0 = some (.lst bac) ∧ AllIn (RowAt K H') bac tb ∧ tb.length = j ∧ RowsIn levels tb) ∧ ∃ u5 u6 : Option V, σ = [some (.ref p), some (.int many), some (.int levels), some (.int kd), some (.ref W), some (.ref T), u1, some (.int t.1), some (.int t.2), some (.ref B0), u5, u6, none]) ⟨⟨Stp.of S8.hand s9, [], [], e9, AllIn.nil, rfl, fun l hl => absurd hl List.not_mem_nil⟩, _, _, rfl⟩ ?_ ?_
        · rintro j σ H10 hj ⟨⟨S10, bac, tb, f10, b10, n10, r10⟩, u5, u6, rfl⟩
          refine ⟨_, rfl, _, rfl, by omega, by omega, fun D hD => ?_⟩
          have Dp : D ≠ p := ne_hand S10.hand hD
          rw [mLv]
          refine lc_range (lo := 0) (n := Lv) (fun j H' => Stp p H10 H' ∧ ∃ l : List Int, H' D = some (.lst (l.map V.int)) ∧ l.length = j ∧ ∀ x ∈ l, 0 ≤ x ∧ x ≤ 1000) ⟨Stp.of S10.hand (Same.new hD), [], upd_same, rfl, fun x hx => absurd hx List.not_mem_nil⟩ (fun j H11 hj g => ?_) fun H11 g => ?_
          · obtain ⟨S11, l, f1, f2, f3⟩ := g
            have put : ∀ (n : Int) H6, 0 ≤ n → n ≤ 1000 → Stp p H11 H6 → ∃ ac, H6 D = some (.lst ac) ∧ ac.length < sizeLine ∧ Stp p H10 (upd H6 D (.lst (ac ++ [.int n]))) ∧ ∃ l : List Int, upd H6 D (.lst (ac ++ [.int n])) D = some (.lst (l.map V.int)) ∧ l.length = j + 1 ∧ ∀ x ∈ l, 0 ≤ x ∧ x ≤ 1000 := fun n H6 n0 n1 S6 =>
              ⟨_, S6.keep _ _ Dp f1, by rw [List.length_map, f2]; exact small1000 (by omega), (S11.trans S6).mut S10.hand hD, l ++ [n], by rw [upd_same, List.map_append] <;> rfl, by rw [List.length_append, f2] <;> rfl, nums_snoc f3 n0 n1⟩
            refine ⟨rfl, _, rfl, p, 3, rfl, by decide, by decide, S11.hand, fun e H12 _ _ S12 => ⟨rfl, _, rfl, ite2 (fun _ => ?_) (fun _ => ?_)⟩⟩
            · exact ⟨_, rfl, p, rfl, S12.hand, fun n H6 n0 n1 S6 => put n H6 n0 n1 (S12.trans S6)⟩
            · exact ⟨_, rfl, p, 3, rfl, by decide, by decide, S12.hand, fun n H6 n0 n1 S6 => ⟨_, _, rfl, rfl, put (1 + n) H6 (by omega) (by omega) (S12.trans S6)⟩⟩
          · obtain ⟨S11, l, f1, f2, f3⟩ := g
            have f11 := S11.keep _ _ B0p f10
            refine ⟨_, rfl, .inl ⟨rfl, _, SqL.of f11⟩, _, rfl, D, _, rfl, .inl ⟨SqL.of f1, fun B hB => ?_⟩⟩
            refine new_step hB fun H12 s12 e12 => ?_
            have S1012 := S11.post s12
            have f12 := s12 _ _ f11
            refine ⟨B0, bac, _, rfl, rfl, f12, by rw [b10.1, n10]; exact small1000 (by omega), ⟨(S10.trans S1012).mut S8.hand hB0, bac ++ [.ref B], tb ++ [l], upd_same, ?_, by rw [List.length_append, n10] <;> rfl, rowsIn_snoc r10 (by omega) f3⟩, _, _, rfl⟩
            exact AllIn.snoc (b10.mono fun _ _ h => (rowAt_stp S1012 S10.hand h).upd f12) (RowAt.upd f12 ⟨B, rfl, SqT.of e12⟩)
        · rintro σ H10 ⟨⟨S10, bac, tb, f10, b10, n10, r10⟩, u5, u6, rfl⟩
          have t10 := S10.keep _ _ Tp t8
          refine ⟨_, rfl, .inl ⟨rfl, _, SqL.of t10⟩, _, rfl, _, rfl, _, rfl, B0, _, rfl, .inl ⟨SqL.of f10, fun B hB => ?_⟩⟩
          refine new_step hB fun H11 s11 e11 => ?_
          refine ⟨by show 3 ≤ sizeLine; decide, fun A hA => ?_⟩
          refine new_step hA fun H12 s12 e12 => ?_
          have S812 := (S10.post s11).post s12
          have s1012 := s11.trans s12
          have t12 := s1012 _ _ t10
          have tn : TieAt K H12 (.ref A) (t, tb) := ⟨A, B, rfl, SqT.of e12, bac, SqT.of (s12 _ _ e11), b10.mono fun _ _ h => h.same s1012⟩
          have fw : ts.length ≤ 144 := by
            have := congrArg List.length c8
            rw [List.length_map, List.length_take] at this
            omega
          have tsn : ts.map (·.1) ++ [t] = ps.take (i + 1) := by rw [c8, List.take_add_one, ht] <;> rfl
          have tbl : tabB levels levels tb = true := rowOk_tab (by omega) r10
          refine ⟨T, tac, _, rfl, rfl, t12, by rw [b8.1, sizeLine_eq]; omega, ⟨(S8.trans S812).mut hH T0, ?_, ?_, ?_, ?_, tac ++ [.ref A], ts ++ [(t, tb)], upd_same, ?_, by rw [List.map_append, ← tsn] <;> rfl, ?_⟩, _, _, _, _, _, _, rfl⟩
          · rw [upd_ne PLT]
            exact S812.keep _ _ PLp eP8
          · exact aP8.mono fun _ _ h => (prAt_stp S812 S8.hand h).upd t12
          · rw [upd_ne TW]
            exact S812.keep _ _ Wp w8
          · exact a8.mono fun _ _ h => (rowAt_stp S812 S8.hand h).upd t12
          · exact AllIn.snoc (b8.mono fun _ _ h => (tieAt_stp S812 S8.hand h).upd t12) (tn.upd t12)
          · refine d8.snoc ?_ ⟨tb0, by show 0 ≤ t.2; omega, fun z => ?_, fun l hl => ?_⟩ fun t' ht' => ?_
            · unfold tieB
              rw [tbl]
              show (decide (t.2 < many) && (decide (t.1 < t.2) && true)) = true
              rw [decide_eq_true tb2, decide_eq_true tb1] <;> rfl
            · have z : tb = [] := z
              rw [z] at n10
              have : 0 = Lv := n10
              omega
            · obtain ⟨a, b⟩ := r10 l hl
              refine ⟨fun z => ?_, fun x hx => (b x hx).1⟩
              rw [z] at a
              have : ((0 : Nat) : Int) = levels := a
              omega
            · have hm : t'.1 ∈ ts.map (·.1) := List.mem_map_of_mem ht'
              have pw : (ts.map (·.1) ++ [t]).Pairwise ltP := by
                rw [tsn]
                exact okP.a.sublist (List.take_sublist _ _)
              exact (List.pairwise_append.mp pw).2.2 _ hm t (List.mem_singleton.mpr rfl)
      · rintro σ H8 ⟨⟨S8, eP8, aP8, w8, a8, tac, ts, t8, b8, c8, d8⟩, u1, u2, u3, u4, u5, u6, rfl⟩
        rw [aP.1, List.take_length] at c8
        intro dp hdp
        have dp0 := free S8 hdp
        have sd : Same H8 (upd H8 dp (.dK [])) := Same.new hdp
        refine ⟨_, rfl, _, rfl, _, rfl, W, _, rfl, .inl ⟨SqL.of (sd _ _ w8), fun W' hW' => ?_⟩⟩
        refine new_step hW' fun H9 s9 e9 => ?_
        refine ⟨_, rfl, T, _, rfl, .inl ⟨SqL.of (s9 _ _ (sd _ _ t8)), fun T' hT' => ?_⟩⟩
        refine new_step hT' fun H10 s10 e10 => ?_
        have hdp10 : H10 dp = some (.dK []) := s10 _ _ (s9 _ _ upd_same)
        have e910 := s10 _ _ e9
        refine ⟨hdp10, mdK many levels W' T', rfl, (show 4 ≤ 15 by decide), ?_⟩
        rw [merge_app (mdK many levels W' T') [] (md_keys _ _ _ _)]
        have s8d : Same H8 (upd H10 dp (.dK (mdK many levels W' T'))) := ((sd.trans s9).trans s10).mut hdp
        obtain ⟨q1, q2⟩ := model_ok (many := many) (levels := levels) m1 l1 (by omega) r4 c8 okP d8
        refine k dp ⟨many, levels, ws, ts⟩ _ dp0 (S8.post s8d) ⟨W', T', upd_same, ⟨acc, SqT.of ?_, a8.mono fun _ _ h => h.same s8d⟩, tac, SqT.of ?_, b8.mono fun _ _ h => h.same s8d⟩ q1 q2 rfl rfl
        · rw [upd_ne (fun z => by rw [z, hdp10] at e910; cases e910)]
          exact e910
        · rw [upd_ne (fun z => by rw [z, hdp10] at e10; cases e10)]
          exact e10
def spLFit (K : PySem.W.Frag) : Sp := fun vs H Q _ => ∃ (d : Addr) (m : Mdl), vs = [.ref d] ∧ DicAt K H d m ∧ MOk m ∧ m.levels.toNat ^ m.many.toNat ≤ 1000 ∧
  ∀ (p : Addr) (ws : List V) (H' : Hp), H p = none → Same H H' → H' p = some (.lst ws) → AllIn (RowAt K H') ws (ext m m.many.toNat []) → Q (.ref p) H'
abbrev nLawFitting : List Str := ["_law_model_here", "_law_picture"]
theorem scLawFitting : FnScope nLawFitting ["_law_model_here"] (defScope s_law_fitting) := ⟨rfl, rfl, rfl, by decide +kernel, rfl, by decide +kernel, by decide +kernel⟩
theorem ok_lfitting {f : Addr} {fd : FuncData} {fcPics : Addr} {fdcPics : FuncData} {fcLWt : Addr} {fdcLWt : FuncData} (F : Fun K "_law_fitting" "_law_fitting" s_law_fitting f fd) (T : NmA mg) (cPics : Cl P w K mg base CX0 1 "_law_pictures" fcPics fdcPics ["_law_many", "_law_levels"] (spPics K)) (cLWt : Cl P w K mg base CX0 1 "_law_weight" fcLWt fdcLWt ["_law_model_here", "_law_picture"] (spLWt K)) : FnOk P w K mg base CX0 2 f fd ["_law_model_here"] (spLFit K) := by
  refine F.ok scLawFitting (fun vs H Q E h => ?_) (fun cdv A' outer s H vs Q E hr h => ?_)
  · obtain ⟨d, m, rfl, _⟩ := h
    rfl
  · obtain ⟨d, m, rfl, hM, ok, pw, k⟩ := h
    have hu := hu_of hr
    refine ⟨_, pss_one (ps_ret (pe_lc (own := [("_law_picture", 1)]) (g := (gName 1)) (tt := _) rfl scLawFitting.nd  (pi_list (cPics.call (hr.mono (by decide)) (pa_cons (pe_dget hu (pv 0) pe_str (fun _ _ => rfl)) (pa_cons (pe_dget hu (pv 0) pe_str (fun _ _ => rfl)) pa_nil)))) (blkOk_by (own := [("_law_picture", 1)]) (N := nLawFitting) (sc := defScope s_law_fitting) (by decide +kernel)) (fun _ _ _ _ _ => (pg_name (i := 1) scLawFitting.nd rfl (Or.inl rfl))) (fun _ _ _ _ _ => (pts_one (pt_cmpR op_gt (cLWt.call (hr.mono (by decide)) (pa_cons (pv 0) (pa_cons (pv 1) pa_nil))) pe_int (nomark _)))) (fun _ _ _ _ _ => (pv 1)))), ?_⟩
    obtain ⟨wa, ta, wvs, tvs, hd, _⟩ := mod_dic hM
    have m1 := ok.m1
    have m12 := ok.m12
    have l1 := ok.l1
    have l4 := ok.l4
    refine ⟨_, rfl, d, _, rfl, gd_m hd, _, rfl, d, _, rfl, gd_l hd, m.many, m.levels, rfl, by omega, m12, l1, l4, pw, fun L ws H1 hL s1 h1 a1 => ⟨L, rfl, ⟨_, SqL.of h1⟩, fun D hD => ?_⟩⟩
    refine lc_list (K := K) (a := L) (xs := ws) (fun i H' => Same H1 H' ∧ ∃ vs : List V, H' D = some (.lst vs) ∧ AllIn (RowAt K H') vs (((picsL (upI m.levels) m.many.toNat).take i).filter fun p => decide (0 < wt m p))) ⟨Same.new hD, [], upd_same, AllIn.nil⟩ (fun i H' _ h => SqL.of (h.1 _ _ h1)) (fun i x H2 hi g => ?_) fun H2 g => ?_
    · obtain ⟨s2, vs, g2, b2⟩ := g
      obtain ⟨f, hf, b, rfl, hS⟩ := a1.2 i x hi
      have fs := filter_snoc (f := fun p => decide (0 < wt m p)) hf
      have mem := List.mem_of_getElem? hf
      have len := pics_len (upI m.levels) m.many.toNat
      rw [up_len] at len
      have il := (List.getElem?_eq_some_iff.mp hf).1
      rw [pics_all] at mem
      obtain ⟨sf, ef, el, hv⟩ := allX_mem mem
      have fp : PicOk m f := by
        rw [ef, List.nil_append]
        refine ⟨by omega, fun x hx => ?_⟩
        obtain ⟨n, hn, rfl⟩ := List.mem_map.mp (hv x hx)
        have := List.mem_range.mp hn
        exact ⟨by omega, by omega⟩
      refine ⟨rfl, _, rfl, _, rfl, d, b, m, f, rfl, (hM.same s1).same s2, ok, s2.sqT hS, fp, fun H3 s3 => ⟨_, _, rfl, rfl, _, rfl, ?_⟩⟩
      have g3 := s3 _ _ g2
      have b3 := b2.mono fun _ _ h => RowAt.same s3 h
      refine ite2 (fun c => ?_) (fun c => ?_)
      · rw [if_pos c] at fs
        refine ⟨_, rfl, vs, g3, ?_, (s2.trans s3).mut hD, vs ++ [.ref b], upd_same, ?_⟩
        · have z := List.length_filter_le (fun p => decide (0 < wt m p)) ((picsL (upI m.levels) m.many.toNat).take i)
          rw [List.length_take] at z
          rw [b2.1]
          exact small1000 (by omega)
        · rw [fs]
          exact AllIn.snoc (b3.mono fun _ _ h => h.upd g3) (RowAt.upd g3 ⟨b, rfl, (s2.trans s3).sqT hS⟩)
      · rw [if_neg c, List.append_nil] at fs
        exact ⟨s2.trans s3, vs, g3, by rw [fs]; exact b3⟩
    · obtain ⟨s2, vs, g2, b2⟩ := g
      rw [a1.1, List.take_length, ← vals_up, ← ext_fits ok] at b2
      exact k D vs H2 (s1.free hD) (s1.trans s2) g2 b2
def spMade (K : PySem.W.Frag) (C : Addr) : Sp := fun vs H Q _ => ∃ (d : Addr) (m : Mdl), vs = [.ref d] ∧ DicAt K H d m ∧ MdlSm m ∧ wrongM m = none ∧ ∀ (y : Addr) (H' : Hp), H y = none → Same H H' → ModAt K C H' y m → Q (.ref y) H'
abbrev nLawMade : List Str := ["_law_model_here"]
theorem scLawMade : FnScope nLawMade ["_law_model_here"] (defScope s_law_made) := ⟨rfl, rfl, rfl, by decide +kernel, rfl, by decide +kernel, by decide +kernel⟩
theorem ok_made {f : Addr} {fd : FuncData} {fgMN : Addr} {fdgMN : FuncData} {C : Addr} (F : Fun K "_law_made" "_law_made" s_law_made f fd) (T : NmA mg) (MgMN : Mk K C fgMN) (GgMN : FnOk P w K mg base CX0 6 fgMN fdgMN ["self", "many", "levels", "weights", "ties"] (spMInitN K C)) (BgMN : Binds K fdgMN ["self", "many", "levels", "weights", "ties"] []) (YgMN : ModT K mg C) : FnOk P w K mg base CX0 8 f fd ["_law_model_here"] (spMade K C) := by
  refine F.ok scLawMade (fun vs H Q E h => ?_) (fun cdv A' outer s H vs Q E hr h => ?_)
  · obtain ⟨d, m, rfl, _⟩ := h
    rfl
  · obtain ⟨d, m, rfl, hM, sm, wr, k⟩ := h
    have hu := hu_of hr
    refine ⟨_, pss_one (ps_ret (pe_make MgMN GgMN (hr.mono (by decide)) (by rfl) YgMN.mgC BgMN .nil pass0 (pa_cons (pe_dget hu (pv 0) pe_str (fun _ _ => rfl)) (pa_cons (pe_dget hu (pv 0) pe_str (fun _ _ => rfl)) (pa_cons (pe_dget hu (pv 0) pe_str (fun _ _ => rfl)) (pa_cons (pe_dget hu (pv 0) pe_str (fun _ _ => rfl)) pa_nil)))))), ?_⟩
    obtain ⟨w1, t1, hd1, hd2, hd3⟩ := hM
    refine ⟨_, rfl, d, _, rfl, gd_m hd1, _, rfl, d, _, rfl, gd_l hd1, _, rfl, d, _, rfl, gd_w hd1, _, rfl, d, _, rfl, gd_t hd1, ?_⟩
    intro y dy hy hdy ney
    obtain ⟨ok1, ok2⟩ := sm_ok sm
    have sx : Same H (upd (upd H dy (.own y)) y (.ins C dy [])) := mk_same0 hy hdy
    refine ⟨y, dy, w1, t1, m, rfl, upd_same, hd2.same sx, hd3.same sx, ok1, ok2, wr, fun H3 k3 h3 => ⟨rfl, ?_⟩⟩
    have s3 : Same H H3 := mk_same hy hdy k3
    exact k y H3 hy s3 ⟨dy, w1, t1, h3, hd2.same s3, hd3.same s3⟩
def spPlain (K : PySem.W.Frag) : Sp := fun vs H Q _ => ∃ (L : Addr) (ws : List V) (r : List Int) (t : List (List Int)), vs = [.ref L] ∧ H L = some (.lst ws) ∧ AllIn (RowAt K H) ws (r :: t) ∧ ∀ (d : Addr) (H' : Hp), H d = none → Same H H' → DicAt K H' d ⟨((r :: t).length : Nat), (r.length : Nat), r :: t, []⟩ → Q (.ref d) H'
abbrev nLawPlain : List Str := ["_law_rows"]
theorem scLawPlain : FnScope nLawPlain ["_law_rows"] (defScope s_law_plain) := ⟨rfl, rfl, rfl, by decide +kernel, rfl, by decide +kernel, by decide +kernel⟩
theorem ok_plain {f : Addr} {fd : FuncData} (F : Fun K "_law_plain" "_law_plain" s_law_plain f fd) (T : NmA mg) : FnOk P w K mg base CX0 1 f fd ["_law_rows"] (spPlain K) := by
  refine F.ok scLawPlain (fun vs H Q E h => ?_) (fun cdv A' outer s H vs Q E hr h => ?_)
  · obtain ⟨L, ws, r, t, rfl, _⟩ := h
    rfl
  · obtain ⟨L, ws, r, t, rfl, eL, aL, k⟩ := h
    have hu := hu_of hr
    refine ⟨_, pss_one (ps_ret (pe_disp (pps_cons pe_str (pe_callB call_len_seq (by rfl) T.len PySem.boot_len (pa_cons (pv 0) pa_nil)) (pps_cons pe_str (pe_callB call_len_seq (by rfl) T.len PySem.boot_len (pa_cons (pe_ix ix_list (pv 0) pe_int (fun _ _ => rfl)) pa_nil)) (pps_cons pe_str (pe_callTy call_tuple_of (by rfl) T.tuple (by decide +kernel) (pa_cons (pv 0) pa_nil)) (pps_cons pe_str (pe_tup pa_nil) pps_nil)))) (by rfl) (by rfl) (fun z => by cases z) (by decide))), ?_⟩
    intro dp hdp
    have sd : Same H (upd H dp (.dK [])) := Same.new hdp
    have eL1 := sd _ _ eL
    obtain ⟨v, hv⟩ : ∃ v, ws[0]? = some v := ⟨ws[0]'(by rw [aL.1]; exact Nat.succ_pos _), List.getElem?_eq_getElem _⟩
    obtain ⟨r', hr', a, rfl, ha⟩ := aL.2 0 v hv
    cases hr'
    refine ⟨_, rfl, L, _, rfl, .inl (SqL.of eL1), _, rfl, L, _, _, _, rfl, rfl, SqL.of eL1, atI_nat (j := 0) hv, a, _, rfl, .inr (sd.sqT ha), _, rfl, L, _, rfl, .inl ⟨SqL.of eL1, fun W hW => ?_⟩⟩
    refine new_step hW fun H2 s2 e2 => ?_
    refine ⟨by show 0 ≤ sizeLine; decide, fun T hT => ?_⟩
    refine new_step hT fun H3 s3 e3 => ?_
    have hdp3 : H3 dp = some (.dK []) := s3 _ _ (s2 _ _ upd_same)
    have e23 := s3 _ _ e2
    rw [aL.1, List.length_map]
    refine ⟨hdp3, mdK ((r :: t).length : Nat) (r.length : Nat) W T, rfl, (show 4 ≤ 15 by decide), ?_⟩
    rw [merge_app (mdK _ _ W T) [] (md_keys _ _ _ _)]
    have s0d : Same H (upd H3 dp (.dK (mdK ((r :: t).length : Nat) (r.length : Nat) W T))) := ((sd.trans s2).trans s3).mut hdp
    refine k dp _ hdp s0d ⟨W, T, upd_same, ⟨ws, SqT.of ?_, aL.mono fun _ _ h => h.same s0d⟩, [], SqT.of ?_, AllIn.nil⟩
    · rw [upd_ne (fun z => by rw [z, hdp3] at e23; cases e23)]
      exact e23
    · rw [upd_ne (fun z => by rw [z, hdp3] at e3; cases e3)]
      exact e3
end
end Law

namespace L2
open PySem PySem.Spec PyProof.Rows
section
variable {P : Program} {w : World} {A : Around} {E : Value → Shared → Prop} {s : Shared} {K : PySem.W.Frag} {x C f : Addr} {ox : Obj} {od : Option Obj} {y : Value}
/-- a built-in special method of an own class's instance -/
theorem spec_bound {M : Model} {id T : String} {name : Str} {args : List Value} {Q : Option Value → Shared → Prop} (X : K.In s.heap) (I : PySem.W.InstAt s.heap x ox C od) (S : Slot T name id) (hs : PySem.W.findIn K (.ref C) name = some (some (.builtin id)))
    (h : wpAny M A (call (.builtin id) (.ref x :: args)) (fun v => Q (some v)) E s) : wpAny M A (callSpecialIfBound? (.ref x) name args) Q E s := by
  have fin : wpAny M A (call (.builtin id) ([.ref x] ++ args) >>= fun v => pure (some v)) Q E s := wpAny_bind (wpAny_mono h (fun v s' q => wpAny_pure q) fun _ _ q => q)
  simp only [callSpecialIfBound?, bindSpecialIfBound?]
  refine wpAny_holding (wpAny_bind (wpAny_bind (wpAny_bind (I.type.here ((PySem.W.looks_findIn X hs).here ?_)))))
  simp only [S.bind]
  refine wpAny_bind (wpAny_askSetting (wpAny_ite ?_))
  split
  · exact wpAny_bind (wpAny_pure (wpAny_pure fin))
  · exact wpAny_tryCatch (wpAny_bind (wpAny_pure (wpAny_pure fin)))
/-- its call is let: the instance is one of the owner's -/
theorem spec_check {M : Model} {id owner n : String} {us : List Value} {Q : Unit → Shared → Prop} (X : K.In s.heap) (I : PySem.W.InstAt s.heap x ox C od) (hk : builtinKind id = some .slot) (hs : splitId id = some (owner, n)) (ha : argsOk id ⟨.ref x :: us, []⟩)
    (hm : PySem.W.mroIn K C (.type owner) = some true) (q : Q () s) : wpAny M A (checkBuiltinCall id ⟨.ref x :: us, []⟩) Q E s := by
  simp only [checkBuiltinCall, hk, hs]
  refine wpAny_bind (wpAny_bind ?_)
  refine I.type.here ((PySem.W.looks_mroIn X hm).here ?_)
  simp only [Bool.not_true, Bool.false_eq_true, if_false]
  cases hsig : Manifest.signature? id with
  | none => exact wpAny_pure q
  | some sig =>
    simp only [argsOk, hsig] at ha
    have hc : Bind.checkArgs id sig ⟨.ref x :: us, []⟩ = pure () := ha
    show wpAny M A (Bind.checkArgs id sig ⟨.ref x :: us, []⟩) Q E _
    rw [hc]
    exact wpAny_pure q
/-- x != y by the own __eq__ -/
theorem ne_run (hu : A.units < cLine) (X : K.In s.heap) (I : PySem.W.InstAt s.heap x ox C od) (he : PySem.W.findIn K (.ref C) "__eq__" = some (some (.ref f))) (hf : PySem.W.isFn K (.ref f) = true) {Q : Fin → Shared → Prop}
    (h : wpAny (model P w) A (call (.ref f) [.ref x, y]) (fun v s' => ∃ b, v = .bool b ∧ Q (.done (.ret (.bool (!b)))) s') E s) : wpAny (model P w) A (Builtin.«object.__ne__» ⟨[.ref x, y], []⟩) Q E s := by
  unfold Builtin.«object.__ne__»
  repeat (first
    | with_reducible refine wpAny_cRoomFor hu ?_
    | (refine wpAny_bind (m := callSpecialIfBound? (.ref x) (Str.ofString "__eq__") [y])
        (PySem.W.ifBound_K X I he hf (wpAny_mono h (fun r s' hr => by
          obtain ⟨b, rfl, q⟩ := hr
          repeat (first | exact q | exact wpAny_pure q | exact wpAny_truthy_bool q | (refine wpAny_bind (m := truthy (.bool _)) (wpAny_truthy_bool ?_)) | wp_step)) fun _ _ e => e)))
    | wp_step)
theorem ne_call (hu : A.units + 1 < cLine) (X : K.In s.heap) (I : PySem.W.InstAt s.heap x ox C od) (he : PySem.W.findIn K (.ref C) "__eq__" = some (some (.ref f))) (hf : PySem.W.isFn K (.ref f) = true) (hm : PySem.W.mroIn K C (.type "object") = some true) {Q : Value → Shared → Prop}
    (h : wpAny (model P w) A.in1 (call (.ref f) [.ref x, y]) (fun v s' => ∃ b, v = .bool b ∧ Q (.bool (!b)) s') E s) : wpAny (model P w) A (call (.builtin "object.__ne__") [.ref x, y]) Q E s := by
  refine wpAny_call (codeAny_call_builtin F.cmp_object.ne.plain F.cmpEntry_ne (spec_check X I F.cmpKind_ne F.cmpSplit_ne (F.cmpArgs_ne _ _) hm (ne_run (A := A.in1) hu X I he hf (wpAny_mono h (fun v s' hv => ?_) fun _ _ e => e))))
  obtain ⟨b, rfl, q⟩ := hv
  first | exact ⟨b, rfl, wpAny_pure q⟩ | exact ⟨b, rfl, wpAny_pure (wpAny_pure q)⟩ | exact ⟨b, rfl, q⟩
end
end L2
namespace Law
open PySem L2
/-! ### a model's own ==, !=, with another one, with a dict or a tuple -/
def NoIns (K : PySem.W.Frag) (H : Hp) (b : Addr) : Value → Prop
  | .type "tuple" => ∃ ys, SqT K H b ys
  | .type "dict" => ∃ ks, H b = some (.dK ks)
  | _ => False
def rOwN (C : Addr) (sp : Sp) : R2 := fun x y H Q => ∃ a b dx fs dy gs, x = .ref a ∧ y = .ref b ∧ H a = some (.ins C dx fs) ∧ H b = some (.ins C dy gs) ∧ sp [x, y] H (fun z H' => ∃ k, z = .bl k ∧ Q (.bl (!k)) H') E0
def rOwX (K : PySem.W.Frag) (C : Addr) (sp : Sp) : R2 := fun x y H Q => ∃ a b dx fs, x = .ref a ∧ y = .ref b ∧ H a = some (.ins C dx fs) ∧ ((∃ dy gs, H b = some (.ins C dy gs)) ∨ NoIns K H b (.type "tuple") ∨ NoIns K H b (.type "dict")) ∧ sp [x, y] H Q E0
section
variable {X : Cx}
theorem own_go {f : Addr} {n : Nat} {fd : FuncData} {ps : List Str} {sp : Sp} (F : FnOk X.prog X.w X.K X.mg X.base CX0 n f fd ps sp) (hb : Binds X.K fd ps []) {A : Around} (hr : Room n A) (env : ∀ s H, Env0 X.prog X.w X.K X.mg X.base X.A X.stack s H → Env0 X.prog X.w X.K X.mg X.base A X.stack s H) {pins : List (Addr × Obj)} {s : Shared} {σ : L2.St} {H : Hp} {a b : Addr} {Q : VK} (I : Inv X pins σ H s)
    (q' : sp [.ref a, .ref b] H (fun z H' => (∃ k, z = .bl k) ∧ Q z H') E0) : wpAny (model X.prog X.w) A (call (.ref f) [.ref a, .ref b]) (fun w s' => ∃ k H', Inv X pins σ H' s' ∧ w = .bool k ∧ Q (.bl k) H') X.xe s := by
  have hl := F.len _ _ _ _ q'
  have r2 : Vals [V.ref a, V.ref b] [Value.ref a, Value.ref b] := .cons rfl (.cons rfl .nil)
  refine wpAny_call (codeAny_mono (F.run A X.stack s H ⟨[.ref a, .ref b], []⟩ [.ref a, .ref b] [.ref a, .ref b] _ E0 hr (env _ _ I.env0) (by
    have := hb s [.ref a, .ref b] I.kIn (by simpa using hl)
    simpa using this) r2 q') fun r s' hq => ?_)
  cases r with
  | error e => exact pass0 pins σ H s e s' I hq
  | ok fl =>
    cases fl with
    | ret w =>
      obtain ⟨z, H', I', rz, ⟨k, ez⟩, qz⟩ := I.after hq
      subst ez
      exact ⟨k, H', I', rz, qz⟩
    | _ => exact hq.elim
theorem op_ownX {C f : Addr} {n : Nat} {fd : FuncData} {ps : List Str} {sp : Sp} (F : FnOk X.prog X.w X.K X.mg X.base CX0 n f fd ps sp) (hs : PySem.W.findIn X.K (.ref C) "__eq__" = some (some (.ref f))) (hf : PySem.W.isFn X.K (.ref f) = true) (hb : Binds X.K fd ps [])
    (n1 : PySem.W.notFirst X.K C (.type "tuple") = true) (n2 : PySem.W.notFirst X.K C (.type "dict") = true) (hr : Room n X.A) (hbl : ∀ vs H Q, sp vs H Q E0 → sp vs H (fun z H' => (∃ b, z = .bl b) ∧ Q z H') E0) : OpR X (compareOp .Eq) (rOwX X.K C sp) := by
  intro pins s σ H x y v u Q I rx ry h
  obtain ⟨a, b, dx, fs, rfl, rfl, ha, hy, q⟩ := h
  cases rx
  cases ry
  obtain ⟨mA, J, _⟩ := ins_get I.hok ha
  obtain ⟨od, J, _⟩ := J.look
  obtain ⟨m, hF⟩ := I.fr
  have go := own_go F hb hr (fun _ _ e => e) I (hbl _ _ _ q)
  have back : ∀ w s', (∃ k H', Inv X pins σ H' s' ∧ w = .bool k ∧ Q (.bl k) H') → PySem.W.CmpBack (EP X pins σ Q) w s' := fun w s' ⟨k, H', I', e, qz⟩ => by
    subst e
    exact ⟨.bl k, H', I', rfl, qz⟩
  show wpAny (model X.prog X.w) X.A (richCompare .Eq (.ref a) (.ref b)) (EP X pins σ Q) X.xe s
  rcases hy with ⟨dy, gs, hb'⟩ | ⟨ys, hT⟩ | ⟨ks, hD⟩
  · obtain ⟨mB, J', _⟩ := ins_get I.hok hb'
    obtain ⟨od', J', _⟩ := J'.look
    exact PySem.W.cmp_K (op := .Eq) (tb := .ref C) hr.units0 hF I.ok.mod.kin J J'.type (by simp [PySem.W.notFirst]) hs hf (wpAny_mono go back fun _ _ x => x)
  · obtain ⟨its, rv, ⟨o, ho, hc, _⟩, _⟩ := I.tuple hT
    exact PySem.W.cmp_K (op := .Eq) (tb := .type "tuple") hr.units0 hF I.ok.mod.kin J (fun A Q E s k q => wpAny_typeOf ⟨o, k _ _ ho, hc⟩ q) n1 hs hf (wpAny_mono go back fun _ _ x => x)
  · obtain ⟨_, _, vs, _, dd⟩ := dk_of I.hok hD
    obtain ⟨o, ho, hc⟩ := dd.typeIs
    exact PySem.W.cmp_K (op := .Eq) (tb := .type "dict") hr.units0 hF I.ok.mod.kin J (fun A Q E s k q => wpAny_typeOf ⟨o, k _ _ ho, hc⟩ q) n2 hs hf (wpAny_mono go back fun _ _ x => x)
theorem op_ownN {C f : Addr} {n : Nat} {fd : FuncData} {ps : List Str} {sp : Sp} (F : FnOk X.prog X.w X.K X.mg X.base CX0 n f fd ps sp) (hs : PySem.W.findIn X.K (.ref C) "__eq__" = some (some (.ref f))) (hf : PySem.W.isFn X.K (.ref f) = true) (hb : Binds X.K fd ps [])
    (hn : PySem.W.findIn X.K (.ref C) "__ne__" = some (some (.builtin "object.__ne__"))) (hm : PySem.W.mroIn X.K C (.type "object") = some true) (hr : Room (n + 1) X.A) (hbl : ∀ vs H Q, sp vs H Q E0 → sp vs H (fun z H' => (∃ b, z = .bl b) ∧ Q z H') E0) : OpR X (compareOp .NotEq) (rOwN C sp) := by
  intro pins s σ H x y v u Q I rx ry h
  obtain ⟨a, b, dx, fs, dy, gs, rfl, rfl, ha, hb', q⟩ := h
  cases rx
  cases ry
  obtain ⟨mA, J, _⟩ := ins_get I.hok ha
  obtain ⟨od, J, _⟩ := J.look
  obtain ⟨mB, J', _⟩ := ins_get I.hok hb'
  obtain ⟨od', J', _⟩ := J'.look
  have go := own_go F hb hr.in1 (fun _ _ e => e.in1) I (hbl _ _ _ q)
  show wpAny (model X.prog X.w) X.A (richCompare .NotEq (.ref a) (.ref b)) (EP X pins σ Q) X.xe s
  unfold richCompare
  simp only [oneThing_ref]
  refine wpAny_holding (wpAny_bind (wpAny_cRoomFor hr.units0 ?_))
  refine wpAny_bind (J.type.here (wpAny_bind (J'.type.here ?_)))
  rw [show (Value.ref C != Value.ref C) = false from by simp]
  simp only [Bool.false_eq_true, if_false]
  refine wpAny_bind (wpAny_pure ?_)
  simp only [Bool.false_eq_true, if_false]
  have one : wpAny (model X.prog X.w) X.A (tryCompare (.ref a) (cmpInfo .NotEq).2.1 (.ref b)) (fun r s' => ∃ v, r = some v ∧ EP X pins σ Q v s') X.xe s := by
    unfold tryCompare
    refine wpAny_bind (spec_bound I.kIn J PySem.F.cmp_object.ne hn (ne_call (Nat.lt_of_le_of_lt (Nat.add_le_add_left (show 1 ≤ 64 by decide) _) hr.units) I.kIn J hs hf hm (wpAny_mono go (fun v s' hv => ?_) fun _ _ e => e)))
    obtain ⟨k, H', I', rfl, k', ek, qz⟩ := hv
    cases ek
    exact ⟨k, rfl, wpAny_pure ⟨_, rfl, .bl (!k), H', I', rfl, qz⟩⟩
  refine wpAny_bind (wpAny_mono one (fun r s' z => ?_) fun _ _ e => e)
  obtain ⟨v, rfl, qv⟩ := z
  exact wpAny_pure qv
end
section
variable {P : Program} {w : World} {K : PySem.W.Frag} {mg : Str → Option Value} {base : Heap}
/-- the own ==, of a Model and a Model, a dict or a tuple -/
def spMEqX (K : PySem.W.Frag) (C : Addr) : Sp := fun vs H Q _ => ∃ (p q : Addr) (a : Mdl), vs = [.ref p, .ref q] ∧ ModAt K C H p a ∧ ((∃ b, ModAt K C H q b ∧ Q (.bl (eqM a b)) H) ∨ ((NoIns K H q (.type "tuple") ∨ NoIns K H q (.type "dict")) ∧ Q (.bl false) H))
theorem bl_MEX {C : Addr} : ∀ vs H Q, spMEqX K C vs H Q E0 → spMEqX K C vs H (fun z H' => (∃ b, z = .bl b) ∧ Q z H') E0 := by
  rintro vs H Q ⟨p, q, a, e, h1, h⟩
  refine ⟨p, q, a, e, h1, ?_⟩
  rcases h with ⟨b, h2, k⟩ | ⟨h2, k⟩
  · exact .inl ⟨b, h2, ⟨_, rfl⟩, k⟩
  · exact .inr ⟨h2, ⟨_, rfl⟩, k⟩
abbrev nModelEqX : List Str := ["self", "other"]
theorem scModelEqX : FnScope nModelEqX ["self", "other"] (defScope s_Model_eq) := ⟨rfl, rfl, rfl, by decide +kernel, rfl, by decide +kernel, by decide +kernel⟩
theorem ok_meqx {f : Addr} {fd : FuncData} {C : Addr} (F : Fun K "__eq__" "Model.__eq__" s_Model_eq f fd) (T : NmA mg) (S : ModT K mg C) (kt : PySem.W.kitOne K (.type "tuple") (.ref C) = some false) (kd : PySem.W.kitOne K (.type "dict") (.ref C) = some false) : FnOk P w K mg base CX0 1 f fd ["self", "other"] (spMEqX K C) := by
  refine F.ok scModelEqX (fun vs H Q E h => ?_) (fun cdv A' outer s H vs Q E hr h => ?_)
  · obtain ⟨p, q, a, rfl, _⟩ := h
    rfl
  · obtain ⟨p, q, a, rfl, h1, h⟩ := h
    have hu := hu_of hr
    refine ⟨_, pss_one (ps_ret (pe_and (pe_callB call_isi (by rfl) T.isi (by decide +kernel) (pa_cons (pv 1) (pa_cons (pe_glob (v := .ref C) (u := .ref C) rfl S.mgC rfl) pa_nil))) (pe_and (pe_cmpR op_eq (pe_fld (pv 0) rfl) (pe_fld (pv 1) rfl) (nomark _)) (pe_and (pe_cmpR op_eq (pe_fld (pv 0) rfl) (pe_fld (pv 1) rfl) (nomark _)) (pe_and (pe_cmpR (op_eqD hr.units) (pe_fld (pv 0) rfl) (pe_fld (pv 1) rfl) (nomark _)) (pe_one (pe_cmpR (op_eqD hr.units) (pe_fld (pv 0) rfl) (pe_fld (pv 1) rfl) (nomark _)))))))), ?_⟩
    rcases h with ⟨b, h2, k⟩ | ⟨h2, k⟩
    · obtain ⟨d1, w1, t1, a1, b1, c1⟩ := id h1
      obtain ⟨d2, w2, t2, a2, b2, c2⟩ := id h2
      unfold eqM at k
      refine ⟨_, rfl, _, _, _, _, _, rfl, .own C, h2.ty S, kit_selfM (by simp), _, rfl, iteT ?_⟩
      refine ⟨_, rfl, p, C, d1, _, _, rfl, a1, S.cl, S.nK, modF_many _ _ _ _, _, rfl, q, C, d2, _, _, rfl, a2, S.cl, S.nK, modF_many _ _ _ _, rfl, _, rfl, ?_⟩
      rw [ei]
      cases e1 : decide (a.many = b.many) with
      | false =>
        rw [e1, Bool.false_and] at k
        exact iteF k
      | true =>
      rw [e1, Bool.true_and] at k
      refine iteT ⟨_, rfl, p, C, d1, _, _, rfl, a1, S.cl, S.nL, modF_levels _ _ _ _, _, rfl, q, C, d2, _, _, rfl, a2, S.cl, S.nL, modF_levels _ _ _ _, rfl, _, rfl, ?_⟩
      rw [ei]
      cases e2 : decide (a.levels = b.levels) with
      | false =>
        rw [e2, Bool.false_and] at k
        exact iteF k
      | true =>
      rw [e2, Bool.true_and] at k
      refine iteT ⟨_, rfl, p, C, d1, _, _, rfl, a1, S.cl, S.nW, modF_weights _ _ _ _, _, rfl, q, C, d2, _, _, rfl, a2, S.cl, S.nW, modF_weights _ _ _ _, tabD a.ws, tabD b.ws, dp_rows b1, dp_rows b2, shaped_of (lay_tabD _) (by decide), shaped_of (lay_tabD _) (by decide), _, rfl, ?_⟩
      rw [eqv_tabD]
      cases e3 : decide (a.ws = b.ws) with
      | false =>
        rw [e3, Bool.false_and] at k
        exact iteF k
      | true =>
      rw [e3, Bool.true_and] at k
      refine iteT ⟨_, rfl, p, C, d1, _, _, rfl, a1, S.cl, S.nT, modF_ties _ _ _ _, _, rfl, q, C, d2, _, _, rfl, a2, S.cl, S.nT, modF_ties _ _ _ _, tiesD a.ts, tiesD b.ts, dp_ties c1, dp_ties c2, shaped_of (lay_tiesD _) (by decide), shaped_of (lay_tiesD _) (by decide), ?_⟩
      rw [eqv_tiesD]
      exact k
    · rcases h2 with ⟨ys, h2⟩ | ⟨ks, h2⟩
      · exact ⟨_, rfl, _, _, _, _, _, rfl, .own C, tyx_tup h2, kt, _, rfl, iteF k⟩
      · exact ⟨_, rfl, _, _, _, _, _, rfl, .own C, .base (.dK h2), kd, _, rfl, iteF k⟩
end
end Law

namespace L2
open PySem PySem.Spec PyProof.Rows
theorem cut_to {xs : List V} {n : Nat} (h : n ≤ xs.length) : cutV xs none (some (n : Int)) = xs.take n := by
  unfold cutV
  show (xs.drop 0).take (HT.sIx xs.length xs.length (some (n : Int)) - 0) = _
  rw [HT.sIx_nat, Nat.min_eq_left h, Nat.sub_zero, List.drop_zero]
theorem cut_from {xs : List V} {n : Nat} (h : n ≤ xs.length) : cutV xs (some (n : Int)) none = xs.drop n := by
  unfold cutV
  show (xs.drop (HT.sIx xs.length 0 (some (n : Int)))).take (xs.length - HT.sIx xs.length 0 (some (n : Int))) = _
  rw [HT.sIx_nat, Nat.min_eq_left h]
  exact List.take_of_length_le (by rw [List.length_drop]; exact Nat.le_refl _)
theorem set_cut {α : Type} {xs : List α} {n : Nat} {x : α} (h : n < xs.length) : (xs.take n ++ [x]) ++ xs.drop (n + 1) = xs.set n x := by
  rw [List.set_eq_take_append_cons_drop, if_pos h, List.append_assoc] <;> rfl
theorem AllIn.set {α : Type} {R : V → α → Prop} {vs : List V} {l : List α} {v : V} {x : α} (h : AllIn R vs l) (n : Nat) (hv : R v x) : AllIn R (vs.set n v) (l.set n x) := by
  refine ⟨by rw [List.length_set, List.length_set, h.1], fun i u hu => ?_⟩
  rw [List.getElem?_set] at hu
  by_cases c : n = i
  · rw [if_pos c] at hu
    split at hu
    · rename_i hl
      cases hu
      exact ⟨x, by rw [List.getElem?_set, if_pos c, if_pos (by rw [← h.1]; exact hl)], hv⟩
    · cases hu
  · rw [if_neg c] at hu
    obtain ⟨y, h1, h2⟩ := h.2 i u hu
    exact ⟨y, by rw [List.getElem?_set, if_neg c]; exact h1, h2⟩
theorem not_crowd {many : Int} {ts : List Tie} (h : crowdB many ts = false) : ∀ q : Nat, q < many.toNat → cntT ts (q : Int) ≤ 4 := fun q hq => by
  unfold crowdB at h
  have z := List.any_eq_false.mp h q (List.mem_range.mpr hq)
  have z : ¬ (4 < cntT ts (q : Nat)) := fun w => z (decide_eq_true w)
  omega
theorem tsOk_of {m : Mdl} (sm : MdlSm m) (wr : wrongM m = none) : TsOk m.many m.levels m.ts := by
  obtain ⟨_, _, _, c4, _⟩ := wrong_ok wr
  refine ⟨c4, fun t ht => ?_⟩
  obtain ⟨a, b, _, d, e⟩ := sm.tr t ht
  exact ⟨a.1, b.1, d, fun l hl => ⟨(e l hl).2.1, fun x hx => ((e l hl).2.2 x hx).1⟩⟩
theorem tsOk_tail {many levels : Int} {ts : List Tie} (h : TsOk many levels ts) : TsOk many levels (ts.drop 1) := by
  refine ⟨fun j hj => ?_, fun t ht => h.n t (List.mem_of_mem_drop ht)⟩
  rw [List.length_drop] at hj
  have hj1 : j + 1 < ts.length := by omega
  have g := h.g (j + 1) hj1
  have ht := List.getElem?_eq_getElem hj1
  obtain ⟨g1, g2⟩ := gT_get g ht
  unfold gT
  rw [List.getElem?_drop, show 1 + j = j + 1 by omega, ht]
  show (tieB many levels ts[j + 1] && !leP ts[j + 1].1 (lastP (ts.drop 1) j)) = true
  have e : leP ts[j + 1].1 (lastP (ts.drop 1) j) = false := by
    unfold lastP
    by_cases c : j = 0
    · rw [if_pos c]
      obtain ⟨n1, _⟩ := h.n _ (List.getElem_mem hj1)
      unfold tieB at g1
      simp only [Bool.and_eq_true, decide_eq_true_eq] at g1
      exact leP_0 n1 g1.2.1
    · rw [if_neg c, List.getElem?_drop, show 1 + (j - 1) = j by omega]
      unfold lastP at g2
      rw [if_neg (Nat.succ_ne_zero j), Nat.add_sub_cancel] at g2
      exact g2
  rw [g1, e] <;> rfl
end L2
namespace Law
open PySem L2
theorem Stp.free {p : Addr} {H H' : Hp} {a : Addr} (S : Stp p H H') (h : H' a = none) : H a = none := by
  cases z : H a with
  | none => rfl
  | some o =>
    have ap : a ≠ p := ne_hand S.hand h
    rw [S.keep _ _ ap z] at h
    cases h
theorem catAny {K : PySem.W.Frag} {H : Hp} {a b : Addr} {xs ys : List V} {Q : VK} (ha : SqT K H a xs) (hb : SqT K H b ys) (hl : xs.length + ys.length ≤ sizeLine) (k : ∀ p H', Same H H' → SqT K H' p (xs ++ ys) → Q (.ref p) H') : rCatA K (.ref a) (.ref b) H Q :=
  ⟨a, b, xs, ys, rfl, rfl, ha, hb, hl, fun z => k b H (Same.refl H) (by rw [z]; exact hb), fun _ z => k a H (Same.refl H) (by rw [z, List.append_nil]; exact ha), fun _ _ p hp => k p _ (Same.new hp) (SqT.of upd_same)⟩
theorem slAny {K : PySem.W.Frag} {H : Hp} {a : Addr} {xs : List V} {lo hi : Option Int} {Q : VK} (ha : SqT K H a xs) (k : ∀ p H', Same H H' → SqT K H' p (cutV xs lo hi) → Q (.ref p) H') : rSlA K (.ref a) lo hi H Q := by
  refine ⟨a, xs, rfl, ha, fun z => k a H (Same.refl H) ?_, fun _ p hp => k p _ (Same.new hp) (SqT.of upd_same)⟩
  unfold cutV
  rw [z.1, z.2, List.drop_zero, Nat.sub_zero, List.take_length]
  exact ha
section
variable (m l : Int) (w t x : Addr)
theorem put_take {i : Nat} {k : Key} {v : V} (h : (mdK m l w t)[i]? = some (k, v)) : putK ((mdK m l w t).take i) k v = (mdK m l w t).take (i + 1) ∧ valV (mdK m l w t) k = some v := by
  match i, h with
  | 0, h => cases h; exact ⟨rfl, gv_m m l w t⟩
  | 1, h => cases h; exact ⟨putK_new _ (valV_neg k_ML), gv_l m l w t⟩
  | 2, h => cases h; exact ⟨putK_new _ ((valV_neg k_MW).trans (valV_neg k_LW)), gv_w m l w t⟩
  | 3, h => cases h; exact ⟨putK_new _ ((valV_neg k_MT).trans ((valV_neg k_LT).trans (valV_neg k_WT))), gv_t m l w t⟩
  | i + 4, h => cases h
theorem pk_w : putK (mdK m l w t) (Sum.inr ("weights" : Str)) (.ref x) = mdK m l x t := by
  rw [put_of (gv_w m l w t)]
  unfold mdK
  simp only [List.map_cons, List.map_nil, if_neg k_MW, if_neg k_LW, if_neg (fun z => k_WT (Eq.symm z)), if_true]
theorem pk_t : putK (mdK m l w t) (Sum.inr ("ties" : Str)) (.ref x) = mdK m l w x := by
  rw [put_of (gv_t m l w t)]
  unfold mdK
  simp only [List.map_cons, List.map_nil, if_neg k_MT, if_neg k_LT, if_neg k_WT, if_true]
end
section
variable {H : Hp} {d w t : Addr} {m l : Int} (h : H d = some (.dK (mdK m l w t)))
include h
theorem pd_w (x : Addr) : DPut H d (.str "weights") (.ref x) (upd H d (.dK (mdK m l x t))) := by
  have q := DPut.k (k := Sum.inr ("weights" : Str)) (v := .ref x) h (by show 4 < sizeLine; decide)
  rw [pk_w] at q
  exact q
theorem pd_t (x : Addr) : DPut H d (.str "ties") (.ref x) (upd H d (.dK (mdK m l w x))) := by
  have q := DPut.k (k := Sum.inr ("ties" : Str)) (v := .ref x) h (by show 4 < sizeLine; decide)
  rw [pk_t] at q
  exact q
end
theorem unl_ws {m : Mdl} (sm : MdlSm m) (wr : wrongM m = none) {ws : List (List Int)} (hl : (ws.length : Int) = m.many) (hr : RowsIn m.levels ws) : MdlSm ⟨m.many, m.levels, ws, m.ts⟩ ∧ wrongM ⟨m.many, m.levels, ws, m.ts⟩ = none := by
  obtain ⟨c1, c2, c3, c4, c5⟩ := wrong_ok wr
  have t := tsOk_of sm wr
  have w : wrongM ⟨m.many, m.levels, ws, m.ts⟩ = none := made_ok c1 c2 (rowOk_tab hl hr) t (not_crowd c5)
  refine ⟨ok_sm w (fun l hl => ?_) fun u hu => t.n u hu, w⟩
  obtain ⟨a, b⟩ := hr l hl
  refine ⟨fun z => ?_, fun x hx => (b x hx).1⟩
  rw [z] at a
  have : ((0 : Nat) : Int) = m.levels := a
  omega
theorem unl_ts {m : Mdl} (sm : MdlSm m) (wr : wrongM m = none) : MdlSm ⟨m.many, m.levels, m.ws, m.ts.drop 1⟩ ∧ wrongM ⟨m.many, m.levels, m.ws, m.ts.drop 1⟩ = none := by
  obtain ⟨c1, c2, c3, c4, c5⟩ := wrong_ok wr
  have t := tsOk_tail (tsOk_of sm wr)
  have w : wrongM ⟨m.many, m.levels, m.ws, m.ts.drop 1⟩ = none := made_ok c1 c2 c3 t fun q hq => by
    have z := not_crowd c5 q hq
    have y : cntT (m.ts.drop 1) (q : Int) ≤ cntT m.ts (q : Int) := ((List.drop_sublist 1 m.ts).filter _).length_le
    show cntT (m.ts.drop 1) (q : Int) ≤ 4
    omega
  exact ⟨ok_sm w (fun l hl => ⟨(sm.wr l hl).2.1, fun x hx => ((sm.wr l hl).2.2 x hx).1⟩) fun u hu => t.n u hu, w⟩
section
variable {P : Program} {w : World} {K : PySem.W.Frag} {mg : Str → Option Value} {base : Heap}
def spUnl (K : PySem.W.Frag) : Sp := fun vs H Q _ => ∃ (p d : Addr) (m : Mdl), vs = [.ref p, .ref d] ∧ HandAt H p ∧ d ≠ p ∧ DicAt K H d m ∧ MdlSm m ∧ wrongM m = none ∧ ∀ (e : Addr) (m' : Mdl) (H' : Hp), H e = none → Stp p H H' → DicAt K H' e m' → MdlSm m' → wrongM m' = none → eqM m m' = false → Q (.ref e) H'
abbrev nLawUnlike : List Str := ["_law_hand_here", "_law_model_here", "_law_found", "_law_key", "_law_place", "_law_level", "_law_row"]
theorem scLawUnlike : FnScope nLawUnlike ["_law_hand_here", "_law_model_here"] (defScope s_law_unlike) := ⟨rfl, rfl, rfl, by decide +kernel, rfl, by decide +kernel, by decide +kernel⟩
theorem ok_unlike {f : Addr} {fd : FuncData} {fD : Addr} {fdD : FuncData} (F : Fun K "_law_unlike" "_law_unlike" s_law_unlike f fd) (T : NmA mg) (D : Cl P w K mg base CX0 1 "_law_draw" fD fdD ["_law_hand_here", "_law_many"] spDraw) : FnOk P w K mg base CX0 2 f fd ["_law_hand_here", "_law_model_here"] (spUnl K) := by
  refine F.ok scLawUnlike (fun vs H Q E h => ?_) (fun cdv A' outer s H vs Q E hr h => ?_)
  · obtain ⟨p, d, m, rfl, _⟩ := h
    rfl
  · obtain ⟨p, d, m, rfl, hH, dp, hM, sm, wr, k⟩ := h
    have hu := hu_of hr
    refine ⟨_, pss_cons (ps_set (i := 2) scLawUnlike.nd rfl (Or.inl rfl) pe_dnewK)
      (pss_cons (ps_lock (ps_for PassesOwn.never rfl (pi_keys (pv 1)) (pg_name (i := 3) scLawUnlike.nd rfl (Or.inl rfl))
        (pss_one (ps_dput hu (pv 2) (pv 3) (pe_dget hu (pv 1) (pv 3) (fun _ _ => rfl)) rfl))))
      (pss_cons (ps_par (i := 4) (j := 5) (by rfl) scLawUnlike.nd rfl rfl (by decide) rfl rfl (pa_cons (D.call (hr.mono (by decide)) (pa_cons (pv 0) (pa_cons (pe_dget hu (pv 1) pe_str (fun _ _ => rfl)) pa_nil))) (pa_cons (D.call (hr.mono (by decide)) (pa_cons (pv 0) (pa_cons (pe_dget hu (pv 1) pe_str (fun _ _ => rfl)) pa_nil))) pa_nil)) (by rfl))
      (pss_cons (ps_set (i := 6) scLawUnlike.nd rfl (Or.inl rfl) (pe_ix ix_tup (pe_dget hu (pv 1) pe_str (fun _ _ => rfl)) (pv 4) (fun _ _ => rfl)))
      (pss_cons (ps_set (i := 6) scLawUnlike.nd rfl (Or.inl rfl) (pe_op op_catA (pe_op op_catA (pe_slice sl_tupA (pv 6) po_none (po_some (pv 5))) (pe_tup (pa_cons (pe_ifExp (pt_cmpR op_lt (pe_ix ix_tup (pv 6) (pv 5) (fun _ _ => rfl)) pe_int (nomark _)) (pe_op op_add (pe_ix ix_tup (pv 6) (pv 5) (fun _ _ => rfl)) pe_int) pe_int) pa_nil))) (pe_slice sl_tupA (pv 6) (po_some (pe_op op_add (pv 5) pe_int)) po_none)))
      (pss_cons (ps_dput hu (pv 2) pe_str (pe_op op_catA (pe_op op_catA (pe_slice sl_tupA (pe_dget hu (pv 1) pe_str (fun _ _ => rfl)) po_none (po_some (pv 4))) (pe_tup (pa_cons (pv 6) pa_nil))) (pe_slice sl_tupA (pe_dget hu (pv 1) pe_str (fun _ _ => rfl)) (po_some (pe_op op_add (pv 4) pe_int)) po_none)) rfl)
      (pss_cons (ps_if (PW.pt (pw_and (pt_cmpR op_gt (pe_callB call_len_seq (by rfl) T.len PySem.boot_len (pa_cons (pe_dget hu (pv 1) pe_str (fun _ _ => rfl)) pa_nil)) pe_int (nomark _)) (pw_and1 (pt_cmpR op_eq (D.call (hr.mono (by decide)) (pa_cons (pv 0) (pa_cons pe_int pa_nil))) pe_int (nomark _)))))
        (pss_one (ps_asg (pe_tup (pa_cons (pe_dget hu (pv 1) pe_str (fun _ _ => rfl)) (pa_cons (pe_slice sl_tupA (pe_dget hu (pv 1) pe_str (fun _ _ => rfl)) (po_some pe_int) po_none) pa_nil))) (pg_tup (by rfl) (pgs_cons (pg_sub (pv 2) pe_str (set_dict hu)) (pgs_cons (pg_sub (pv 2) pe_str (set_dict hu)) pgs_nil))))) pss_nil)
      (pss_one (ps_ret (pv 2))))))))), ?_⟩
    have ok := MOk.of sm wr
    obtain ⟨wa, ta, wvs, tvs, hd, hW, aW, hT, aT⟩ := mod_dic hM
    have m1 := ok.m1
    have m12 := ok.m12
    have l1 := ok.l1
    have l4 := ok.l4
    intro dF hdF
    refine new_step hdF fun H1 s1 e1 => ?_
    have dFd : dF ≠ d := fun z => by rw [z, hd] at hdF; cases hdF
    have dFp : dF ≠ p := ne_hand hH hdF
    have hd1 := s1 _ _ hd
    refine ⟨d, _, hd1, True.intro, fun od => ?_⟩
    refine ⟨_, rfl, d, od, rfl, .inl ⟨_, upd_same, for_it walk_keys (fun i σ H' => H' d = some (.frz od (.dK (mdK m.many m.levels wa ta))) ∧ H' dF = some (.dK ((mdK m.many m.levels wa ta).take i)) ∧ (∀ c o, c ≠ d → c ≠ dF → H1 c = some o → H' c = some o) ∧ ∃ u : Option V, σ = [some (.ref p), some (.ref d), some (.ref dF), u, none, none, none]) ⟨upd_same, by rw [upd_ne dFd]; exact e1, fun c o n _ z => by rw [upd_ne n]; exact z, none, rfl⟩ (fun i σ H' _ h => h.1) ?_ ?_⟩⟩
    · rintro i x σ H2 H3 hi ⟨f1, f2, f3, u, rfl⟩ ⟨rfl, kk, v, hk, rfl⟩
      obtain ⟨q1, q2⟩ := put_take _ _ _ _ hk
      have hi : i < 4 := hi
      have put := DPut.k (k := kk) (v := v) f2 (by rw [List.length_take, sizeLine_eq]; omega)
      rw [q1] at put
      refine ⟨_, rfl, _, rfl, d, v, rfl, .inl ⟨_, kk, .inr ⟨od, f1⟩, rfl, q2.symm⟩, _, rfl, _, rfl, dF, _, rfl, put, ?_⟩
      exact ⟨by rw [upd_ne dFd.symm]; exact f1, upd_same, fun c o n1 n2 z => by rw [upd_ne n2]; exact f3 c o n1 n2 z, _, rfl⟩
    rintro σ H2 ⟨f1, f2, f3, u, rfl⟩
    refine ⟨f1, ?_⟩
    obtain ⟨H3, hH3⟩ : ∃ G, G = upd H2 d (.dK (mdK m.many m.levels wa ta)) := ⟨_, rfl⟩
    have s3 : Same H H3 := fun c o z => by
      rw [hH3]
      by_cases cd : c = d
      · rw [cd, upd_same]
        rw [cd, hd] at z
        exact z
      · rw [upd_ne cd]
        exact f3 c o cd (ne_of_none z hdF) (s1 _ _ z)
    have e3 : H3 dF = some (.dK (mdK m.many m.levels wa ta)) := by rw [hH3, upd_ne dFd]; exact f2
    rw [← hH3]
    clear hH3 f1 f2 f3
    have hd3 := s3 _ _ hd
    refine ⟨_, rfl, _, rfl, d, _, rfl, gd_m hd3, p, m.many, rfl, by omega, by omega, hH.same s3, fun pl H4 p0 p1 S4 => ?_⟩
    have hd4 := S4.keep _ _ dp hd3
    refine ⟨_, rfl, _, rfl, d, _, rfl, gd_l hd4, p, m.levels, rfl, by omega, by omega, S4.hand, fun lv H5 v0 v1 S5 => ⟨_, _, rfl, ?_⟩⟩
    have S05 : Stp p H H5 := (S4.pre s3 hH).trans S5
    have hd5 := S5.keep _ _ dp hd4
    have e5 := S5.keep _ _ dFp (S4.keep _ _ dFp e3)
    have hW5 := S05.sqT hH hW
    have aW5 : AllIn (RowAt K H5) wvs m.ws := aW.mono fun _ _ => rowAt_stp S05 hH
    obtain ⟨pn, rfl⟩ := Int.eq_ofNat_of_zero_le p0
    obtain ⟨ln, rfl⟩ := Int.eq_ofNat_of_zero_le v0
    have pw : pn < m.ws.length := by have := ok.wl; omega
    have pv' : pn < wvs.length := by rw [aW.1]; exact pw
    obtain ⟨r, r1, r2, r3⟩ := row_at aW5 (i := (pn : Int)) (by omega) (by omega)
    generalize hR : gR m.ws (pn : Int) = R at r2 r3
    obtain ⟨rl, rx⟩ := ok.wr _ r3
    have lR : ln < R.length := by omega
    have atx : atI (R.map V.int) (ln : Int) = some (.int (gI R (ln : Int))) := atI_gI (by omega) (by omega)
    have x01 := gI_nn rx (ln : Int)
    generalize hx : gI R (ln : Int) = x at atx x01
    refine ⟨_, rfl, d, _, rfl, gd_w hd5, _, rfl, wa, _, _, _, rfl, rfl, hW5, r1, ?_⟩
    unfold tNoPart
    refine ⟨_, rfl, _, rfl, _, rfl, ?_⟩
    refine slAny r2 fun a1 H6 s6 h6 => ?_
    have r26 := s6.sqT r2
    refine mrgIf (fun v H' => v = .int (if x < 1000 then x + 1 else 0) ∧ H' = H6) (fun Q' key => ?_) ?_
    · refine ⟨_, rfl, _, rfl, r, _, _, _, rfl, rfl, r26, atx, _, _, rfl, rfl, _, rfl, ite2 (fun c => ?_) (fun c => ?_)⟩
      · have c := of_decide_eq_true c
        exact ⟨_, rfl, _, rfl, r, _, _, _, rfl, rfl, r26, atx, _, _, rfl, rfl, key _ _ ⟨by rw [if_pos c], rfl⟩⟩
      · have c : ¬ x < 1000 := fun z => c (decide_eq_true z)
        exact key _ _ ⟨by rw [if_neg c], rfl⟩
    rintro v H' ⟨rfl, rfl⟩
    obtain ⟨nv, hnv⟩ : ∃ nv, nv = if x < 1000 then x + 1 else 0 := ⟨_, rfl⟩
    rw [← hnv]
    have nv0 : 0 ≤ nv ∧ nv ≤ 1000 ∧ nv ≠ x := by
      rw [hnv]
      split <;> omega
    refine ⟨by show 1 ≤ sizeLine; decide, fun o ho => ?_⟩
    refine new_step ho fun H7 s7 e7 => ?_
    rw [cut_to (by rw [List.length_map]; omega)] at h6
    refine catAny (s7.sqT h6) (SqT.of e7) (by rw [List.length_take, List.length_map, sizeLine_eq]; show _ + 1 ≤ _; omega) fun a2 H8 s8 h8 => ?_
    have s68 := (s6.trans s7).trans s8
    refine ⟨_, rfl, _, rfl, _, _, rfl, rfl, _, rfl, ?_⟩
    refine slAny (s68.sqT r2) fun a3 H9 s9 h9 => ?_
    rw [show ((ln : Int) + 1) = ((ln + 1 : Nat) : Int) by omega, cut_from (by rw [List.length_map]; omega)] at h9
    refine catAny (s9.sqT h8) h9 (by rw [List.length_append, List.length_take, List.length_drop, List.length_map, sizeLine_eq]; show _ + 1 + _ ≤ _; omega) fun a4 H10 s10 h10 => ?_
    have s510 := (s68.trans s9).trans s10
    rw [set_cut (by rw [List.length_map]; exact lR), show (R.map V.int).set ln (.int nv) = (R.set ln nv).map V.int by rw [List.map_set]] at h10
    have hd10 := s510 _ _ hd5
    have hW10 := s510.sqT hW5
    refine ⟨_, rfl, d, _, rfl, gd_w hd10, _, rfl, _, rfl, ?_⟩
    refine slAny hW10 fun b1 H11 s11 h11 => ?_
    rw [cut_to (by omega)] at h11
    refine ⟨_, rfl, by show 1 ≤ sizeLine; decide, fun o2 ho2 => ?_⟩
    refine new_step ho2 fun H12 s12 e12 => ?_
    refine catAny (s12.sqT h11) (SqT.of e12) (by rw [List.length_take, sizeLine_eq]; show _ + 1 ≤ _; omega) fun b2 H13 s13 h13 => ?_
    have s1013 := (s11.trans s12).trans s13
    refine ⟨_, rfl, d, _, rfl, gd_w (s1013 _ _ hd10), _, rfl, _, _, rfl, rfl, _, rfl, ?_⟩
    refine slAny (s1013.sqT hW10) fun b3 H14 s14 h14 => ?_
    rw [show ((pn : Int) + 1) = ((pn + 1 : Nat) : Int) by omega, cut_from (by omega)] at h14
    refine catAny (s14.sqT h13) h14 (by rw [List.length_append, List.length_take, List.length_drop, sizeLine_eq]; have := aW.1; have := ok.wl; show _ + 1 + _ ≤ _; omega) fun b4 H15 s15 h15 => ?_
    rw [set_cut pv'] at h15
    have s515 := s510.trans ((s1013.trans s14).trans s15)
    have e15 := s515 _ _ e5
    have S15 := S05.post s515
    have hd15 := s515 _ _ hd5
    have aN : AllIn (RowAt K H15) (wvs.set pn (.ref a4)) (m.ws.set pn (R.set ln nv)) := AllIn.set (aW5.mono fun _ _ h => h.same s515) pn ⟨a4, rfl, ((s1013.trans s14).trans s15).sqT h10⟩
    have dF15 : ∀ o, upd H15 dF o d = some (.dK (mdK m.many m.levels wa ta)) := fun o => by rw [upd_ne dFd.symm]; exact hd15
    refine ⟨_, rfl, dF, _, rfl, pd_w e15 b4, ?_⟩
    have S16 : Stp p H (upd H15 dF (.dK (mdK m.many m.levels b4 ta))) := S15.mut hH hdF
    have tupF : ∀ {o : HO} {a : Addr} {ys : List V}, SqT K H15 a ys → SqT K (upd H15 dF o) a ys := fun {o a ys} h => by
      rcases h with (z | ⟨q, z⟩) | z
      · exact .inl (.inl (by rw [upd_ne (ne_of z e15 (by intro y; cases y))]; exact z))
      · exact .inl (.inr ⟨q, by rw [upd_ne (ne_of z e15 (by intro y; cases y))]; exact z⟩)
      · exact .inr z
    have rowF : ∀ {o : HO} {v : V} {l : List Int}, RowAt K H15 v l → RowAt K (upd H15 dF o) v l := fun {o v l} ⟨a, z1, z2⟩ => ⟨a, z1, tupF z2⟩
    have tieF : ∀ {o : HO} {v : V} {t : Tie}, TieAt K H15 v t → TieAt K (upd H15 dF o) v t := fun {o v t} ⟨a, b, z1, z2, vs, z3, z4⟩ => ⟨a, b, z1, tupF z2, vs, tupF z3, z4.mono fun _ _ => rowF⟩
    have hT15 := S15.sqT hH hT
    have aT15 : AllIn (TieAt K H15) tvs m.ts := aT.mono fun _ _ => tieAt_stp S15 hH
    have rin : RowsIn m.levels (m.ws.set pn (R.set ln nv)) := fun l hl => by
      rcases List.mem_or_eq_of_mem_set hl with hl | hl
      · exact ok.wr l hl
      · rw [hl]
        refine ⟨by rw [List.length_set]; exact rl, fun y hy => ?_⟩
        rcases List.mem_or_eq_of_mem_set hy with hy | hy
        · exact rx y hy
        · rw [hy]
          exact ⟨nv0.1, nv0.2.1⟩
    obtain ⟨smA, wrA⟩ := unl_ws sm wr (ws := m.ws.set pn (R.set ln nv)) (by rw [List.length_set]; exact ok.wl) rin
    have neA : eqM m ⟨m.many, m.levels, m.ws.set pn (R.set ln nv), m.ts⟩ = false := by
      unfold eqM
      have : ¬ m.ws = m.ws.set pn (R.set ln nv) := fun z => by
        have z1 := congrArg (fun l : List (List Int) => l[pn]?) z
        have z1 : m.ws[pn]? = (m.ws.set pn (R.set ln nv))[pn]? := z1
        rw [List.getElem?_set_self pw] at z1
        have hg : (m.ws[pn]?).getD [] = R := by
          rw [← hR]
          unfold gR
          rw [Int.toNat_natCast, List.getD_eq_getElem?_getD]
        have eR : R = R.set ln nv := by
          rw [z1] at hg
          exact hg.symm
        have z2 : gI R (ln : Int) = nv := by
          rw [eR]
          exact gI_get (List.getElem?_set_self lR)
        rw [hx] at z2
        exact nv0.2.2 z2.symm
      show (_ && (_ && (decide (m.ws = m.ws.set pn (R.set ln nv)) && _))) = false
      rw [decide_eq_false this, Bool.false_and, Bool.and_false, Bool.and_false]
    have finA : ∀ H', Stp p (upd H15 dF (.dK (mdK m.many m.levels b4 ta))) H' → Q (.ref dF) H' := fun H' S' => by
      refine k dF ⟨m.many, m.levels, m.ws.set pn (R.set ln nv), m.ts⟩ H' hdF (S16.trans S') ⟨b4, ta, S'.keep _ _ dFp upd_same, ⟨_, S'.sqT S16.hand (tupF h15), aN.mono fun _ _ h => rowAt_stp S' S16.hand (rowF h)⟩, tvs, S'.sqT S16.hand (tupF hT15), aT15.mono fun _ _ h => tieAt_stp S' S16.hand (tieF h)⟩ smA wrA neA
    refine ⟨_, rfl, d, _, rfl, gd_t (dF15 _), ta, _, rfl, .inr (tupF hT15), _, _, rfl, rfl, _, rfl, ite2 (fun c1 => ?_) (fun _ => ⟨_, rfl, finA _ (Stp.refl S16.hand)⟩)⟩
    have c1 := of_decide_eq_true c1
    rw [aT.1] at c1
    refine ⟨_, rfl, p, 2, rfl, by decide, by decide, S16.hand, fun e H17 _ _ S17 => ⟨rfl, _, rfl, ite2 (fun _ => ?_) (fun _ => ⟨_, rfl, finA _ S17⟩)⟩⟩
    have hd17 := S17.keep _ _ dp (dF15 _)
    have e17 := S17.keep _ _ dFp upd_same
    have hT17 := S17.sqT S16.hand (tupF (o := .dK (mdK m.many m.levels b4 ta)) hT15)
    refine ⟨_, rfl, d, _, rfl, gd_w hd17, _, rfl, d, _, rfl, gd_t hd17, 1, rfl, ?_⟩
    refine slAny hT17 fun b5 H18 s18 h18 => ?_
    rw [show (1 : Int) = ((1 : Nat) : Int) from rfl, cut_from (by rw [aT.1]; omega)] at h18
    refine ⟨by show 2 ≤ sizeLine; decide, fun q hq => ?_⟩
    refine new_step hq fun H19 s19 e19 => ?_
    have s1719 := s18.trans s19
    have e19F := s1719 _ _ e17
    have S19 : Stp p H H19 := (S16.trans S17).post s1719
    refine ⟨q, _, rfl, SqT.of e19, rfl, _, _, rfl, ⟨_, rfl, dF, _, rfl, pd_w e19F wa, _, _, rfl, ⟨_, rfl, dF, _, rfl, pd_t upd_same b5, rfl, ?_⟩⟩⟩
    rw [upd_upd]
    have S20 : Stp p H (upd H19 dF (.dK (mdK m.many m.levels wa b5))) := S19.mut hH hdF
    have tupG : ∀ {o : HO} {a : Addr} {ys : List V}, SqT K H19 a ys → SqT K (upd H19 dF o) a ys := fun {o a ys} h => by
      rcases h with (z | ⟨q, z⟩) | z
      · exact .inl (.inl (by rw [upd_ne (ne_of z e19F (by intro y; cases y))]; exact z))
      · exact .inl (.inr ⟨q, by rw [upd_ne (ne_of z e19F (by intro y; cases y))]; exact z⟩)
      · exact .inr z
    obtain ⟨smB, wrB⟩ := unl_ts sm wr
    have neB : eqM m ⟨m.many, m.levels, m.ws, m.ts.drop 1⟩ = false := by
      unfold eqM
      have : ¬ m.ts = m.ts.drop 1 := fun z => by
        have := congrArg List.length z
        rw [List.length_drop] at this
        omega
      show (_ && (_ && (_ && decide (m.ts = m.ts.drop 1)))) = false
      rw [decide_eq_false this, Bool.and_false, Bool.and_false, Bool.and_false]
    exact ⟨_, rfl, k dF ⟨m.many, m.levels, m.ws, m.ts.drop 1⟩ _ hdF S20 ⟨wa, b5, upd_same, ⟨wvs, S20.sqT hH hW, aW.mono fun _ _ => rowAt_stp S20 hH⟩, tvs.drop 1, tupG (s19.sqT h18), AllIn.drop 1 (aT.mono fun _ _ => tieAt_stp S20 hH)⟩ smB wrB neB⟩
end
end Law

namespace Law
open PySem L2
def listD (l : List (List Int)) : PyData := .list (l.map tupD)
theorem lay_listD (l : List (List Int)) : (listD l).canLay0 = true ∧ (listD l).depth ≤ 2 := by
  have h := lay_all tupD 1 lay_tupD l
  unfold listD
  rw [PyData.canLay0, PyData.depth]
  exact ⟨h.1, by omega⟩
theorem dp_list {K : PySem.W.Frag} {H : Hp} {a : Addr} {ws : List V} {l : List (List Int)} (h : H a = some (.lst ws)) (g : AllIn (RowAt K H) ws l) : Dp K H (.ref a) (listD l) := .lst (SqL.of h) (dp_all (g := tupD) (fun _ _ => dp_row) g)
def fourD (m : Mdl) : PyData := .tuple [.int m.many, .int m.levels, tabD m.ws, tiesD m.ts]
theorem lay_fourD (m : Mdl) : (fourD m).canLay0 = true ∧ (fourD m).depth ≤ 5 := by
  have h1 := lay_tabD m.ws
  have h2 := lay_tiesD m.ts
  unfold fourD
  rw [PyData.canLay0, PyData.canLayAll0, PyData.canLayAll0, PyData.canLayAll0, PyData.canLayAll0, PyData.canLayAll0, PyData.depth, PyData.depthAll, PyData.depthAll, PyData.depthAll, PyData.depthAll, PyData.depthAll, h1.1, h2.1, (lay_int m.many).1, (lay_int m.levels).1]
  have h3 := (lay_int m.many).2
  have h4 := (lay_int m.levels).2
  exact ⟨rfl, by omega⟩
theorem dp_four {K : PySem.W.Frag} {H : Hp} {A w t : Addr} {m : Mdl} (h : SqT K H A [.int m.many, .int m.levels, .ref w, .ref t]) (hw : RowsAt K H w m.ws) (ht : TiesAt K H t m.ts) : Dp K H (.ref A) (fourD m) := .tup h (.cons (.int _) (.cons (.int _) (.cons (dp_rows hw) (.cons (dp_ties ht) .nil))))
theorem tiesAt_stp {K : PySem.W.Frag} {p : Addr} {H H' : Hp} {a : Addr} {ts : List Tie} (S : Stp p H H') (hh : HandAt H p) (h : TiesAt K H a ts) : TiesAt K H' a ts := by
  obtain ⟨vs, h1, h2⟩ := h
  exact ⟨vs, S.sqT hh h1, h2.mono fun _ _ => tieAt_stp S hh⟩
theorem mod_stp {K : PySem.W.Frag} {C p q : Addr} {H H' : Hp} {m : Mdl} (S : Stp p H H') (hh : HandAt H p) (n : q ≠ p) (h : ModAt K C H q m) : ModAt K C H' q m := by
  obtain ⟨dx, w, t, h1, h2, h3⟩ := h
  exact ⟨dx, w, t, S.keep _ _ n h1, rowsAt_stp S hh h2, tiesAt_stp S hh h3⟩
theorem mod_updL {K : PySem.W.Frag} {C q D : Addr} {H : Hp} {m : Mdl} {acc : List V} {o : HO} (hD : H D = some (.lst acc)) (h : ModAt K C H q m) : ModAt K C (upd H D o) q m := by
  obtain ⟨dx, w, t, h1, h2, vs, h3, h4⟩ := h
  exact ⟨dx, w, t, by rw [upd_ne (ne_of h1 hD (by intro z; cases z))]; exact h1, h2.upd hD, vs, sqT_updL hD h3, h4.mono fun _ _ h => h.upd hD⟩
theorem eqM_self (m : Mdl) : eqM m m = true := by
  unfold eqM
  rw [decide_eq_true rfl, decide_eq_true rfl, decide_eq_true rfl, decide_eq_true rfl] <;> rfl
theorem pics_ok {m : Mdl} (ok : MOk m) {f : List Int} (h : f ∈ picsL (upI m.levels) m.many.toNat) : PicOk m f := by
  have := ok.m1
  have := ok.l1
  rw [pics_all] at h
  obtain ⟨sf, ef, el, hv⟩ := allX_mem h
  rw [ef, List.nil_append]
  refine ⟨by omega, fun x hx => ?_⟩
  obtain ⟨n, hn, rfl⟩ := List.mem_map.mp (hv x hx)
  have := List.mem_range.mp hn
  exact ⟨by omega, by omega⟩
/-- how few pictures there are -/
theorem few_pics {lv many n : Int} (h : (lv = 1 ∧ n = 6) ∨ (lv = 2 ∧ n = 5) ∨ (lv = 3 ∧ n = 4) ∨ (lv = 4 ∧ n = 3)) (m1 : 1 ≤ many) (mn : many ≤ n) : lv.toNat ^ many.toNat ≤ 1000 ∧ 0 < lv.toNat ^ many.toNat := by
  have go : ∀ (l k N : Nat), 0 < l → l ^ N ≤ 1000 → k ≤ N → l ^ k ≤ 1000 ∧ 0 < l ^ k := fun l k N hl h hk => ⟨Nat.le_trans (Nat.pow_le_pow_right hl hk) h, Nat.pow_pos hl⟩
  rcases h with ⟨rfl, rfl⟩ | ⟨rfl, rfl⟩ | ⟨rfl, rfl⟩ | ⟨rfl, rfl⟩
  · exact go 1 _ 6 (by decide) (by decide) (by omega)
  · exact go 2 _ 5 (by decide) (by decide) (by omega)
  · exact go 3 _ 4 (by decide) (by decide) (by omega)
  · exact go 4 _ 3 (by decide) (by decide) (by omega)
theorem sizes_at {d : Int} (d0 : 0 ≤ d) (d4 : d < 4) : ∃ n : Int, atI ([.int 6, .int 5, .int 4, .int 3] : List V) (1 + d - 1) = some (.int n) ∧ ((1 + d = 1 ∧ n = 6) ∨ (1 + d = 2 ∧ n = 5) ∨ (1 + d = 3 ∧ n = 4) ∨ (1 + d = 4 ∧ n = 3)) ∧ 3 ≤ n ∧ n ≤ 6 := by
  have : d = 0 ∨ d = 1 ∨ d = 2 ∨ d = 3 := by omega
  rcases this with rfl | rfl | rfl | rfl
  · exact ⟨6, rfl, .inl ⟨rfl, rfl⟩, by decide, by decide⟩
  · exact ⟨5, rfl, .inr (.inl ⟨rfl, rfl⟩), by decide, by decide⟩
  · exact ⟨4, rfl, .inr (.inr (.inl ⟨rfl, rfl⟩)), by decide, by decide⟩
  · exact ⟨3, rfl, .inr (.inr (.inr ⟨rfl, rfl⟩)), by decide, by decide⟩
section
variable {P : Program} {w : World} {K : PySem.W.Frag} {mg : Str → Option Value} {base : Heap}
def spSmall (K : PySem.W.Frag) : Sp := fun vs H Q _ => ∃ p : Addr, vs = [.ref p] ∧ HandAt H p ∧ ∀ H', Stp p H H' → Q (.bl true) H'
abbrev nLawIsSmallRight : List Str := ["_law_hand_here", "_law_levels", "_law_model_here", "_law_made_here", "_law_other", "_law_pictures_here", "_law_turn", "_law_picture", "_law_told_here", "_law_due"]
theorem scLawIsSmallRight : FnScope nLawIsSmallRight ["_law_hand_here"] (defScope s_law_is_small_right) := ⟨rfl, rfl, rfl, by decide +kernel, rfl, by decide +kernel, by decide +kernel⟩
theorem ok_is_small_right {f : Addr} {fd : FuncData} {fD : Addr} {fdD : FuncData} {fcModel : Addr} {fdcModel : FuncData} {fcMade : Addr} {fdcMade : FuncData} {fcUnl : Addr} {fdcUnl : FuncData} {fcPics : Addr} {fdcPics : FuncData} {fA : Addr} {fdA : FuncData} {fcWt : Addr} {fdcWt : FuncData} {fcLWt : Addr} {fdcLWt : FuncData} {fcLFit : Addr} {fdcLFit : FuncData} {fcFit0 : Addr} {fdcFit0 : FuncData} {C fE : Addr} {fdE : FuncData} (F : Fun K "_law_is_small_right" "_law_is_small_right" s_law_is_small_right f fd) (T : NmA mg) (D : Cl P w K mg base CX0 1 "_law_draw" fD fdD ["_law_hand_here", "_law_many"] spDraw) (cModel : Cl P w K mg base CX0 4 "_law_model" fcModel fdcModel ["_law_hand_here", "_law_many", "_law_levels"] (spModel K)) (cMade : Cl P w K mg base CX0 8 "_law_made" fcMade fdcMade ["_law_model_here"] (spMade K C)) (cUnl : Cl P w K mg base CX0 2 "_law_unlike" fcUnl fdcUnl ["_law_hand_here", "_law_model_here"] (spUnl K)) (cPics : Cl P w K mg base CX0 1 "_law_pictures" fcPics fdcPics ["_law_many", "_law_levels"] (spPics K)) (A : Cl P w K mg base CX0 2 "_law_any" fA fdA ["_law_hand_here", "_law_things"] (spAny K)) (cWt : Cl P w K mg base CX0 5 "weight" fcWt fdcWt ["model", "picture"] (spWeight K C)) (cLWt : Cl P w K mg base CX0 1 "_law_weight" fcLWt fdcLWt ["_law_model_here", "_law_picture"] (spLWt K)) (cLFit : Cl P w K mg base CX0 2 "_law_fitting" fcLFit fdcLFit ["_law_model_here"] (spLFit K)) (cFit0 : Cl P w K mg base CX0 16 "fitting" fcFit0 fdcFit0 ["model"] (spFit0 K C)) (S : ModT K mg C) (GE : FnOk P w K mg base CX0 1 fE fdE ["self", "other"] (spMEqX K C)) (BE : Binds K fdE ["self", "other"] []) (hsE : PySem.W.findIn K (.ref C) "__eq__" = some (some (.ref fE))) (hfE : PySem.W.isFn K (.ref fE) = true) (hnE : PySem.W.findIn K (.ref C) "__ne__" = some (some (.builtin "object.__ne__"))) (nfT : PySem.W.notFirst K C (.type "tuple") = true) (nfD : PySem.W.notFirst K C (.type "dict") = true) : FnOk P w K mg base CX0 17 f fd ["_law_hand_here"] (spSmall K) := by
  refine F.ok scLawIsSmallRight (fun vs H Q E h => ?_) (fun cdv A' outer s H vs Q E hr h => ?_)
  · obtain ⟨p, rfl, _⟩ := h
    rfl
  · obtain ⟨p, rfl, hH, k⟩ := h
    have hu := hu_of hr
    refine ⟨_, pss_cons (ps_set (i := 1) scLawIsSmallRight.nd rfl (Or.inl rfl) (pe_op op_add pe_int (D.call (hr.mono (by decide)) (pa_cons (pv 0) (pa_cons pe_int pa_nil)))))
      (pss_cons (ps_set (i := 2) scLawIsSmallRight.nd rfl (Or.inl rfl) (cModel.call (hr.mono (by decide)) (pa_cons (pv 0) (pa_cons (pe_op op_add pe_int (D.call (hr.mono (by decide)) (pa_cons (pv 0) (pa_cons (pe_ix ix_list (pe_lst (pa_cons pe_int (pa_cons pe_int (pa_cons pe_int (pa_cons pe_int pa_nil))))) (pe_op op_sub (pv 1) pe_int) (fun _ _ => rfl)) pa_nil)))) (pa_cons (pv 1) pa_nil)))))
      (pss_cons (ps_par (i := 3) (j := 4) (by rfl) scLawIsSmallRight.nd rfl rfl (by decide) rfl rfl (pa_cons (cMade.call (hr.mono (by decide)) (pa_cons (pv 2) pa_nil)) (pa_cons (cUnl.call (hr.mono (by decide)) (pa_cons (pv 0) (pa_cons (pv 2) pa_nil))) pa_nil)) (by rfl))
      (pss_cons (ps_if (pt_cmpR (op_neD hr.units) (pe_tup (pa_cons (pe_fld (pv 3) rfl) (pa_cons (pe_fld (pv 3) rfl) (pa_cons (pe_fld (pv 3) rfl) (pa_cons (pe_fld (pv 3) rfl) pa_nil))))) (pe_tup (pa_cons (pe_dget hu (pv 2) pe_str (fun _ _ => rfl)) (pa_cons (pv 1) (pa_cons (pe_dget hu (pv 2) pe_str (fun _ _ => rfl)) (pa_cons (pe_dget hu (pv 2) pe_str (fun _ _ => rfl)) pa_nil))))) (nomark _))
        (pss_one (ps_ret pe_bl)) pss_nil)
      (pss_cons (ps_if (PW.pt (pw_or (pt_cmpR (op_ownN GE hsE hfE BE hnE S.hm (hr.mono (by decide)) bl_MEX) (pv 3) (cMade.call (hr.mono (by decide)) (pa_cons (pv 2) pa_nil)) (nomark _)) (pw_or (pt_cmpR (op_ownX GE hsE hfE BE nfT nfD (hr.mono (by decide)) bl_MEX) (pv 3) (cMade.call (hr.mono (by decide)) (pa_cons (pv 4) pa_nil)) (nomark _)) (pw_or (pt_cmpR (op_ownX GE hsE hfE BE nfT nfD (hr.mono (by decide)) bl_MEX) (pv 3) (pv 2) (nomark _)) (pw_or1 (pt_cmpR (op_ownX GE hsE hfE BE nfT nfD (hr.mono (by decide)) bl_MEX) (pv 3) (pe_tup (pa_cons (pe_fld (pv 3) rfl) (pa_cons (pv 1) (pa_cons (pe_fld (pv 3) rfl) (pa_cons (pe_fld (pv 3) rfl) pa_nil))))) (nomark _)))))))
        (pss_one (ps_ret pe_bl)) pss_nil)
      (pss_cons (ps_set (i := 5) scLawIsSmallRight.nd rfl (Or.inl rfl) (cPics.call (hr.mono (by decide)) (pa_cons (pe_dget hu (pv 2) pe_str (fun _ _ => rfl)) (pa_cons (pv 1) pa_nil))))
      (pss_cons (ps_for PassesOwn.never rfl (pi_range1 (by rfl) T.range (pa_cons pe_int pa_nil)) (pg_name (i := 6) scLawIsSmallRight.nd rfl (Or.inl rfl))
        (pss_cons (ps_set (i := 7) scLawIsSmallRight.nd rfl (Or.inl rfl) (A.call (hr.mono (by decide)) (pa_cons (pv 0) (pa_cons (pv 5) pa_nil))))
        (pss_cons (ps_set (i := 8) scLawIsSmallRight.nd rfl (Or.inl rfl) (cWt.call (hr.mono (by decide)) (pa_cons (pv 3) (pa_cons (pv 7) pa_nil))))
        (pss_one (ps_if (PW.pt (pw_or (pt_val (pe_callB call_isi (by rfl) T.isi (by decide +kernel) (pa_cons (pv 8) (pa_cons (pe_bltn (v := .ty "bool") (u := .type "bool") (by rfl) T.bool (by decide +kernel) rfl) pa_nil)))) (pw_or1 (pt_cmpR op_ne (pv 8) (cLWt.call (hr.mono (by decide)) (pa_cons (pv 2) (pa_cons (pv 7) pa_nil))) (nomark _)))))
          (pss_one (ps_ret pe_bl)) pss_nil)))))
      (pss_cons (ps_set (i := 9) scLawIsSmallRight.nd rfl (Or.inl rfl) (cLFit.call (hr.mono (by decide)) (pa_cons (pv 2) pa_nil)))
      (pss_cons (ps_set (i := 8) scLawIsSmallRight.nd rfl (Or.inl rfl) (cFit0.call (hr.mono (by decide)) (pa_cons (pv 3) pa_nil)))
      (pss_cons (ps_if (PW.pt (pw_or (pt_not (pt_val (pe_callB call_isi (by rfl) T.isi (by decide +kernel) (pa_cons (pv 8) (pa_cons (pe_bltn (v := .ty "list") (u := .type "list") (by rfl) T.list (by decide +kernel) rfl) pa_nil))))) (pw_or1 (pt_cmpR (op_neD hr.units) (pv 8) (pv 9) (nomark _)))))
        (pss_one (ps_ret pe_bl)) pss_nil)
      (pss_cons (ps_expr (pe_bm PySem.F.plainAttrs_list PySem.F.slot_list_append PySem.F.type_list_append mt_append (pv 8) (pa_cons pe_non pa_nil)))
      (pss_one (ps_ret (pe_cmpR (op_eqD hr.units) (cFit0.call (hr.mono (by decide)) (pa_cons (pv 3) pa_nil)) (pv 9) (nomark _)))))))))))))), ?_⟩
    refine ⟨_, rfl, p, 4, rfl, by decide, by decide, hH, fun d H1 d0 d1 S1 => ⟨_, _, rfl, rfl, ?_⟩⟩
    obtain ⟨n, n1, n2, n3, n6⟩ := sizes_at d0 d1
    refine ⟨_, rfl, _, rfl, by show 4 ≤ sizeLine; decide, fun L0 hL0 => ?_⟩
    refine new_step hL0 fun H2 s2 e2 => ?_
    refine ⟨_, rfl, _, _, rfl, rfl, L0, _, _, _, rfl, rfl, SqL.of e2, n1, p, n, rfl, by omega, by omega, S1.hand.same s2, fun e H3 e0 e1 S3 => ⟨_, _, rfl, rfl, _, rfl, p, 1 + e, 1 + d, rfl, S3.hand, ⟨by omega, by omega⟩, ⟨by omega, by omega⟩, fun dm m H4 hdm S4 hM sm wr em el => ?_⟩⟩
    obtain ⟨few, few0⟩ := few_pics n2 (show 1 ≤ 1 + e by omega) (show 1 + e ≤ n by omega)
    rw [← em, ← el] at few few0
    have ok := MOk.of sm wr
    have m1 := ok.m1
    have m12 := ok.m12
    have l1 := ok.l1
    have l4 := ok.l4
    have S04 : Stp p H H4 := ((S1.post s2).trans S3).trans S4
    have dmp : dm ≠ p := ne_hand S3.hand hdm
    refine ⟨_, rfl, dm, m, rfl, hM, sm, wr, fun y H5 hy s5 hY => ?_⟩
    have S05 := S04.post s5
    have yp : y ≠ p := ne_hand S04.hand hy
    have hM5 := hM.same s5
    refine ⟨_, rfl, _, rfl, p, dm, m, rfl, S05.hand, dmp, hM5, sm, wr, fun eo m' H6 heo S6 hO smO wrO ne => ⟨_, _, rfl, ?_⟩⟩
    have hM6 := dicAt_stp S6 S05.hand dmp hM5
    have hY6 := mod_stp S6 S05.hand yp hY
    have S06 := S05.trans S6
    have eop : eo ≠ p := ne_hand S05.hand heo
    obtain ⟨wa, ta, hd1, hd2, hd3⟩ := id hM6
    obtain ⟨dx, wq, tq, hq1, hq2, hq3⟩ := id hY6
    refine ⟨_, rfl, y, C, dx, _, _, rfl, hq1, S.cl, S.nK, modF_many _ _ _ _, _, rfl, y, C, dx, _, _, rfl, hq1, S.cl, S.nL, modF_levels _ _ _ _, _, rfl, y, C, dx, _, _, rfl, hq1, S.cl, S.nW, modF_weights _ _ _ _, _, rfl, y, C, dx, _, _, rfl, hq1, S.cl, S.nT, modF_ties _ _ _ _, by show 4 ≤ sizeLine; decide, fun A1 hA1 => ?_⟩
    refine new_step hA1 fun H7 s7 e7 => ?_
    have hd17 := s7 _ _ hd1
    refine ⟨_, rfl, dm, _, rfl, gd_m hd17, _, rfl, _, rfl, dm, _, rfl, gd_w hd17, _, rfl, dm, _, rfl, gd_t hd17, by show 4 ≤ sizeLine; decide, fun A2 hA2 => ?_⟩
    refine new_step hA2 fun H8 s8 e8 => ?_
    have s68 := s7.trans s8
    have e8 : H8 A2 = some (.tup [.int m.many, .int m.levels, .ref wa, .ref ta]) := by rw [el]; exact e8
    refine ⟨fourD m, fourD m, dp_four (SqT.of (s8 _ _ e7)) (hq2.same s68) (hq3.same s68), dp_four (SqT.of e8) (hd2.same s68) (hd3.same s68), shaped_of (lay_fourD m) (by decide), shaped_of (lay_fourD m) (by decide), _, rfl, ?_⟩
    rw [SeqAt.eqv_refl _ (lay_fourD m).1]
    refine iteF ?_
    -- the four questions
    have hY8 := hY6.same s68
    have hM8 := hM6.same s68
    have hO8 := hO.same s68
    refine ⟨_, rfl, _, rfl, dm, m, rfl, hM8, sm, wr, fun y2 H9 hy2 s9 hY2 => ?_⟩
    have hY9 := hY8.same s9
    obtain ⟨dx9, wq9, tq9, hq19, hq29, hq39⟩ := id hY9
    obtain ⟨dx2, wq2, tq2, hq12, _⟩ := id hY2
    refine ⟨y, y2, dx9, _, dx2, _, rfl, rfl, hq19, hq12, y, y2, m, rfl, hY9, .inl ⟨m, hY2, ⟨_, rfl, _, rfl, ?_⟩⟩⟩
    rw [eqM_self]
    refine iteF ?_
    refine ⟨_, rfl, _, rfl, eo, m', rfl, hO8.same s9, smO, wrO, fun y3 H10 hy3 s10 hY3 => ?_⟩
    have hY10 := hY9.same s10
    obtain ⟨dx3, wq3, tq3, hq13, _⟩ := id hY3
    refine ⟨y, y3, dx9, _, rfl, rfl, s10 _ _ hq19, .inl ⟨dx3, _, hq13⟩, y, y3, m, rfl, hY10, .inl ⟨m', hY3, _, rfl, ?_⟩⟩
    rw [ne]
    refine iteF ?_
    have hM10 := (hM8.same s9).same s10
    obtain ⟨wa10, ta10, hd110, hd210, hd310⟩ := id hM10
    have hq110 := s10 _ _ hq19
    refine ⟨_, rfl, _, rfl, y, dm, dx9, _, rfl, rfl, hq110, .inr (.inr ⟨_, hd110⟩), y, dm, m, rfl, hY10, .inr ⟨.inr ⟨_, hd110⟩, _, rfl, ?_⟩⟩
    refine iteF ?_
    refine ⟨_, rfl, _, rfl, y, C, dx9, _, _, rfl, hq110, S.cl, S.nK, modF_many _ _ _ _, _, rfl, _, rfl, y, C, dx9, _, _, rfl, hq110, S.cl, S.nW, modF_weights _ _ _ _, _, rfl, y, C, dx9, _, _, rfl, hq110, S.cl, S.nT, modF_ties _ _ _ _, by show 4 ≤ sizeLine; decide, fun A3 hA3 => ?_⟩
    refine new_step hA3 fun H11 s11 e11 => ?_
    have hY11 := hY10.same s11
    refine ⟨y, A3, dx9, _, rfl, rfl, s11 _ _ hq110, .inr (.inl ⟨_, SqT.of e11⟩), y, A3, m, rfl, hY11, .inr ⟨.inl ⟨_, SqT.of e11⟩, _, rfl, ?_⟩⟩
    refine iteF ?_
    have s811 := (s9.trans s10).trans s11
    have S011 : Stp p H H11 := S06.post (s68.trans s811)
    have hM11 := hM8.same s811
    obtain ⟨wa11, ta11, hd111, hd211, hd311⟩ := id hM11
    -- the pictures
    refine ⟨_, rfl, dm, _, rfl, gd_m hd111, _, rfl, m.many, 1 + d, rfl, by omega, m12, by omega, by omega, by rw [← el]; exact few, fun PL pws H12 hPL s12 ePL aP => ?_⟩
    rw [← el] at aP
    have plen : pws.length = m.levels.toNat ^ m.many.toNat := by rw [aP.1, pics_len, up_len]
    have S012 := S011.post s12
    have PLp : PL ≠ p := ne_hand S011.hand hPL
    have hM12 := hM11.same s12
    have hY12 := hY11.same s12
    refine ⟨_, rfl, by decide, by decide, ?_⟩
    refine for_range (lo := 0) (n := 8) (fun i σ H' => Stp p H12 H' ∧ ∃ u1 u2 u3 : Option V, σ = [some (.ref p), some (.int (1 + d)), some (.ref dm), some (.ref y), some (.ref eo), some (.ref PL), u1, u2, u3, none]) ⟨Stp.refl S012.hand, _, _, _, rfl⟩ ?_ ?_
    · rintro i σ H13 hi ⟨S13, u1, u2, u3, rfl⟩
      have ePL13 := S13.keep _ _ PLp ePL
      have aP13 : AllIn (RowAt K H13) pws _ := aP.mono fun _ _ => rowAt_stp S13 S012.hand
      have hM13 := dicAt_stp S13 S012.hand dmp hM12
      have hY13 := mod_stp S13 S012.hand yp hY12
      refine ⟨_, rfl, _, rfl, p, PL, pws, rfl, .inl (SqL.of ePL13), by omega, by omega, S13.hand, fun j x H14 hx S14 => ?_⟩
      obtain ⟨f, hf, b, rfl, hb⟩ := aP13.2 j x hx
      have pf := pics_ok ok (List.mem_of_getElem? hf)
      have hM14 := dicAt_stp S14 S13.hand dmp hM13
      have hY14 := mod_stp S14 S13.hand yp hY13
      have hb14 := S14.sqT S13.hand hb
      refine ⟨_, rfl, _, rfl, y, b, m, f, rfl, hY14, ok, hb14, pf, fun H15 s15 => ?_⟩
      refine ⟨_, rfl, _, _, _, _, _, rfl, .ty "bool", .base (.int _), (show PySem.W.kitOne K (.type "int") (.type "bool") = some false from kit_ty (by decide +kernel)), _, rfl, iteF ?_⟩
      refine ⟨_, rfl, _, rfl, _, rfl, dm, b, m, f, rfl, hM14.same s15, ok, s15.sqT hb14, pf, fun H16 s16 => ⟨rfl, _, rfl, ?_⟩⟩
      rw [decide_eq_true rfl]
      exact iteF ⟨((S13.trans S14).post s15).post s16, _, _, _, rfl⟩
    · rintro σ H13 ⟨S13, u1, u2, u3, rfl⟩
      have hM13 := dicAt_stp S13 S012.hand dmp hM12
      have hY13 := mod_stp S13 S012.hand yp hY12
      have S013 := S012.trans S13
      have el1 : (ext m m.many.toNat []).length ≤ 1000 := by
        rw [ext_fits ok]
        refine Nat.le_trans (List.length_filter_le _ _) ?_
        rw [pics_len, vals_up, up_len]
        exact few
      refine ⟨_, rfl, dm, m, rfl, hM13, ok, few, fun D1 ws1 H14 hD1 s14 e14 a14 => ?_⟩
      refine ⟨_, rfl, y, m, rfl, hY13.same s14, ok, el1, fun D2 ws2 H15 hD2 s15 e15 a15 => ?_⟩
      have e115 := s15 _ _ e14
      have a115 := a14.mono fun _ _ h => RowAt.same s15 h
      have S015 := (S013.post s14).post s15
      refine ⟨_, rfl, _, _, _, _, _, rfl, .ty "list", .base (.lst e15), (show PySem.W.kitOne K (.type "list") (.type "list") = some true from kit_ty (by decide +kernel)), _, rfl, iteF ?_⟩
      refine ⟨_, rfl, _, rfl, listD _, listD _, dp_list e15 a15, dp_list e115 a115, shaped_of (lay_listD _) (by decide), shaped_of (lay_listD _) (by decide), _, rfl, ?_⟩
      rw [SeqAt.eqv_refl _ (lay_listD _).1]
      refine iteF ?_
      refine ⟨_, rfl, .inl ⟨rfl, _, SqL.of e15⟩, D2, ws2, _, rfl, rfl, e15, by rw [a15.1]; exact small1000 el1, ?_⟩
      have D12 : D1 ≠ D2 := ne_of_none e14 hD2
      have D20 : H D2 = none := (S013.post s14).free hD2
      have e116 : upd H15 D2 (.lst (ws2 ++ [.non])) D1 = some (.lst ws1) := by rw [upd_ne D12]; exact e115
      have a116 : AllIn (RowAt K (upd H15 D2 (.lst (ws2 ++ [.non])))) ws1 (ext m m.many.toNat []) := a115.mono fun _ _ h => h.upd e15
      refine ⟨_, rfl, y, m, rfl, mod_updL e15 ((hY13.same s14).same s15), ok, el1, fun D3 ws3 H17 hD3 s17 e17 a17 => ⟨_, rfl, listD _, listD _, dp_list e17 a17, dp_list (s17 _ _ e116) (a116.mono fun _ _ h => RowAt.same s17 h), shaped_of (lay_listD _) (by decide), shaped_of (lay_listD _) (by decide), ?_⟩⟩
      rw [SeqAt.eqv_refl _ (lay_listD _).1]
      exact k H17 ((S015.mut hH D20).post s17)
end
end Law

namespace L2
open PySem PySem.Spec PyProof.Rows
/-! ### the great models by hand -/
def w0 (g : Nat) : List (List Int) := (List.range 10).map fun i => if i < g then [1, 0] else [1, 1]
def w1 (d : Nat) : List (List Int) := [[1, 1, 1, 1], [1, 1, 1, 1], [1, 1, 1, 1], [1, 1, 1, 1], [1, 1, 1, 0]] ++ List.replicate d [1, 1, 0, 0]
def twA : List (List Int) := [[1, 2, 1, 1], [0, 3, 1, 1], [0, 0, 1, 1], [0, 0, 0, 1]]
def twB : List (List Int) := [[1, 2, 1, 1], [0, 3, 1, 1], [0, 0, 1, 1], [0, 0, 1, 1]]
def w2 : List (List Int) := List.replicate 6 [1, 1, 1, 1]
def m0 (g : Nat) : Mdl := ⟨10, 2, w0 g, []⟩
def m1 (d : Nat) : Mdl := ⟨5 + (d : Nat), 4, w1 d, []⟩
def m2 (t : List (List Int)) : Mdl := ⟨6, 4, w2, [((0, 1), twA), ((2, 3), twA), ((4, 5), t)]⟩
theorem c00 : (ext (m0 0) 10 []).length = 1024 := by decide +kernel
theorem c01 : (ext (m0 1) 10 []).length = 512 := by decide +kernel
theorem c02 : (ext (m0 2) 10 []).length = 256 := by decide +kernel
theorem c10 : (ext (m1 0) 5 []).length = 768 := by decide +kernel
theorem c11 : (ext (m1 1) 6 []).length = 1536 := by decide +kernel
theorem c20 : (ext (m2 twA) 6 []).length = 1000 := by decide +kernel
theorem c21 : (ext (m2 twB) 6 []).length = 1100 := by decide +kernel
def mdlB (m : Mdl) : Bool := decide (0 ≤ m.many) && (decide (m.many ≤ 12) && (decide (0 ≤ m.levels) && (decide (m.levels ≤ 4) && (decide (m.ws.length ≤ 12) && ((m.ws.all fun l => decide (l.length ≤ 4) && (!l.isEmpty && l.all fun x => decide (0 ≤ x) && decide (x ≤ 1000))) && (decide (m.ts.length ≤ 144) &&
  m.ts.all fun t => decide (0 ≤ t.1.1) && (decide (t.1.1 < 12) && (decide (0 ≤ t.1.2) && (decide (t.1.2 < 12) && (decide (t.2.length ≤ 4) && (!t.2.isEmpty && t.2.all fun l => decide (l.length ≤ 4) && (!l.isEmpty && l.all fun x => decide (0 ≤ x) && decide (x ≤ 1000)))))))))))))
theorem sm_of {m : Mdl} (h : mdlB m = true) : MdlSm m := by
  unfold mdlB at h
  simp only [Bool.and_eq_true, decide_eq_true_eq, List.all_eq_true, Bool.not_eq_true', List.isEmpty_eq_false_iff] at h
  obtain ⟨a, b, c, d, e, f, g, i⟩ := h
  exact ⟨a, b, c, d, e, f, g, fun t ht => by
    obtain ⟨h1, h2, h3, h4, h5, h6, h7⟩ := i t ht
    exact ⟨⟨h1, h2⟩, ⟨h3, h4⟩, h5, h6, h7⟩⟩
theorem s00m : mdlB (m0 0) = true ∧ wrongM (m0 0) = none := by decide +kernel
theorem s01m : mdlB (m0 1) = true ∧ wrongM (m0 1) = none := by decide +kernel
theorem s02m : mdlB (m0 2) = true ∧ wrongM (m0 2) = none := by decide +kernel
theorem s10m : mdlB (m1 0) = true ∧ wrongM (m1 0) = none := by decide +kernel
theorem s11m : mdlB (m1 1) = true ∧ wrongM (m1 1) = none := by decide +kernel
theorem s20m : mdlB (m2 twA) = true ∧ wrongM (m2 twA) = none := by decide +kernel
theorem s21m : mdlB (m2 twB) = true ∧ wrongM (m2 twB) = none := by decide +kernel
/-- tables that let one and the same level alone -/
structure Diag (m : Mdl) (T : List (List Int)) (g : Int) : Prop where
  many : m.many = 12
  wp : ∀ j, j < 11 → ∀ v ∈ valsM m, 0 < wv m j v
  wl : ∀ v ∈ valsM m, (0 < wv m 11 v ↔ v ≠ g)
  ts : m.ts = (List.range 11).map fun i : Nat => ((((i : Int), (i : Int) + 1), T) : Tie)
  tt : ∀ a ∈ valsM m, ∀ b ∈ valsM m, (gI (gR T a) b = 0 ↔ b ≠ a)
theorem fm_one {L : List Int} {f : Int → List (List Int)} {v : Int} : L.Nodup → v ∈ L → (∀ u ∈ L, u ≠ v → f u = []) → L.flatMap f = f v := by
  induction L with
  | nil => intro _ h _; cases h
  | cons x L ih =>
    intro nd hv h
    rw [List.flatMap_cons]
    rw [List.nodup_cons] at nd
    rcases List.mem_cons.mp hv with e | hv
    · subst e
      rw [List.flatMap_eq_nil_iff.mpr fun u hu => h u (List.mem_cons_of_mem _ hu) fun z => nd.1 (z ▸ hu), List.append_nil]
    · rw [h x List.mem_cons_self (fun z => nd.1 (z ▸ hv)), List.nil_append]
      exact ih nd.2 hv fun u hu => h u (List.mem_cons_of_mem _ hu)
theorem vals_nd (m : Mdl) : (valsM m).Nodup := (vals_asc m).imp fun h z => by omega
theorem gI_rep (k : Nat) (v : Int) {i : Nat} (h : i < k) : gI (List.replicate k v) (i : Nat) = v := by
  unfold gI
  rw [Int.toNat_natCast, List.getD_eq_getElem?_getD, List.getElem?_replicate, if_pos h] <;> rfl
theorem diag_goes {m : Mdl} {T : List (List Int)} {g : Int} (D : Diag m T g) {k : Nat} (hk : k < 11) {v u : Int} (hv : v ∈ valsM m) (hu : u ∈ valsM m) : goesB m (List.replicate (k + 1) v) u = (decide (0 < wv m (k + 1) u) && decide (u = v)) := by
  unfold goesB
  rw [List.length_replicate]
  congr 1
  rw [Bool.eq_iff_iff, List.all_eq_true, decide_eq_true_eq, D.ts]
  constructor
  · intro h
    have z := h (((k : Int), (k : Int) + 1), T) (List.mem_map.mpr ⟨k, List.mem_range.mpr hk, rfl⟩)
    unfold goesT tv at z
    rw [List.length_replicate] at z
    have z : (!decide ((k : Int) + 1 = ((k + 1 : Nat) : Int)) || !decide (gI (gR T (gI (List.replicate (k + 1) v) (k : Nat))) u = 0)) = true := z
    rw [decide_eq_true (show (k : Int) + 1 = ((k + 1 : Nat) : Int) by omega), gI_rep _ _ (Nat.lt_succ_self k), Bool.not_true, Bool.false_or, Bool.not_eq_true', decide_eq_false_iff_not] at z
    exact Classical.byContradiction fun c => z ((D.tt v hv u hu).mpr c)
  · rintro rfl t ht
    obtain ⟨i, hi, rfl⟩ := List.mem_map.mp ht
    unfold goesT tv
    rw [List.length_replicate]
    show (!decide ((i : Int) + 1 = ((k + 1 : Nat) : Int)) || !decide (gI (gR T (gI (List.replicate (k + 1) u) (i : Nat))) u = 0)) = true
    by_cases c : i = k
    · rw [c, gI_rep _ _ (Nat.lt_succ_self k), decide_eq_false (fun z => (D.tt u hu u hu).mp z rfl), Bool.not_false, Bool.or_true]
    · rw [decide_eq_false (by omega), Bool.not_false, Bool.true_or]
theorem diag_ext {m : Mdl} {T : List (List Int)} {g : Int} (D : Diag m T g) : ∀ (n k : Nat) {v : Int}, v ∈ valsM m → k + n + 2 = 12 → ext m (n + 1) (List.replicate (k + 1) v) = if v = g then [] else [List.replicate 12 v]
  | 0, k, v, hv, e => by
    have hk : k = 10 := by omega
    subst hk
    show ((valsM m).flatMap fun u => if goesB m (List.replicate 11 v) u = true then [List.replicate 11 v ++ [u]] else []) = _
    rw [fm_one (vals_nd m) hv fun u hu ne => by rw [diag_goes D (by decide) hv hu, decide_eq_false ne, Bool.and_false, if_neg Bool.false_ne_true]]
    rw [diag_goes D (by decide) hv hv, decide_eq_true rfl, Bool.and_true]
    by_cases c : v = g
    · rw [if_pos c, if_neg (fun z => (D.wl v hv).mp (of_decide_eq_true z) c)]
    · rw [if_neg c, if_pos (decide_eq_true ((D.wl v hv).mpr c))]
      exact congrArg (fun x => [x]) (List.replicate_succ' ..).symm
  | n + 1, k, v, hv, e => by
    show ((valsM m).flatMap fun u => if goesB m (List.replicate (k + 1) v) u = true then ext m (n + 1) (List.replicate (k + 1) v ++ [u]) else []) = _
    rw [fm_one (vals_nd m) hv fun u hu ne => by rw [diag_goes D (by omega) hv hu, decide_eq_false ne, Bool.and_false, if_neg Bool.false_ne_true]]
    rw [diag_goes D (by omega) hv hv, decide_eq_true rfl, Bool.and_true, if_pos (decide_eq_true (D.wp (k + 1) (by omega) v hv)), ← List.replicate_succ']
    exact diag_ext D n (k + 1) hv (by omega)
theorem diag_all {m : Mdl} {T : List (List Int)} {g : Int} (D : Diag m T g) : ext m m.many.toNat [] = ((valsM m).filter fun v => !decide (v = g)).map fun v => List.replicate 12 v := by
  rw [D.many]
  show ((valsM m).flatMap fun u => if goesB m [] u = true then ext m 11 ([] ++ [u]) else []) = _
  have one : ∀ u ∈ valsM m, (if goesB m [] u = true then ext m 11 ([] ++ [u]) else []) = if u = g then [] else [List.replicate 12 u] := fun u hu => by
    have go : goesB m [] u = true := by
      unfold goesB
      rw [Bool.and_eq_true, List.all_eq_true]
      refine ⟨decide_eq_true (D.wp 0 (by decide) u hu), fun t ht => ?_⟩
      rw [D.ts] at ht
      obtain ⟨i, hi, rfl⟩ := List.mem_map.mp ht
      unfold goesT
      show (!decide ((i : Int) + 1 = 0) || _) = true
      rw [decide_eq_false (by omega), Bool.not_false, Bool.true_or]
    rw [if_pos go]
    exact diag_ext D 10 0 hu rfl
  generalize valsM m = L at one ⊢
  induction L with
  | nil => rfl
  | cons x L ih =>
    rw [List.flatMap_cons, one x List.mem_cons_self, ih fun u hu => one u (List.mem_cons_of_mem _ hu), List.filter_cons]
    by_cases c : x = g
    · rw [if_pos c, decide_eq_true c, Bool.not_true, if_neg Bool.false_ne_true, List.nil_append]
    · rw [if_neg c, decide_eq_false c, Bool.not_false, if_pos rfl, List.map_cons] <;> rfl
theorem AllIn.cons {α : Type} {R : V → α → Prop} {v : V} {vs : List V} {x : α} {l : List α} (hv : R v x) (h : AllIn R vs l) : AllIn R (v :: vs) (x :: l) := by
  refine ⟨by rw [List.length_cons, List.length_cons, h.1], fun i u hu => ?_⟩
  cases i with
  | zero => cases hu; exact ⟨x, rfl, hv⟩
  | succ i => exact h.2 i u hu
theorem AllIn.rep {α : Type} {R : V → α → Prop} {v : V} {x : α} (hv : R v x) : ∀ n, AllIn R (List.replicate n v) (List.replicate n x)
  | 0 => AllIn.nil
  | n + 1 => AllIn.cons hv (AllIn.rep hv n)
theorem flat_rep {α : Type} (x : α) : ∀ n : Nat, (List.replicate n [x]).flatten = List.replicate n x
  | 0 => rfl
  | n + 1 => by rw [List.replicate_succ, List.flatten_cons, flat_rep x n] <;> rfl
end L2
namespace L2
open PySem PySem.Spec PyProof.Rows
/-! ### (x,) * n for every n; t.count(k); set(t) of a tuple of ints -/
theorem tuple_mul0 (l : Addr) (items : Array Value) (n : Nat) (dd : Option Addr) (sl : Array (Option Value)) (u : Tok) (hi : items.isEmpty = false) :
    Meets (Builtin.«tuple.__mul__» ⟨[.ref l, .int 0 u], []⟩) (fun _ R s => s.heap.get? l = some { cls := .type "tuple", dict := dd, data := .seq items n, slots := sl } ∧
      R (.ok (.ret (Value.ref s.heap.objs.size))) { s with heap := s.heap.push { cls := Value.type "tuple", data := Data.seq #[] }, toks := s.toks }) :=
  .of_wp fun prog w A R s h => by
    obtain ⟨hp, g, d, tk, os⟩ := s
    obtain ⟨hl, h⟩ := h
    have f1 := AutoSeq1.idx_int
    have c1 : (items.isEmpty || (0 : Int) == 1) = false := by rw [hi] <;> rfl
    wp_walk using wpAny_loadPart' hl
    repeat (first
      | (refine wpAny_ite_false (decide_eq_false (by decide)) ?_; wp_walk using wpAny_loadPart' hl)
      | (refine wpAny_ite_false (decide_eq_false (by rw [c1]; exact Bool.false_ne_true)) ?_; wp_walk using wpAny_loadPart' hl)
      | (refine wpAny_ite_true (decide_eq_true (by simp)) ?_; wp_walk using wpAny_loadPart' hl))
    exact ⟨_, rfl, h⟩
theorem tuple_mul1 (l : Addr) (items : Array Value) (n : Nat) (dd : Option Addr) (sl : Array (Option Value)) (u : Tok) :
    Meets (Builtin.«tuple.__mul__» ⟨[.ref l, .int 1 u], []⟩) (fun _ R s => s.heap.get? l = some { cls := .type "tuple", dict := dd, data := .seq items n, slots := sl } ∧ R (.ok (.ret (Value.ref l))) s) :=
  .of_wp fun prog w A R s h => by
    obtain ⟨hp, g, d, tk, os⟩ := s
    obtain ⟨hl, h⟩ := h
    have f1 := AutoSeq1.idx_int
    have c1 : (items.isEmpty || (1 : Int) == 1) = true := by simp
    wp_walk using wpAny_loadPart' hl
    repeat (first
      | (refine wpAny_ite_false (decide_eq_false (by decide)) ?_; wp_walk using wpAny_loadPart' hl)
      | (refine wpAny_ite_true (decide_eq_true (by rw [c1])) ?_; wp_walk using wpAny_loadPart' hl, wpAny_typeOf' ⟨_, hl, rfl⟩))
    exact ⟨_, rfl, h⟩
def rCntT (K : PySem.W.Frag) : V → List V → Hp → VK → Prop := fun x xs H Q => ∃ (p : Addr) (ns : List Int) (k : Int), x = .ref p ∧ xs = [.int k] ∧ SqT K H p (ns.map V.int) ∧ Q (.int (ns.count k : Nat)) H
def rSetI (K : PySem.W.Frag) (w : World) : List V → Hp → VK → Prop := fun vs H Q => ∃ (a : Addr) (ns : List Int), vs = [V.ref a] ∧ SqT K H a (ns.map V.int) ∧ ns.length ≤ 1000 ∧
  ∀ (p : Addr) (c : Nat), H p = none → c ≤ ns.length → Q (.ref p) (upd H p (SetO w p (fun j => decide (j ∈ ns)) c))
section
variable {X : Cx}
theorem mt_tcount : MtR X "tuple.count" (rCntT X.K) := by
  intro pins s σ H x xs v us Q I rx rxs h
  obtain ⟨p, ns, k, rfl, rfl, hs, q⟩ := h
  cases rx
  obtain ⟨u, rfl, ru⟩ := rxs.one
  obtain ⟨t, rfl⟩ := ru
  obtain ⟨its, rv, ⟨⟨cls, dd, data, sl⟩, ho, hc, n, hd⟩, hlen⟩ := I.tuple hs
  simp only at hc hd
  subst hc hd
  have hi := ints_of_vals rv
  refine call_meets PySem.F.slot_tuple_count ⟨_, ho, rfl⟩ PySem.F.entry_tuple_count (PySem.F.args_tuple_count_2 _ _)
    (SeqAt.tuple_countAt p its.toArray n dd sl (.int k t) (eqk k)) ⟨ho, fun y hy => (eqk_gives hi y (by simpa using hy)).at _ _, ?_⟩
  have ec : its.toArray.toList.countP (eqk k) = ns.count k := eqk_count hi
  refine ⟨.int (ns.count k : Nat), H, I.tok _, ⟨s.toks, ?_⟩, q⟩
  show Value.int ((its.toArray.toList.countP (eqk k) : Nat) : Int) s.toks = Value.int ((ns.count k : Nat) : Int) s.toks
  rw [ec]
theorem cr_setI (hc : X.calm = true) : CallR X (.type "set") (rSetI X.K X.w) := by
  intro pins s σ H xs us Q I r h
  obtain ⟨a, ns, rfl, hq, hl, q⟩ := h
  rw [Vals.ref1 r]
  obtain ⟨its, rv, pt, hz⟩ := I.tuple hq
  have hi : IntsAre its.toArray.toList ns := ints_of_vals rv
  refine call_set_tupI ns (I.ok.hd hc) (show s.heap.IsTuple a its.toArray from pt) hi (by unfold scanBound; omega) fun h' tk c R1 hcn k => ?_
  exact ⟨.ref _, upd H s.heap.objs.size (SetO X.w s.heap.objs.size (fun j => decide (j ∈ ns)) c), I.laid (t' := tk) k (Nat.le_refl _) (setO_new R1), rfl, q _ c (I.hok.fresh (Nat.le_refl _)) hcn⟩
def rRepI (K : PySem.W.Frag) : R2 := fun x y H Q => ∃ l k xs, x = .ref l ∧ y = .int k ∧ SqT K H l xs ∧ xs ≠ [] ∧ 0 ≤ k ∧ k ≤ 1000 ∧ xs.length ≤ 1000 ∧
  (k = 0 → ∀ p, H p = none → Q (.ref p) (upd H p (.tup []))) ∧ (k = 1 → Q (.ref l) H) ∧ (2 ≤ k → ∀ p, H p = none → Q (.ref p) (upd H p (.tup (List.replicate k.toNat xs).flatten)))
theorem op_repI : OpR X (binaryOp .Mult) (rRepI X.K) := by
  intro pins s σ H x y v u Q I rx ry h
  obtain ⟨l, k, xs, rfl, rfl, hT, hne, h1, h2, hz, q0, q1, q2⟩ := h
  by_cases k2 : 2 ≤ k
  · exact op_repT pins s σ H _ _ v u Q I rx ry ⟨l, k, xs, rfl, rfl, hT, hne, k2, h2, hz, q2 k2⟩
  cases rx
  obtain ⟨t, rfl⟩ := ry
  obtain ⟨its, r, ⟨⟨cls, dd, data, sl⟩, ho, hc, n, hd⟩, hs⟩ := I.tuple hT
  simp only at hc hd
  subst hc hd
  have hle : its.length = xs.length := r.length.symm
  have hn : its ≠ [] := fun e => hne (by
    rw [e] at hle
    exact List.eq_nil_of_length_eq_zero hle.symm)
  have hi : its.toArray.isEmpty = false := by
    cases its with
    | nil => exact absurd rfl hn
    | cons a b => rfl
  by_cases k0 : k = 0
  · subst k0
    refine wpAny_binaryOp_repeat_ref (T := "tuple") (U := "int") (by decide) ⟨_, ho, rfl⟩ (fun s' => typeIs_int s' 0 t) noFill_tuple_mul F.fills_int_mul F.slot_int_rmul repeat_tuple F.slot_int_index.lookup
      (call_meets F.slot_int_rmul (typeIs_int s 0 t) F.entry_int_rmul (F.args_int_rmul_2 _ _) (int_rmul_tuple 0 t l its.toArray n dd sl)
        ⟨ho, rfl, ⟨_, ho, rfl⟩, call_meets F.slot_tuple_mul ⟨_, ho, rfl⟩ F.entry_tuple_mul (F.args_tuple_mul_2 _ _) (tuple_mul0 l its.toArray n dd sl t hi) ⟨ho, ?_⟩⟩)
    refine ⟨.ref s.heap.objs.size, _, I.laid (t' := s.toks) (o := .tup []) (fun b ob q => Heap.get?_push_of_some _ q) (Nat.le_refl _) ?_, rfl, q0 rfl _ (I.hok.fresh (Nat.le_refl _))⟩
    exact ⟨Nat.zero_le _, [], .nil, IsTup.new _ _⟩
  · have k1 : k = 1 := by omega
    subst k1
    exact wpAny_binaryOp_repeat_ref (T := "tuple") (U := "int") (by decide) ⟨_, ho, rfl⟩ (fun s' => typeIs_int s' 1 t) noFill_tuple_mul F.fills_int_mul F.slot_int_rmul repeat_tuple F.slot_int_index.lookup
      (call_meets F.slot_int_rmul (typeIs_int s 1 t) F.entry_int_rmul (F.args_int_rmul_2 _ _) (int_rmul_tuple 1 t l its.toArray n dd sl)
        ⟨ho, rfl, ⟨_, ho, rfl⟩, call_meets F.slot_tuple_mul ⟨_, ho, rfl⟩ F.entry_tuple_mul (F.args_tuple_mul_2 _ _) (tuple_mul1 l its.toArray n dd sl t) ⟨ho, ⟨.ref l, H, I, rfl, q1 rfl⟩⟩⟩)
end
end L2
namespace L2
open PySem PySem.Spec PyProof.Rows
def P11 : List Pr := (List.range 11).map fun i : Nat => ((i : Int), (i : Int) + 1)
def T11 (T : List (List Int)) : List Tie := (List.range 11).map fun i : Nat => ((((i : Int), (i : Int) + 1), T) : Tie)
theorem p11_ok : PsOk 12 P11 := by
  refine ⟨fun t ht => ?_, ?_, fun q => ?_⟩
  · obtain ⟨i, hi, rfl⟩ := List.mem_map.mp ht
    have := List.mem_range.mp hi
    exact ⟨by show (0 : Int) ≤ (i : Int); omega, by show (i : Int) < (i : Int) + 1; omega, by show (i : Int) + 1 < 12; omega⟩
  · unfold P11
    rw [List.pairwise_map]
    exact List.pairwise_lt_range.imp fun {a b} h => .inl (by show (a : Int) < (b : Int); omega)
  · by_cases c : 0 ≤ q ∧ q ≤ 11
    · obtain ⟨n, rfl⟩ := Int.eq_ofNat_of_zero_le c.1
      have : ∀ n : Nat, n < 12 → cntP P11 (n : Int) ≤ 4 := by decide +kernel
      exact this n (by omega)
    · have : cntP P11 q = 0 := by
        unfold cntP
        rw [List.length_eq_zero_iff, List.filter_eq_nil_iff]
        intro t ht z
        obtain ⟨i, hi, rfl⟩ := List.mem_map.mp ht
        have := List.mem_range.mp hi
        have z : (decide (q = (i : Int)) || decide (q = (i : Int) + 1)) = true := z
        simp only [Bool.or_eq_true, decide_eq_true_eq] at z
        omega
      omega
theorem t11_ok {lv : Int} {T : List (List Int)} (hT : tabB lv lv T = true) (hn : T ≠ [] ∧ ∀ l ∈ T, l ≠ [] ∧ ∀ x ∈ l, 0 ≤ x) : TsOk 12 lv (T11 T) := by
  have get : ∀ j : Nat, j < 11 → (T11 T)[j]? = some (((j : Int), (j : Int) + 1), T) := fun j hj => by
    unfold T11
    rw [List.getElem?_map, List.getElem?_range hj] <;> rfl
  refine ⟨fun j hj => ?_, fun t ht => ?_⟩
  · have hj : j < 11 := by
      unfold T11 at hj
      rw [List.length_map, List.length_range] at hj
      exact hj
    unfold gT
    rw [get j hj]
    show (tieB 12 lv (((j : Int), (j : Int) + 1), T) && !leP ((j : Int), (j : Int) + 1) (lastP (T11 T) j)) = true
    have e1 : tieB 12 lv (((j : Int), (j : Int) + 1), T) = true := by
      unfold tieB
      rw [hT]
      show (decide ((j : Int) + 1 < 12) && (decide ((j : Int) < (j : Int) + 1) && true)) = true
      rw [decide_eq_true (show (j : Int) + 1 < 12 by omega), decide_eq_true (show (j : Int) < (j : Int) + 1 by omega)] <;> rfl
    have e2 : leP ((j : Int), (j : Int) + 1) (lastP (T11 T) j) = false := by
      unfold lastP
      by_cases c : j = 0
      · rw [if_pos c, c]
        exact leP_0 (by decide) (by decide)
      · rw [if_neg c, get (j - 1) (by omega)]
        unfold leP
        show (if (j : Int) = ((j - 1 : Nat) : Int) then _ else decide ((j : Int) ≤ ((j - 1 : Nat) : Int))) = false
        rw [if_neg (by omega)]
        exact decide_eq_false (by omega)
    rw [e1, e2] <;> rfl
  · obtain ⟨i, hi, rfl⟩ := List.mem_map.mp ht
    exact ⟨by show (0 : Int) ≤ (i : Int); omega, by show (0 : Int) ≤ (i : Int) + 1; omega, hn.1, hn.2⟩
theorem w0_cons (g : Nat) : ∃ r t, w0 g = r :: t ∧ r.length = 2 ∧ t.length = 9 := ⟨_, _, rfl, by show (if 0 < g then ([1, 0] : List Int) else [1, 1]).length = 2; split <;> rfl, rfl⟩
theorem w0_step {i : Nat} (h : i < 3) : w0 (i + 1) = (w0 i).set i [1, 0] := by
  have : ∀ i, i < 3 → w0 (i + 1) = (w0 i).set i [1, 0] := by decide +kernel
  exact this i h
end L2
namespace Law
open PySem L2
theorem upI_get {n : Int} {i : Nat} (h : i < n.toNat) : (upI n)[i]? = some (i : Int) := by
  unfold upI
  rw [List.getElem?_map, List.getElem?_range h] <;> rfl
theorem upI_mem {n v : Int} (h : v ∈ upI n) : 0 ≤ v ∧ v < n := by
  obtain ⟨i, hi, rfl⟩ := List.mem_map.mp h
  have := List.mem_range.mp hi
  exact ⟨by omega, by omega⟩
/-- the ways of an expression joined by what they leave -/
def tJoin (t : TE) : TE := fun σ H Q => ∃ R : V → Hp → Prop, (∀ Q' : VK, (∀ x H1, R x H1 → Q' x H1) → t σ H Q') ∧ ∀ x H1, R x H1 → Q x H1
theorem pe_join {X : Cx} {e : Expr} {t : TE} (h : PE X e t) : PE X e (tJoin t) := ⟨fun pins s σ H Q I ⟨_, h1, h2⟩ => h.run pins s σ H Q I (h1 Q h2)⟩
/-- one row of the table: nought but at one place -/
abbrev OneRow (lv a : Int) (l : List Int) : Prop := (l.length : Int) = lv ∧ (∀ x ∈ l, 0 ≤ x ∧ x ≤ 1000) ∧ ∀ b : Int, 0 ≤ b → b < lv → (gI l b = 0 ↔ b ≠ a)
theorem gI_snoc {l : List Int} {x b : Int} (h0 : 0 ≤ b) (h : b ≤ (l.length : Int)) : gI (l ++ [x]) b = if b = (l.length : Int) then x else gI l b := by
  by_cases c : b = (l.length : Int)
  · rw [if_pos c, c]
    exact gI_at
  · rw [if_neg c]
    exact gI_left (by omega) h0
theorem gR_snoc {t : List (List Int)} {l : List Int} {i : Nat} (h : i ≤ t.length) : gR (t ++ [l]) (i : Nat) = if i = t.length then l else gR t (i : Nat) := by
  unfold gR
  rw [Int.toNat_natCast, List.getD_eq_getElem?_getD, List.getD_eq_getElem?_getD]
  by_cases c : i = t.length
  · rw [if_pos c, List.getElem?_append_right (by omega), c, Nat.sub_self] <;> rfl
  · rw [if_neg c, List.getElem?_append_left (by omega)]
theorem gR_in {t : List (List Int)} {i : Nat} (h : i < t.length) : gR t (i : Nat) ∈ t := by
  unfold gR
  rw [Int.toNat_natCast, List.getD_eq_getElem?_getD, List.getElem?_eq_getElem h]
  exact List.getElem_mem h
section
variable {P : Program} {w : World} {K : PySem.W.Frag} {mg : Str → Option Value} {base : Heap}
def spWide (K : PySem.W.Frag) : Sp := fun vs H Q _ => ∃ p : Addr, vs = [.ref p] ∧ HandAt H p ∧ ∀ (a d kl : Addr) (m : Mdl) (n : Int) (kp : List (List Int)) (ws : List V) (H' : Hp), Stp p H H' → SqT K H' a [.ref d, .int n, .ref kl] → d ≠ p → DicAt K H' d m → MdlSm m → wrongM m = none → n = (((ext m m.many.toNat []).length : Nat) : Int) → H' kl = some (.lst ws) → AllIn (RowAt K H') ws kp → (kp = [] ∨ kp = ext m m.many.toNat []) → Q (.ref a) H'
abbrev nLawWide : List Str := ["_law_hand_here", "_law_kind", "_law_weights", "_law_gone", "_law_at", "_law_rows", "_law_many", "_law_table", "_law_more", "_law_model_here", "_law_levels", "_law_kept", "_law_one", "_law_other", "_law_place", "_law_level"]
theorem scLawWide : FnScope nLawWide ["_law_hand_here"] (defScope s_law_wide) := ⟨rfl, rfl, rfl, by decide +kernel, rfl, by decide +kernel, by decide +kernel⟩
theorem ok_wide {f : Addr} {fd : FuncData} {fD : Addr} {fdD : FuncData} {fcPlain : Addr} {fdcPlain : FuncData} (F : Fun K "_law_wide" "_law_wide" s_law_wide f fd) (T : NmA mg) (D : Cl P w K mg base CX0 1 "_law_draw" fD fdD ["_law_hand_here", "_law_many"] spDraw) (cPlain : Cl P w K mg base CX0 1 "_law_plain" fcPlain fdcPlain ["_law_rows"] (spPlain K)) : FnOk P w K mg base CX0 2 f fd ["_law_hand_here"] (spWide K) := by
  refine F.ok scLawWide (fun vs H Q E h => ?_) (fun cdv A' outer s H vs Q E hr h => ?_)
  · obtain ⟨p, rfl, _⟩ := h
    rfl
  · obtain ⟨p, rfl, hH, k⟩ := h
    have hu := hu_of hr
    refine ⟨_, pss_cons (ps_set (i := 1) scLawWide.nd rfl (Or.inl rfl) (D.call (hr.mono (by decide)) (pa_cons (pv 0) (pa_cons pe_int pa_nil))))
      (pss_cons (ps_if (pt_cmpR op_eq (pv 1) pe_int (nomark _))
        (pss_cons (ps_set (i := 2) scLawWide.nd rfl (Or.inl rfl) (pe_op op_rep (pe_lst (pa_cons (pe_tup (pa_cons pe_int (pa_cons pe_int pa_nil))) pa_nil)) pe_int))
        (pss_cons (ps_set (i := 3) scLawWide.nd rfl (Or.inr rfl) (D.call (hr.mono (by decide)) (pa_cons (pv 0) (pa_cons pe_int pa_nil))))
        (pss_cons (ps_for PassesOwn.never rfl (pi_range1 (by rfl) T.range (pa_cons (pv 3) pa_nil)) (pg_name (i := 4) scLawWide.nd rfl (Or.inl rfl))
          (pss_one (ps_asg (pe_tup (pa_cons pe_int (pa_cons pe_int pa_nil))) (pg_sub (pv 2) (pv 4) set_list))))
        (pss_one (ps_ret (pe_tup (pa_cons (cPlain.call (hr.mono (by decide)) (pa_cons (pv 2) pa_nil)) (pa_cons (pe_op op_fdiv pe_int (pe_ix ix_list (pe_lst (pa_cons pe_int (pa_cons pe_int (pa_cons pe_int pa_nil)))) (pv 3) (fun _ _ => rfl))) (pa_cons (pe_lst pa_nil) pa_nil))))))))) pss_nil)
      (pss_cons (ps_if (pt_cmpR op_eq (pv 1) pe_int (nomark _))
        (pss_cons (ps_set (i := 5) scLawWide.nd rfl (Or.inl rfl) (pe_op op_cat (pe_op op_rep (pe_lst (pa_cons (pe_tup (pa_cons pe_int (pa_cons pe_int (pa_cons pe_int (pa_cons pe_int pa_nil))))) pa_nil)) pe_int) (pe_lst (pa_cons (pe_tup (pa_cons pe_int (pa_cons pe_int (pa_cons pe_int (pa_cons pe_int pa_nil))))) pa_nil))))
        (pss_cons (ps_set (i := 5) scLawWide.nd rfl (Or.inl rfl) (pe_op op_cat (pv 5) (pe_op op_rep (pe_lst (pa_cons (pe_tup (pa_cons pe_int (pa_cons pe_int (pa_cons pe_int (pa_cons pe_int pa_nil))))) pa_nil)) (D.call (hr.mono (by decide)) (pa_cons (pv 0) (pa_cons pe_int pa_nil))))))
        (pss_cons (ps_set (i := 6) scLawWide.nd rfl (Or.inl rfl) (pe_op op_mul (pe_op op_mul pe_int pe_int) (pe_ifExp (pt_cmpR op_gt (pe_callB call_len_seq (by rfl) T.len PySem.boot_len (pa_cons (pv 5) pa_nil)) pe_int (nomark _)) pe_int pe_int)))
        (pss_one (ps_ret (pe_tup (pa_cons (cPlain.call (hr.mono (by decide)) (pa_cons (pv 5) pa_nil)) (pa_cons (pv 6) (pa_cons (pe_lst pa_nil) pa_nil))))))))) pss_nil)
      (pss_cons (ps_if (pt_cmpR op_eq (pv 1) pe_int (nomark _))
        (pss_cons (ps_set (i := 7) scLawWide.nd rfl (Or.inr rfl) (pe_tup (pa_cons (pe_tup (pa_cons pe_int (pa_cons pe_int (pa_cons pe_int (pa_cons pe_int pa_nil))))) (pa_cons (pe_tup (pa_cons pe_int (pa_cons pe_int (pa_cons pe_int (pa_cons pe_int pa_nil))))) (pa_cons (pe_tup (pa_cons pe_int (pa_cons pe_int (pa_cons pe_int (pa_cons pe_int pa_nil))))) (pa_cons (pe_tup (pa_cons pe_int (pa_cons pe_int (pa_cons pe_int (pa_cons pe_int pa_nil))))) pa_nil))))))
        (pss_cons (ps_set (i := 8) scLawWide.nd rfl (Or.inl rfl) (pe_join (pe_ifExp (pt_cmpR op_eq (D.call (hr.mono (by decide)) (pa_cons (pv 0) (pa_cons pe_int pa_nil))) pe_int (nomark _)) (pe_tup (pa_cons (pe_tup (pa_cons pe_int (pa_cons pe_int (pa_cons pe_int (pa_cons pe_int pa_nil))))) (pa_cons (pe_tup (pa_cons pe_int (pa_cons pe_int (pa_cons pe_int (pa_cons pe_int pa_nil))))) (pa_cons (pe_tup (pa_cons pe_int (pa_cons pe_int (pa_cons pe_int (pa_cons pe_int pa_nil))))) (pa_cons (pe_tup (pa_cons pe_int (pa_cons pe_int (pa_cons pe_int (pa_cons pe_int pa_nil))))) pa_nil))))) (pv 7))))
        (pss_cons (ps_set (i := 9) scLawWide.nd rfl (Or.inl rfl) (pe_disp (pps_cons pe_str pe_int (pps_cons pe_str pe_int (pps_cons pe_str (pe_op op_repI (pe_tup (pa_cons (pe_tup (pa_cons pe_int (pa_cons pe_int (pa_cons pe_int (pa_cons pe_int pa_nil))))) pa_nil)) pe_int) (pps_cons pe_str (pe_tup (pa_cons (pe_tup (pa_cons pe_int (pa_cons pe_int (pa_cons (pv 7) pa_nil)))) (pa_cons (pe_tup (pa_cons pe_int (pa_cons pe_int (pa_cons (pv 7) pa_nil)))) (pa_cons (pe_tup (pa_cons pe_int (pa_cons pe_int (pa_cons (pv 8) pa_nil)))) pa_nil)))) pps_nil)))) (by rfl) (by rfl) (fun z => by cases z) (by decide)))
        (pss_one (ps_ret (pe_tup (pa_cons (pv 9) (pa_cons (pe_ifExp (pt_cmpR (op_eqD hr.units) (pv 8) (pv 7) (nomark _)) pe_int pe_int) (pa_cons (pe_lst pa_nil) pa_nil))))))))) pss_nil)
      (pss_cons (ps_set (i := 10) scLawWide.nd rfl (Or.inr rfl) (pe_op op_add pe_int (D.call (hr.mono (by decide)) (pa_cons (pv 0) (pa_cons pe_int pa_nil)))))
      (pss_cons (ps_set (i := 7) scLawWide.nd rfl (Or.inr rfl) (pe_callTy call_tuple_of (by rfl) T.tuple (by decide +kernel) (pa_cons (pe_lc (own := [("_law_one", 12)]) (g := (gName 12)) (tt := tYes) rfl scLawWide.nd  (pi_range1 (by rfl) T.range (pa_cons (pv 10) pa_nil)) (blkOk_by (own := [("_law_one", 12)]) (N := nLawWide) (sc := defScope s_law_wide) (by decide +kernel)) (fun _ _ _ _ _ => (pg_name (i := 12) scLawWide.nd rfl (Or.inr rfl))) (fun _ _ _ _ _ => pts_nil) (fun _ _ _ _ _ => (pe_callTy (r := rTupOf K) (show CallR _ (.type "tuple") (rTupOf K) from call_tuple_of) (by rfl) T.tuple (by decide +kernel) (pa_cons (pe_lc (own := [("_law_other", 13)]) (g := (gName 13)) (tt := tYes) rfl scLawWide.nd  (pi_range1 (by rfl) T.range (pa_cons (pv 10) pa_nil)) (blkOk_by (own := [("_law_other", 13)]) (N := nLawWide) (sc := ({ kind := .function, names := [(".0", .local), ("_law_one", .cell), ("tuple", .globalImplicit), ("range", .globalImplicit), ("_law_hand_here", .cell), ("_law_levels", .cell)], isGenerator := false, isCoroutine := false } : Scope)) (by decide +kernel)) (fun _ _ _ _ _ => (pg_name (i := 13) scLawWide.nd rfl (Or.inl rfl))) (fun _ _ _ _ _ => pts_nil) (fun _ _ _ _ _ => (pe_op op_mul (pe_callTy (r := fun xs H Q => (∃ i, xs = [.int i] ∧ Q (.int i) H) ∨ ∃ k, xs = [.bl k] ∧ Q (.int (if k then 1 else 0)) H) call_int1 (by rfl) T.int (by decide +kernel) (pa_cons (pe_cmpR op_eq (pv 12) (pv 13) (nomark _)) pa_nil)) (pe_op op_add pe_int (D.call (hr.mono (by decide)) (pa_cons (pv 0) (pa_cons pe_int pa_nil))))))) pa_nil)))) pa_nil)))
      (pss_cons (ps_setLc (i := 2) (own := [("_law_place", 14)]) (g := (gName 14)) (tt := tYes) (by rfl) scLawWide.nd rfl rfl (sw_true rfl rfl rfl (by decide +kernel)) (pi_range1 (by rfl) T.range (pa_cons pe_int pa_nil)) (blkOk_by (own := [("_law_place", 14)]) (N := nLawWide) (sc := defScope s_law_wide) (by decide +kernel)) (fun _ _ _ _ _ => (pg_name (i := 14) scLawWide.nd rfl (Or.inl rfl))) (fun _ _ _ _ _ => pts_nil) (fun _ _ _ _ _ => (pe_callTy (r := rTupOf K) (show CallR _ (.type "tuple") (rTupOf K) from call_tuple_of) (by rfl) T.tuple (by decide +kernel) (pa_cons (pe_lc (own := [("_law_level", 15)]) (g := (gName 15)) (tt := tYes) rfl scLawWide.nd  (pi_range1 (by rfl) T.range (pa_cons (pv 10) pa_nil)) (blkOk_by (own := [("_law_level", 15)]) (N := nLawWide) (sc := ({ kind := .function, names := [(".0", .local), ("_law_place", .local), ("tuple", .globalImplicit), ("range", .globalImplicit), ("_law_hand_here", .cell), ("_law_levels", .cell)], isGenerator := false, isCoroutine := false } : Scope)) (by decide +kernel)) (fun _ _ _ _ _ => (pg_name (i := 15) scLawWide.nd rfl (Or.inl rfl))) (fun _ _ _ _ _ => pts_nil) (fun _ _ _ _ _ => (pe_op op_add pe_int (D.call (hr.mono (by decide)) (pa_cons (pv 0) (pa_cons pe_int pa_nil)))))) pa_nil))))
      (pss_cons (ps_set (i := 3) scLawWide.nd rfl (Or.inr rfl) (D.call (hr.mono (by decide)) (pa_cons (pv 0) (pa_cons (pe_op op_add (pv 10) pe_int) pa_nil))))
      (pss_cons (ps_asg (pe_callTy call_tuple_of (by rfl) T.tuple (by decide +kernel) (pa_cons (pe_lc (own := [("_law_level", 15)]) (g := (gName 15)) (tt := tYes) rfl scLawWide.nd  (pi_range1 (by rfl) T.range (pa_cons (pv 10) pa_nil)) (blkOk_by (own := [("_law_level", 15)]) (N := nLawWide) (sc := defScope s_law_wide) (by decide +kernel)) (fun _ _ _ _ _ => (pg_name (i := 15) scLawWide.nd rfl (Or.inl rfl))) (fun _ _ _ _ _ => pts_nil) (fun _ _ _ _ _ => (pe_ifExp (pt_cmpR op_eq (pv 15) (pv 3) (nomark _)) pe_int pe_int))) pa_nil)) (pg_sub (pv 2) pe_int set_list))
      (pss_cons (ps_set (i := 9) scLawWide.nd rfl (Or.inl rfl) (pe_disp (pps_cons pe_str pe_int (pps_cons pe_str (pv 10) (pps_cons pe_str (pe_callTy call_tuple_of (by rfl) T.tuple (by decide +kernel) (pa_cons (pv 2) pa_nil)) (pps_cons pe_str (pe_callTy call_tuple_of (by rfl) T.tuple (by decide +kernel) (pa_cons (pe_lc (own := [("_law_at", 4)]) (g := (gName 4)) (tt := tYes) rfl scLawWide.nd  (pi_range1 (by rfl) T.range (pa_cons pe_int pa_nil)) (blkOk_by (own := [("_law_at", 4)]) (N := nLawWide) (sc := defScope s_law_wide) (by decide +kernel)) (fun _ _ _ _ _ => (pg_name (i := 4) scLawWide.nd rfl (Or.inl rfl))) (fun _ _ _ _ _ => pts_nil) (fun _ _ _ _ _ => (pe_tup (pa_cons (pv 4) (pa_cons (pe_op op_add (pv 4) pe_int) (pa_cons (pv 7) pa_nil)))))) pa_nil)) pps_nil)))) (by rfl) (by rfl) (fun z => by cases z) (by decide)))
      (pss_cons (ps_setLc (i := 11) (own := [("_law_level", 15)]) (g := (gName 15)) (tt := _) (by rfl) scLawWide.nd rfl rfl (sw_true rfl rfl rfl (by decide +kernel)) (pi_range1 (by rfl) T.range (pa_cons (pv 10) pa_nil)) (blkOk_by (own := [("_law_level", 15)]) (N := nLawWide) (sc := defScope s_law_wide) (by decide +kernel)) (fun _ _ _ _ _ => (pg_name (i := 15) scLawWide.nd rfl (Or.inl rfl))) (fun _ _ _ _ _ => (pts_one (pt_cmpR op_ne (pv 15) (pv 3) (nomark _)))) (fun _ _ _ _ _ => (pe_op (r := rRepI K) (show OpR _ (binaryOp .Mult) (rRepI K) from op_repI) (pe_tup (pa_cons (pv 15) pa_nil)) pe_int)))
      (pss_one (ps_ret (pe_tup (pa_cons (pv 9) (pa_cons (pe_callB call_len_seq (by rfl) T.len PySem.boot_len (pa_cons (pv 11) pa_nil)) (pa_cons (pv 11) pa_nil)))))))))))))))), ?_⟩
    refine ⟨_, rfl, p, 5, rfl, by decide, by decide, hH, fun kd H1 _ _ S1 => ?_⟩
    refine ⟨_, rfl, rfl, _, rfl, ite2 (fun _ => ?_) (fun _ => ?_)⟩
    · refine ⟨by show 2 ≤ sizeLine; decide, fun t ht => ?_⟩
      refine new_step ht fun H2 s2 e2 => ?_
      refine ⟨by show 1 ≤ sizeLine; decide, fun Z hZ => ?_⟩
      refine new_step hZ fun H3 s3 e3 => ?_
      refine ⟨Z, 10, [.ref t], rfl, rfl, e3, by decide, by decide, by show 1 * 10 ≤ sizeLine; decide, fun L hL => ?_⟩
      have S3 := (S1.post s2).post s3
      have L0 := S3.free hL
      have Lp : L ≠ p := ne_hand hH L0
      refine new_step hL fun H4 s4 e4 => ?_
      have e4 : H4 L = some (.lst (List.replicate 10 (.ref t))) := by rw [← flat_rep]; exact e4
      have S4 := S3.post s4
      have r4 : AllIn (RowAt K H4) (List.replicate 10 (.ref t)) (w0 0) := AllIn.rep (x := [1, 1]) ⟨t, rfl, SqT.of (s4 _ _ (s3 _ _ e2))⟩ 10
      refine ⟨_, rfl, p, 3, rfl, by decide, by decide, S4.hand, fun gn H5 g0 g3 S5 => ?_⟩
      refine ⟨_, rfl, _, rfl, by omega, by omega, ?_⟩
      refine for_range (lo := 0) (n := gn.toNat) (fun i σ H' => (Stp p H H' ∧ ∃ vs : List V, H' L = some (.lst vs) ∧ AllIn (RowAt K H') vs (w0 i)) ∧ ∃ u : Option V, σ = [some (.ref p), some (.int kd), some (.ref L), some (.int gn), u, none, none, none, none, none, none, none, none, none, none, none]) ⟨⟨S4.trans S5, _, S5.keep _ _ Lp e4, r4.mono fun _ _ => rowAt_stp S5 S4.hand⟩, none, rfl⟩ ?_ ?_
      · rintro i σ H6 hi ⟨⟨S6, vs, e6, r6⟩, u, rfl⟩
        rw [Int.zero_add]
        refine ⟨by show 2 ≤ sizeLine; decide, fun q hq => ?_⟩
        refine new_step hq fun H7 s7 e7 => ?_
        have e67 := s7 _ _ e6
        have vl : vs.length = 10 := by rw [r6.1]; rfl
        refine ⟨_, rfl, _, rfl, L, _, _, i, rfl, rfl, e67, Evl.ixN_nat (by omega), ⟨(S6.post s7).mut hH L0, vs.set i (.ref q), upd_same, ?_⟩, _, rfl⟩
        rw [w0_step (by omega)]
        exact AllIn.set (r6.mono fun _ _ h => (h.same s7).upd e67) i (RowAt.upd e67 ⟨q, rfl, SqT.of e7⟩)
      · rintro σ H6 ⟨⟨S6, vs, e6, r6⟩, u, rfl⟩
        obtain ⟨r, tl, ew, rl, tll⟩ := w0_cons gn.toNat
        have mE : (⟨((r :: tl).length : Nat), (r.length : Nat), r :: tl, []⟩ : Mdl) = m0 gn.toNat := by
          unfold m0
          rw [ew, List.length_cons, rl, tll] <;> rfl
        rw [ew] at r6
        refine ⟨_, rfl, L, vs, r, tl, rfl, e6, r6, fun d H7 hd s7 hD => ?_⟩
        rw [mE] at hD
        have dp : d ≠ p := ne_hand S6.hand hd
        refine ⟨by show 3 ≤ sizeLine; decide, fun N hN => ?_⟩
        refine new_step hN fun H8 s8 e8 => ?_
        have fin : ∀ (v : Int), v = ((ext (m0 gn.toNat) 10 []).length : Nat) → MdlSm (m0 gn.toNat) ∧ wrongM (m0 gn.toNat) = none → ∀ E, H8 E = none → 0 ≤ sizeLine ∧ 3 ≤ sizeLine ∧ ∀ A, upd H8 E (.lst []) A = none → Q (.ref A) (upd (upd H8 E (.lst [])) A (.tup [.ref d, .int v, .ref E])) := fun v hv hm E hE => by
          refine ⟨by decide, by decide, fun A hA => ?_⟩
          have s9 : Same H8 (upd H8 E (.lst [])) := Same.new hE
          have s10 : Same (upd H8 E (.lst [])) (upd (upd H8 E (.lst [])) A (.tup [.ref d, .int v, .ref E])) := Same.new hA
          exact k A d E (m0 gn.toNat) v [] [] _ (S6.post (((s7.trans s8).trans s9).trans s10)) (SqT.of upd_same) dp (((hD.same s8).same s9).same s10) hm.1 hm.2 hv (s10 _ _ upd_same) AllIn.nil (.inl rfl)
        have : gn = 0 ∨ gn = 1 ∨ gn = 2 := by omega
        rcases this with rfl | rfl | rfl
        · refine ⟨_, rfl, N, _, _, .int 1, rfl, rfl, SqL.of e8, rfl, _, _, rfl, rfl, ⟨by decide, by decide⟩, by show 0 ≤ sizeLine; decide, fun E hE => ?_⟩
          obtain ⟨_, q2, q3⟩ := fin 1024 (by show (1024 : Int) = ((ext (m0 0) 10 []).length : Nat); rw [c00] <;> rfl) ⟨sm_of s00m.1, s00m.2⟩ E hE
          exact ⟨q2, q3⟩
        · refine ⟨_, rfl, N, _, _, .int 2, rfl, rfl, SqL.of e8, rfl, _, _, rfl, rfl, ⟨by decide, by decide⟩, by show 0 ≤ sizeLine; decide, fun E hE => ?_⟩
          obtain ⟨_, q2, q3⟩ := fin 512 (by show (512 : Int) = ((ext (m0 1) 10 []).length : Nat); rw [c01] <;> rfl) ⟨sm_of s01m.1, s01m.2⟩ E hE
          exact ⟨q2, q3⟩
        · refine ⟨_, rfl, N, _, _, .int 4, rfl, rfl, SqL.of e8, rfl, _, _, rfl, rfl, ⟨by decide, by decide⟩, by show 0 ≤ sizeLine; decide, fun E hE => ?_⟩
          obtain ⟨_, q2, q3⟩ := fin 256 (by show (256 : Int) = ((ext (m0 2) 10 []).length : Nat); rw [c02] <;> rfl) ⟨sm_of s02m.1, s02m.2⟩ E hE
          exact ⟨q2, q3⟩
    refine ⟨_, rfl, rfl, _, rfl, ite2 (fun _ => ?_) (fun _ => ?_)⟩
    · refine ⟨by show 4 ≤ sizeLine; decide, fun t1 ht1 => ?_⟩
      refine new_step ht1 fun H2 s2 e2 => ?_
      refine ⟨by show 1 ≤ sizeLine; decide, fun Z1 hZ1 => ?_⟩
      refine new_step hZ1 fun H3 s3 e3 => ?_
      refine ⟨Z1, 4, [.ref t1], rfl, rfl, e3, by decide, by decide, by show 1 * 4 ≤ sizeLine; decide, fun L1 hL1 => ?_⟩
      refine new_step hL1 fun H4 s4 e4 => ?_
      have e4 : H4 L1 = some (.lst (List.replicate 4 (.ref t1))) := by rw [← flat_rep]; exact e4
      refine ⟨by show 4 ≤ sizeLine; decide, fun t2 ht2 => ?_⟩
      refine new_step ht2 fun H5 s5 e5 => ?_
      refine ⟨by show 1 ≤ sizeLine; decide, fun Z2 hZ2 => ?_⟩
      refine new_step hZ2 fun H6 s6 e6 => ?_
      refine ⟨L1, Z2, _, _, rfl, rfl, (s5.trans s6) _ _ e4, e6, by show 4 + 1 ≤ sizeLine; decide, fun R hR => ?_⟩
      refine new_step hR fun H7 s7 e7 => ?_
      have s27 := (((s3.trans s4).trans s5).trans s6).trans s7
      have S7 : Stp p H H7 := S1.post (s2.trans s27)
      have R0 := (S1.post (((((s2.trans s3).trans s4).trans s5).trans s6))).free hR
      have Rp : R ≠ p := ne_hand hH R0
      have r7 : AllIn (RowAt K H7) (List.replicate 4 (.ref t1) ++ [.ref t2]) (w1 0) := AllIn.app (l := List.replicate 4 [1, 1, 1, 1]) (AllIn.rep ⟨t1, rfl, SqT.of (s27 _ _ e2)⟩ 4) (AllIn.cons (x := [1, 1, 1, 0]) ⟨t2, rfl, SqT.of ((s6.trans s7) _ _ e5)⟩ AllIn.nil)
      refine ⟨_, rfl, by show 4 ≤ sizeLine; decide, fun t3 ht3 => ?_⟩
      refine new_step ht3 fun H8 s8 e8 => ?_
      refine ⟨by show 1 ≤ sizeLine; decide, fun Z3 hZ3 => ?_⟩
      have Z3p : Z3 ≠ p := ne_hand (S7.hand.same s8) hZ3
      refine new_step hZ3 fun H9 s9 e9 => ?_
      have S9 : Stp p H H9 := S7.post (s8.trans s9)
      have t3p : t3 ≠ p := ne_hand S7.hand ht3
      refine ⟨_, rfl, p, 2, rfl, by decide, by decide, S9.hand, fun dd H10 d0 d2 S10 => ?_⟩
      have e10 := S10.keep _ _ Z3p e9
      have eR10 := S10.keep _ _ Rp ((s8.trans s9) _ _ e7)
      have e310 := S10.keep _ _ t3p (s9 _ _ e8)
      have r10 : AllIn (RowAt K H10) (List.replicate 4 (.ref t1) ++ [.ref t2]) (w1 0) := r7.mono fun _ _ h => rowAt_stp S10 S9.hand (h.same (s8.trans s9))
      have S010 := S9.trans S10
      have dd01 : dd = 0 ∨ dd = 1 := by omega
      have fin : ∀ (n : Nat) (v : Int) (d : Addr) (H' : Hp), v = ((ext (m1 n) (m1 n).many.toNat []).length : Nat) → MdlSm (m1 n) ∧ wrongM (m1 n) = none → d ≠ p → Stp p H H' → DicAt K H' d (m1 n) → ∀ E, H' E = none → 3 ≤ sizeLine ∧ ∀ A, upd H' E (.lst []) A = none → Q (.ref A) (upd (upd H' E (.lst [])) A (.tup [.ref d, .int v, .ref E])) := fun n v d H' hv hm dp S' hD E hE => by
        refine ⟨by decide, fun A hA => ?_⟩
        have s9 : Same H' (upd H' E (.lst [])) := Same.new hE
        have s10 : Same (upd H' E (.lst [])) (upd (upd H' E (.lst [])) A (.tup [.ref d, .int v, .ref E])) := Same.new hA
        exact k A d E (m1 n) v [] [] _ (S'.post (s9.trans s10)) (SqT.of upd_same) dp ((hD.same s9).same s10) hm.1 hm.2 hv (s10 _ _ upd_same) AllIn.nil (.inl rfl)
      rcases dd01 with rfl | rfl
      · refine ⟨Z3, 0, [.ref t3], rfl, rfl, e10, by decide, by decide, by show 1 * 0 ≤ sizeLine; decide, fun L3 hL3 => ?_⟩
        refine new_step hL3 fun H11 s11 e11 => ?_
        refine ⟨R, L3, _, _, rfl, rfl, s11 _ _ eR10, e11, by show 5 + 0 ≤ sizeLine; decide, fun R2 hR2 => ?_⟩
        refine new_step hR2 fun H12 s12 e12 => ?_
        have s1012 := s11.trans s12
        refine ⟨_, _, rfl, rfl, .inl ⟨by decide, by decide⟩, _, rfl, R2, _, rfl, .inl (SqL.of e12), _, _, rfl, rfl, _, rfl, ite2 (fun c => absurd (of_decide_eq_true c) (by show ¬ ((5 : Nat) : Int) > 5; decide)) (fun _ => ⟨_, _, rfl, rfl, .inl ⟨by decide, by decide⟩, ?_⟩)⟩
        have S12 := S010.post s1012
        refine ⟨_, rfl, R2, _, [1, 1, 1, 1], [[1, 1, 1, 1], [1, 1, 1, 1], [1, 1, 1, 1], [1, 1, 1, 0]], rfl, e12, r10.mono fun _ _ h => h.same s1012, fun d H13 hd s13 hD => ⟨_, rfl, by show 0 ≤ sizeLine; decide, fun E hE => fin 0 768 d H13 (by show (768 : Int) = ((ext (m1 0) 5 []).length : Nat); rw [c10] <;> rfl) ⟨sm_of s10m.1, s10m.2⟩ (ne_hand S12.hand hd) (S12.post s13) hD E hE⟩⟩
      · refine ⟨Z3, 1, [.ref t3], rfl, rfl, e10, by decide, by decide, by show 1 * 1 ≤ sizeLine; decide, fun L3 hL3 => ?_⟩
        refine new_step hL3 fun H11 s11 e11 => ?_
        refine ⟨R, L3, _, _, rfl, rfl, s11 _ _ eR10, e11, by show 5 + 1 ≤ sizeLine; decide, fun R2 hR2 => ?_⟩
        refine new_step hR2 fun H12 s12 e12 => ?_
        have s1012 := s11.trans s12
        refine ⟨_, _, rfl, rfl, .inl ⟨by decide, by decide⟩, _, rfl, R2, _, rfl, .inl (SqL.of e12), _, _, rfl, rfl, _, rfl, ite2 (fun _ => ⟨_, _, rfl, rfl, .inl ⟨by decide, by decide⟩, ?_⟩) (fun c => absurd (decide_eq_true (show ((6 : Nat) : Int) > 5 by decide)) c)⟩
        have S12 := S010.post s1012
        have r12 : AllIn (RowAt K H12) ((List.replicate 4 (.ref t1) ++ [.ref t2]) ++ [.ref t3]) (w1 0 ++ [[1, 1, 0, 0]]) := AllIn.app (r10.mono fun _ _ h => h.same s1012) (AllIn.cons ⟨t3, rfl, SqT.of (s1012 _ _ e310)⟩ AllIn.nil)
        refine ⟨_, rfl, R2, _, [1, 1, 1, 1], [[1, 1, 1, 1], [1, 1, 1, 1], [1, 1, 1, 1], [1, 1, 1, 0], [1, 1, 0, 0]], rfl, e12, r12, fun d H13 hd s13 hD => ⟨_, rfl, by show 0 ≤ sizeLine; decide, fun E hE => fin 1 1536 d H13 (by show (1536 : Int) = ((ext (m1 1) 6 []).length : Nat); rw [c11] <;> rfl) ⟨sm_of s11m.1, s11m.2⟩ (ne_hand S12.hand hd) (S12.post s13) hD E hE⟩⟩
    refine ⟨_, rfl, rfl, _, rfl, ite2 (fun _ => ?_) (fun _ => ?_)⟩
    · refine ⟨by show 4 ≤ sizeLine; decide, fun a1 h1 => ?_⟩
      refine new_step h1 fun H2 s2 e2 => ?_
      refine ⟨by show 4 ≤ sizeLine; decide, fun a2 h2 => ?_⟩
      refine new_step h2 fun H3 s3 e3 => ?_
      refine ⟨by show 4 ≤ sizeLine; decide, fun a3 h3 => ?_⟩
      refine new_step h3 fun H4 s4 e4 => ?_
      refine ⟨by show 4 ≤ sizeLine; decide, fun a4 h4 => ?_⟩
      refine new_step h4 fun H5 s5 e5 => ?_
      refine ⟨by show 4 ≤ sizeLine; decide, fun T hT => ?_⟩
      refine new_step hT fun H6 s6 e6 => ?_
      have rA : RowsAt K H6 T twA := ⟨_, SqT.of e6, AllIn.cons ⟨a1, rfl, SqT.of ((((s3.trans s4).trans s5).trans s6) _ _ e2)⟩ (AllIn.cons ⟨a2, rfl, SqT.of (((s4.trans s5).trans s6) _ _ e3)⟩ (AllIn.cons ⟨a3, rfl, SqT.of ((s5.trans s6) _ _ e4)⟩ (AllIn.cons ⟨a4, rfl, SqT.of (s6 _ _ e5)⟩ AllIn.nil)))⟩
      have S6 : Stp p H H6 := S1.post ((((s2.trans s3).trans s4).trans s5).trans s6)
      refine ⟨fun v H' => ∃ (b : Addr) (t' : List (List Int)), v = .ref b ∧ Stp p H6 H' ∧ RowsAt K H' b t' ∧ (t' = twA ∨ t' = twB), fun Q' key => ?_, ?_⟩
      · refine ⟨_, rfl, p, 2, rfl, by decide, by decide, S6.hand, fun d H7 _ _ S7 => ⟨rfl, _, rfl, ite2 (fun _ => ?_) (fun _ => ?_)⟩⟩
        · refine ⟨by show 4 ≤ sizeLine; decide, fun b1 g1 => ?_⟩
          refine new_step g1 fun G2 z2 f2 => ?_
          refine ⟨by show 4 ≤ sizeLine; decide, fun b2 g2 => ?_⟩
          refine new_step g2 fun G3 z3 f3 => ?_
          refine ⟨by show 4 ≤ sizeLine; decide, fun b3 g3 => ?_⟩
          refine new_step g3 fun G4 z4 f4 => ?_
          refine ⟨by show 4 ≤ sizeLine; decide, fun b4 g4 => ?_⟩
          refine new_step g4 fun G5 z5 f5 => ?_
          refine ⟨by show 4 ≤ sizeLine; decide, fun U hU => ?_⟩
          refine new_step hU fun G6 z6 f6 => ?_
          exact key _ _ ⟨U, twB, rfl, S7.post ((((z2.trans z3).trans z4).trans z5).trans z6), ⟨_, SqT.of f6, AllIn.cons ⟨b1, rfl, SqT.of ((((z3.trans z4).trans z5).trans z6) _ _ f2)⟩ (AllIn.cons ⟨b2, rfl, SqT.of (((z4.trans z5).trans z6) _ _ f3)⟩ (AllIn.cons ⟨b3, rfl, SqT.of ((z5.trans z6) _ _ f4)⟩ (AllIn.cons ⟨b4, rfl, SqT.of (z6 _ _ f5)⟩ AllIn.nil)))⟩, .inr rfl⟩
        · exact ⟨_, rfl, key _ _ ⟨T, twA, rfl, S7, rowsAt_stp S7 S6.hand rA, .inl rfl⟩⟩
      rintro v H7 ⟨U, t', rfl, S7, rU, ht'⟩
      have rA7 := rowsAt_stp S7 S6.hand rA
      have S07 := S6.trans S7
      intro dp hdp
      have dpp : dp ≠ p := ne_hand S07.hand hdp
      have sd : Same H7 (upd H7 dp (.dK [])) := Same.new hdp
      refine ⟨by show 4 ≤ sizeLine; decide, fun c1 i1 => ?_⟩
      refine new_step i1 fun H8 s8 e8 => ?_
      refine ⟨by show 1 ≤ sizeLine; decide, fun c2 i2 => ?_⟩
      refine new_step i2 fun H9 s9 e9 => ?_
      refine ⟨c2, 6, [.ref c1], rfl, rfl, SqT.of e9, by simp, by decide, by decide, by show 1 ≤ 1000; decide, fun z => absurd z (by decide), fun z => absurd z (by decide), fun _ W hW => ?_⟩
      refine new_step hW fun H10 s10 e10 => ?_
      have e10 : H10 W = some (.tup (List.replicate 6 (.ref c1))) := by rw [← flat_rep]; exact e10
      refine ⟨_, rfl, by show 3 ≤ sizeLine; decide, fun x1 j1 => ?_⟩
      refine new_step j1 fun H11 s11 e11 => ?_
      refine ⟨_, rfl, by show 3 ≤ sizeLine; decide, fun x2 j2 => ?_⟩
      refine new_step j2 fun H12 s12 e12 => ?_
      refine ⟨_, rfl, by show 3 ≤ sizeLine; decide, fun x3 j3 => ?_⟩
      refine new_step j3 fun H13 s13 e13 => ?_
      refine ⟨by show 3 ≤ sizeLine; decide, fun TT j4 => ?_⟩
      refine new_step j4 fun H14 s14 e14 => ?_
      have s1014 := ((s11.trans s12).trans s13).trans s14
      have s714 : Same (upd H7 dp (.dK [])) H14 := ((s8.trans s9).trans s10).trans s1014
      have hdp14 : H14 dp = some (.dK []) := s714 _ _ upd_same
      have e1014 := s1014 _ _ e10
      refine ⟨hdp14, mdK 6 4 W TT, rfl, (show 4 ≤ 15 by decide), ?_⟩
      rw [merge_app (mdK 6 4 W TT) [] (md_keys _ _ _ _), List.nil_append]
      have sN : Same H7 (upd H14 dp (.dK (mdK 6 4 W TT))) := (sd.trans s714).mut hdp
      obtain ⟨H15, hH15⟩ : ∃ G, G = upd H14 dp (.dK (mdK 6 4 W TT)) := ⟨_, rfl⟩
      have tk : ∀ {a : Addr} {xs : List V}, H14 a = some (.tup xs) → H15 a = some (.tup xs) := fun {a xs} e => by
        rw [hH15, upd_ne (fun z => by rw [z, hdp14] at e; cases e)]
        exact e
      have e15 : H15 dp = some (.dK (mdK 6 4 W TT)) := by rw [hH15]; exact upd_same
      rw [← hH15] at sN ⊢
      clear hH15
      have rA15 := rA7.same sN
      have rU15 := rU.same sN
      have hM : DicAt K H15 dp (m2 t') := by
        refine ⟨W, TT, e15, ⟨_, SqT.of (tk e1014), AllIn.rep ⟨c1, rfl, SqT.of (tk (s1014 _ _ ((s9.trans s10) _ _ e8)))⟩ 6⟩, _, SqT.of (tk e14), ?_⟩
        exact AllIn.cons ⟨x1, T, rfl, SqT.of (tk (((s12.trans s13).trans s14) _ _ e11)), rA15⟩ (AllIn.cons ⟨x2, T, rfl, SqT.of (tk ((s13.trans s14) _ _ e12)), rA15⟩ (AllIn.cons ⟨x3, U, rfl, SqT.of (tk (s14 _ _ e13)), rU15⟩ AllIn.nil))
      have S15 := S07.post sN
      have fin : ∀ (v : Int), v = ((ext (m2 t') (m2 t').many.toNat []).length : Nat) → MdlSm (m2 t') ∧ wrongM (m2 t') = none → ∀ E, H15 E = none → 3 ≤ sizeLine ∧ ∀ A, upd H15 E (.lst []) A = none → Q (.ref A) (upd (upd H15 E (.lst [])) A (.tup [.ref dp, .int v, .ref E])) := fun v hv hm E hE => by
        refine ⟨by decide, fun A hA => ?_⟩
        have s16 : Same H15 (upd H15 E (.lst [])) := Same.new hE
        have s17 : Same (upd H15 E (.lst [])) (upd (upd H15 E (.lst [])) A (.tup [.ref dp, .int v, .ref E])) := Same.new hA
        exact k A dp E (m2 t') v [] [] _ (S15.post (s16.trans s17)) (SqT.of upd_same) dpp ((hM.same s16).same s17) hm.1 hm.2 hv (s17 _ _ upd_same) AllIn.nil (.inl rfl)
      refine ⟨_, rfl, _, rfl, _, rfl, tabD t', tabD twA, dp_rows rU15, dp_rows rA15, shaped_of (lay_tabD _) (by decide), shaped_of (lay_tabD _) (by decide), _, rfl, ?_⟩
      rw [eqv_tabD]
      rcases ht' with rfl | rfl
      · rw [decide_eq_true rfl]
        exact iteT ⟨by show 0 ≤ sizeLine; decide, fun E hE => fin 1000 (by show (1000 : Int) = ((ext (m2 twA) 6 []).length : Nat); rw [c20] <;> rfl) ⟨sm_of s20m.1, s20m.2⟩ E hE⟩
      · rw [decide_eq_false (by decide : ¬ twB = twA)]
        exact iteF ⟨by show 0 ≤ sizeLine; decide, fun E hE => fin 1100 (by show (1100 : Int) = ((ext (m2 twB) 6 []).length : Nat); rw [c21] <;> rfl) ⟨sm_of s21m.1, s21m.2⟩ E hE⟩
    refine ⟨_, rfl, p, 4, rfl, by decide, by decide, S1.hand, fun d H2 d0 d4 S2 => ⟨_, _, rfl, rfl, ?_⟩⟩
    have S02 := S1.trans S2
    obtain ⟨lv, hlv⟩ : ∃ lv, lv = 1 + d := ⟨_, rfl⟩
    have l1 : 1 ≤ lv ∧ lv ≤ 4 := by omega
    change (tSeq _ _ _ [some (.ref p), some (.int kd), none, none, none, none, none, none, none, none, some (.int (1 + d)), none, none, none, none, none] H2)
    rw [← hlv]
    refine ⟨_, rfl, _, rfl, by omega, by omega, fun D hD => ?_⟩
    have Dp : D ≠ p := ne_hand S02.hand hD
    refine lc_range (lo := 0) (n := lv.toNat) (fun i H' => Stp p H2 H' ∧ ∃ (acc : List V) (tb : List (List Int)), H' D = some (.lst acc) ∧ AllIn (RowAt K H') acc tb ∧ tb.length = i ∧ ∀ a : Nat, a < i → OneRow lv (a : Int) (gR tb (a : Int))) ⟨Stp.of S02.hand (Same.new hD), [], [], upd_same, AllIn.nil, rfl, fun a ha => absurd ha (Nat.not_lt_zero a)⟩ (fun i H3 hi g => ?_) fun H3 g => ?_
    · obtain ⟨S3, acc, tb, g1, g2, g3, g4⟩ := g
      refine ⟨rfl, _, rfl, _, rfl, by omega, by omega, fun D2 hD2 => ?_⟩
      have D2p : D2 ≠ p := ne_hand S3.hand hD2
      refine lc_range (lo := 0) (n := lv.toNat) (fun j H' => Stp p H3 H' ∧ ∃ l : List Int, H' D2 = some (.lst (l.map V.int)) ∧ l.length = j ∧ (∀ x ∈ l, 0 ≤ x ∧ x ≤ 1000) ∧ ∀ b : Int, 0 ≤ b → b < (j : Int) → (gI l b = 0 ↔ b ≠ (i : Int))) ⟨Stp.of S3.hand (Same.new hD2), [], upd_same, rfl, fun x hx => absurd hx List.not_mem_nil, fun b h0 h1 => absurd h1 (by omega)⟩ (fun j H4 hj g => ?_) fun H4 g => ?_
      · obtain ⟨S4, l, f1, f2, f3, f4⟩ := g
        refine ⟨rfl, _, rfl, _, rfl, rfl, .inr ⟨_, rfl, _, rfl, p, 3, rfl, by decide, by decide, S4.hand, fun e H5 e0 e3 S5 => ⟨_, _, rfl, rfl, _, _, rfl, rfl, .inl ⟨by split <;> decide, by split <;> decide⟩, ?_⟩⟩⟩
        rw [ei, Int.zero_add, Int.zero_add]
        obtain ⟨v, hv⟩ : ∃ v, v = (if decide ((i : Int) = (j : Int)) = true then (1 : Int) else 0) * (1 + e) := ⟨_, rfl⟩
        have v0 : 0 ≤ v ∧ v ≤ 1000 ∧ (v = 0 ↔ (j : Int) ≠ (i : Int)) := by
          by_cases c : (i : Int) = (j : Int)
          · rw [if_pos (decide_eq_true c), Int.one_mul] at hv
            omega
          · rw [if_neg (fun z => c (of_decide_eq_true z)), Int.zero_mul] at hv
            omega
        have f5 := S5.keep _ _ D2p f1
        refine ⟨_, f5, by rw [List.length_map, f2]; exact small1000 (by omega), (S4.trans S5).mut S3.hand hD2, l ++ [v], ?_, by rw [List.length_append, f2] <;> rfl, nums_snoc f3 v0.1 v0.2.1, fun b h0 h1 => ?_⟩
        · rw [upd_same, hv, List.map_append] <;> rfl
        · rw [gI_snoc h0 (by omega)]
          by_cases c : b = (l.length : Int)
          · rw [if_pos c, c, f2]
            exact v0.2.2
          · rw [if_neg c]
            exact f4 b h0 (by omega)
      · obtain ⟨S4, l, f1, f2, f3, f4⟩ := g
        refine ⟨D2, _, rfl, .inl ⟨SqL.of f1, fun B hB => ?_⟩⟩
        refine new_step hB fun H5 s5 e5 => ?_
        have S35 := S4.post s5
        have g5 := S35.keep _ _ Dp g1
        refine ⟨acc, g5, by rw [g2.1, g3]; exact small1000 (by omega), (S3.trans S35).mut S02.hand hD, acc ++ [.ref B], tb ++ [l], upd_same, ?_, by rw [List.length_append, g3] <;> rfl, fun a ha => ?_⟩
        · exact AllIn.snoc (g2.mono fun _ _ h => (rowAt_stp S35 S3.hand h).upd g5) (RowAt.upd g5 ⟨B, rfl, SqT.of e5⟩)
        · rw [gR_snoc (by omega)]
          by_cases c : a = tb.length
          · rw [if_pos c, c, g3]
            exact ⟨by omega, f3, fun b h0 h1 => f4 b h0 (by omega)⟩
          · rw [if_neg c]
            exact g4 a (by omega)
    obtain ⟨S3, acc, tb, g1, g2, g3, g4⟩ := g
    refine ⟨D, _, rfl, .inl ⟨SqL.of g1, fun T hT => ?_⟩⟩
    refine new_step hT fun H4 s4 e4 => ?_
    have S4 := S3.post s4
    have S04 := S02.trans S4
    have rT : RowsAt K H4 T tb := ⟨acc, SqT.of e4, g2.mono fun _ _ h => h.same s4⟩
    clear g1 g2 e4
    have tbr : ∀ l ∈ tb, (l.length : Int) = lv ∧ ∀ x ∈ l, 0 ≤ x ∧ x ≤ 1000 := fun l hl => by
      obtain ⟨a, ha, rfl⟩ := List.mem_iff_getElem.mp hl
      have z := g4 a (by omega)
      have e : gR tb (a : Int) = tb[a] := by
        unfold gR
        rw [Int.toNat_natCast, List.getD_eq_getElem?_getD, List.getElem?_eq_getElem ha] <;> rfl
      rw [e] at z
      exact ⟨z.1, z.2.1⟩
    -- the weights
    refine ⟨_, rfl, by decide, by decide, fun W hW => ?_⟩
    have W0 : H W = none := S04.free hW
    have Wp : W ≠ p := ne_hand hH W0
    refine lc_range (lo := 0) (n := 12) (fun i H' => Stp p H4 H' ∧ ∃ (acc : List V) (ws : List (List Int)), H' W = some (.lst acc) ∧ AllIn (RowAt K H') acc ws ∧ ws.length = i ∧ RowsIn lv ws ∧ ∀ l ∈ ws, ∀ x ∈ l, 1 ≤ x) ⟨Stp.of S04.hand (Same.new hW), [], [], upd_same, AllIn.nil, rfl, fun l hl => absurd hl List.not_mem_nil, fun l hl => absurd hl List.not_mem_nil⟩ (fun i H5 hi g => ?_) fun H5 g => ?_
    · obtain ⟨S5, acc, ws, g1, g2, g3, g4, g5⟩ := g
      refine ⟨rfl, _, rfl, _, rfl, by omega, by omega, fun D2 hD2 => ?_⟩
      have D2p : D2 ≠ p := ne_hand S5.hand hD2
      refine lc_range (lo := 0) (n := lv.toNat) (fun j H' => Stp p H5 H' ∧ ∃ l : List Int, H' D2 = some (.lst (l.map V.int)) ∧ l.length = j ∧ (∀ x ∈ l, 0 ≤ x ∧ x ≤ 1000) ∧ ∀ x ∈ l, 1 ≤ x) ⟨Stp.of S5.hand (Same.new hD2), [], upd_same, rfl, fun x hx => absurd hx List.not_mem_nil, fun x hx => absurd hx List.not_mem_nil⟩ (fun j H6 hj g => ?_) fun H6 g => ?_
      · obtain ⟨S6, l, f1, f2, f3, f4⟩ := g
        refine ⟨rfl, _, rfl, p, 2, rfl, by decide, by decide, S6.hand, fun e H7 e0 e2 S7 => ⟨_, _, rfl, rfl, _, S7.keep _ _ D2p f1, by rw [List.length_map, f2]; exact small1000 (by omega), (S6.trans S7).mut S5.hand hD2, l ++ [1 + e], ?_, by rw [List.length_append, f2] <;> rfl, nums_snoc f3 (by omega) (by omega), fun x hx => ?_⟩⟩
        · rw [upd_same, List.map_append] <;> rfl
        · rcases List.mem_append.mp hx with h | h
          · exact f4 x h
          · rw [List.mem_singleton.mp h]
            omega
      · obtain ⟨S6, l, f1, f2, f3, f4⟩ := g
        refine ⟨D2, _, rfl, .inl ⟨SqL.of f1, fun B hB => ?_⟩⟩
        refine new_step hB fun H7 s7 e7 => ?_
        have S57 := S6.post s7
        have g17 := S57.keep _ _ Wp g1
        refine ⟨acc, g17, by rw [g2.1, g3]; exact small1000 (by omega), (S5.trans S57).mut S04.hand hW, acc ++ [.ref B], ws ++ [l], upd_same, ?_, by rw [List.length_append, g3] <;> rfl, rowsIn_snoc g4 (by omega) f3, fun r hr => ?_⟩
        · exact AllIn.snoc (g2.mono fun _ _ h => (rowAt_stp S57 S5.hand h).upd g17) (RowAt.upd g17 ⟨B, rfl, SqT.of e7⟩)
        · rcases List.mem_append.mp hr with h | h
          · exact g5 r h
          · rw [List.mem_singleton.mp h]
            exact f4
    obtain ⟨S5, wac, ws, g1, g2, g3w, g4w, g5⟩ := g
    have S05 := S04.trans S5
    have rT5 := rowsAt_stp S5 S04.hand rT
    refine ⟨_, rfl, _, rfl, _, _, rfl, rfl, p, lv + 1, rfl, by omega, by omega, S05.hand, fun gn H6 q0 q1 S6 => ?_⟩
    have S06 := S05.trans S6
    have rT6 := rowsAt_stp S6 S05.hand rT5
    have g16 := S6.keep _ _ Wp g1
    have g26 : AllIn (RowAt K H6) wac ws := g2.mono fun _ _ => rowAt_stp S6 S05.hand
    refine ⟨_, rfl, _, rfl, by omega, by omega, fun D3 hD3 => ?_⟩
    refine lc_range (lo := 0) (n := lv.toNat) (fun i H' => Same H6 H' ∧ H' D3 = some (.lst ((((upI lv).take i).map fun v => if v = gn then (0 : Int) else 1).map V.int))) ⟨Same.new hD3, upd_same⟩ (fun i H7 hi g => ?_) fun H7 g => ?_
    · obtain ⟨s7, h7⟩ := g
      have put : ∀ x : Int, x = (if (i : Int) = gn then (0 : Int) else 1) → ∃ ac, H7 D3 = some (.lst ac) ∧ ac.length < sizeLine ∧ Same H6 (upd H7 D3 (.lst (ac ++ [.int x]))) ∧ upd H7 D3 (.lst (ac ++ [.int x])) D3 = some (.lst ((((upI lv).take (i + 1)).map fun v => if v = gn then (0 : Int) else 1).map V.int)) := fun x hx => by
        refine ⟨_, h7, by rw [List.length_map, List.length_map, List.length_take]; exact small1000 (Nat.le_trans (Nat.min_le_left _ _) (by omega)), s7.mut hD3, ?_⟩
        rw [upd_same, List.take_add_one, upI_get hi, List.map_append, List.map_append, hx] <;> rfl
      refine ⟨rfl, _, rfl, _, rfl, rfl, _, rfl, ?_⟩
      rw [ei, Int.zero_add]
      refine ite2 (fun c => put 0 (by rw [if_pos (of_decide_eq_true c)])) (fun c => put 1 (by rw [if_neg (fun z => c (decide_eq_true z))]))
    obtain ⟨s7, h7⟩ := g
    rw [List.take_of_length_le (by rw [up_len]; exact Nat.le_refl _)] at h7
    refine ⟨D3, _, rfl, .inl ⟨SqL.of h7, fun B hB => ?_⟩⟩
    refine new_step hB fun H8 s8 e8 => ?_
    have s68 := s7.trans s8
    have g18 := s68 _ _ g16
    have wl : wac.length = 12 := by rw [g2.1, g3w]
    refine ⟨_, rfl, W, _, _, 11, rfl, rfl, g18, Evl.ixN_nat (j := 11) (show 11 < wac.length by rw [wl]; decide), ?_⟩
    obtain ⟨last, hlast⟩ : ∃ l, l = (upI lv).map fun v => if v = gn then (0 : Int) else 1 := ⟨_, rfl⟩
    rw [← hlast] at e8
    have S08 : Stp p H H8 := S06.post s68
    have S09 : Stp p H (upd H8 W (.lst (wac.set 11 (.ref B)))) := S08.mut hH W0
    have r9 : AllIn (RowAt K (upd H8 W (.lst (wac.set 11 (.ref B))))) (wac.set 11 (.ref B)) (ws.set 11 last) := AllIn.set (g26.mono fun _ _ h => (h.same s68).upd g18) 11 (RowAt.upd g18 ⟨B, rfl, SqT.of e8⟩)
    have rT9 : RowsAt K (upd H8 W (.lst (wac.set 11 (.ref B)))) T tb := (rT6.same s68).upd g18
    obtain ⟨H9, hH9⟩ : ∃ G, G = upd H8 W (.lst (wac.set 11 (.ref B))) := ⟨_, rfl⟩
    have e9 : H9 W = some (.lst (wac.set 11 (.ref B))) := by rw [hH9]; exact upd_same
    rw [← hH9] at S09 r9 rT9 ⊢
    clear hH9
    intro dp hdp
    have dpp : dp ≠ p := ne_hand S09.hand hdp
    have sd : Same H9 (upd H9 dp (.dK [])) := Same.new hdp
    refine ⟨_, rfl, _, rfl, W, _, rfl, .inl ⟨SqL.of (sd _ _ e9), fun W' hW' => ?_⟩⟩
    refine new_step hW' fun H10 s10 e10 => ?_
    refine ⟨_, rfl, by decide, by decide, fun D4 hD4 => ?_⟩
    have rT10 := (rT9.same sd).same s10
    refine lc_range (lo := 0) (n := 11) (fun i H' => Same H10 H' ∧ ∃ acc : List V, H' D4 = some (.lst acc) ∧ AllIn (TieAt K H') acc ((T11 tb).take i)) ⟨Same.new hD4, [], upd_same, AllIn.nil⟩ (fun i H11 hi g => ?_) fun H11 g => ?_
    · obtain ⟨s11, acc, h11, a11⟩ := g
      refine ⟨rfl, _, rfl, _, rfl, _, _, rfl, rfl, _, rfl, by show 3 ≤ sizeLine; decide, fun q hq => ?_⟩
      refine new_step hq fun H12 s12 e12 => ?_
      have h12 := s12 _ _ h11
      have tg : (T11 tb).take (i + 1) = (T11 tb).take i ++ [((((i : Int), (i : Int) + 1), tb) : Tie)] := by
        have z : (T11 tb)[i]? = some ((((i : Int), (i : Int) + 1), tb) : Tie) := by
          unfold T11
          rw [List.getElem?_map, List.getElem?_range hi] <;> rfl
        rw [List.take_add_one, z] <;> rfl
      rw [Int.zero_add] at e12
      refine ⟨acc, h12, by rw [a11.1, List.length_take]; exact small1000 (Nat.le_trans (Nat.min_le_left _ _) (by omega)), (s11.trans s12).mut hD4, acc ++ [.ref q], upd_same, ?_⟩
      rw [tg]
      exact AllIn.snoc (a11.mono fun _ _ h => (h.same s12).upd h12) (TieAt.upd h12 ⟨q, T, rfl, SqT.of e12, (rT10.same s11).same s12⟩)
    obtain ⟨s11, acc4, h11, a11⟩ := g
    rw [List.take_of_length_le (by unfold T11; rw [List.length_map, List.length_range]; exact Nat.le_refl _)] at a11
    refine ⟨D4, _, rfl, .inl ⟨SqL.of h11, fun TT hTT => ?_⟩⟩
    refine new_step hTT fun H12 s12 e12 => ?_
    have s1012 := s11.trans s12
    have hdp12 : H12 dp = some (.dK []) := s1012 _ _ (s10 _ _ upd_same)
    have e1012 := s1012 _ _ e10
    refine ⟨hdp12, mdK 12 lv W' TT, rfl, (show 4 ≤ 15 by decide), ?_⟩
    rw [merge_app (mdK 12 lv W' TT) [] (md_keys _ _ _ _), List.nil_append]
    have sN : Same H9 (upd H12 dp (.dK (mdK 12 lv W' TT))) := ((sd.trans s10).trans s1012).mut hdp
    obtain ⟨H13, hH13⟩ : ∃ G, G = upd H12 dp (.dK (mdK 12 lv W' TT)) := ⟨_, rfl⟩
    have tk : ∀ {a : Addr} {xs : List V}, H12 a = some (.tup xs) → H13 a = some (.tup xs) := fun {a xs} e => by
      rw [hH13, upd_ne (fun z => by rw [z, hdp12] at e; cases e)]
      exact e
    have e13 : H13 dp = some (.dK (mdK 12 lv W' TT)) := by rw [hH13]; exact upd_same
    have tieK : ∀ {v : V} {t : Tie}, TieAt K H12 v t → TieAt K H13 v t := fun {v t} h => by
      have tupF : ∀ {a : Addr} {ys : List V}, SqT K H12 a ys → SqT K H13 a ys := fun {a ys} h => by
        rcases h with (z | ⟨q, z⟩) | z
        · exact .inl (.inl (tk z))
        · exact .inl (.inr ⟨q, by rw [hH13, upd_ne (ne_of z hdp12 (by intro y; cases y))]; exact z⟩)
        · exact .inr z
      obtain ⟨a, b, z1, z2, vs, z3, z4⟩ := h
      exact ⟨a, b, z1, tupF z2, vs, tupF z3, z4.mono fun _ _ ⟨c, y1, y2⟩ => ⟨c, y1, tupF y2⟩⟩
    rw [← hH13] at sN ⊢
    clear hH13
    have hM : DicAt K H13 dp ⟨12, lv, ws.set 11 last, T11 tb⟩ := ⟨W', TT, e13, ⟨_, SqT.of (tk e1012), r9.mono fun _ _ h => h.same sN⟩, acc4, SqT.of (tk e12), a11.mono fun _ _ h => tieK (h.same s12)⟩
    have S13 := S09.post sN
    have ll : (last.length : Int) = lv := by rw [hlast, List.length_map, up_len]; omega
    have lx : ∀ x ∈ last, 0 ≤ x ∧ x ≤ 1000 := fun x hx => by
      rw [hlast] at hx
      obtain ⟨v, _, rfl⟩ := List.mem_map.mp hx
      split <;> exact ⟨by decide, by decide⟩
    have rin : RowsIn lv (ws.set 11 last) := fun l hl => by
      rcases List.mem_or_eq_of_mem_set hl with h | h
      · exact g4w l h
      · rw [h]
        exact ⟨ll, lx⟩
    have tbl : tabB lv lv tb = true := rowOk_tab (by omega) tbr
    have tbn : tb ≠ [] ∧ ∀ l ∈ tb, l ≠ [] ∧ ∀ x ∈ l, 0 ≤ x := by
      refine ⟨fun z => by rw [z] at g3; have : 0 = lv.toNat := g3; omega, fun l hl => ?_⟩
      obtain ⟨a, b⟩ := tbr l hl
      refine ⟨fun z => ?_, fun x hx => (b x hx).1⟩
      rw [z] at a
      have : ((0 : Nat) : Int) = lv := a
      omega
    have sl : ((ws.set 11 last).length : Int) = 12 := by rw [List.length_set, g3w]; rfl
    obtain ⟨sm, wr⟩ := model_ok (many := 12) (levels := lv) (ws := ws.set 11 last) (ts := T11 tb) (ps := P11) ⟨by decide, by decide⟩ l1 sl rin (by unfold T11 P11; rw [List.map_map] <;> rfl) p11_ok (t11_ok tbl tbn)
    have gl : ∀ v ∈ upI lv, gI last v = if v = gn then 0 else 1 := fun v hv => by
      obtain ⟨v0, v1⟩ := upI_mem (n := lv) hv
      obtain ⟨n, rfl⟩ := Int.eq_ofNat_of_zero_le v0
      refine gI_get ?_
      rw [hlast, List.getElem?_map, upI_get (by omega)] <;> rfl
    have dg : Diag ⟨12, lv, ws.set 11 last, T11 tb⟩ tb gn := by
      refine ⟨rfl, fun j hj v hv => ?_, fun v hv => ?_, rfl, fun a ha b hb => ?_⟩
      · obtain ⟨v0, v1⟩ := upI_mem (n := lv) hv
        have jl : j < ws.length := by omega
        have hm : ws[j] ∈ ws := List.getElem_mem jl
        have e : wv ⟨12, lv, ws.set 11 last, T11 tb⟩ j v = gI ws[j] v := by
          unfold wv
          rw [List.getD_eq_getElem?_getD, List.getElem?_set_ne (by omega), List.getElem?_eq_getElem jl] <;> rfl
        rw [e]
        have z := (gI_in (lo := 1) (hi := 1001) (l := ws[j]) (i := v) v0 (by have := (g4w _ hm).1; omega) fun x hx => ⟨g5 _ hm x hx, by have := ((g4w _ hm).2 x hx).2; omega⟩).1
        omega
      · have e : wv ⟨12, lv, ws.set 11 last, T11 tb⟩ 11 v = gI last v := by
          unfold wv
          rw [List.getD_eq_getElem?_getD, List.getElem?_set_self (by omega)] <;> rfl
        rw [e, gl v hv]
        by_cases c : v = gn
        · rw [if_pos c]
          exact ⟨fun z => absurd z (by decide), fun z => absurd c z⟩
        · rw [if_neg c]
          exact ⟨fun _ => c, fun _ => by decide⟩
      · obtain ⟨a0, a1⟩ := upI_mem (n := lv) ha
        obtain ⟨b0, b1⟩ := upI_mem (n := lv) hb
        obtain ⟨n, rfl⟩ := Int.eq_ofNat_of_zero_le a0
        exact (g4 n (by omega)).2.2 b b0 b1
    have ex := diag_all dg
    have ex : ext (⟨12, lv, ws.set 11 last, T11 tb⟩ : Mdl) 12 [] = ((upI lv).filter fun v => !decide (v = gn)).map fun v => List.replicate 12 v := ex
    -- what is kept
    refine ⟨_, rfl, _, rfl, by omega, by omega, fun D5 hD5 => ?_⟩
    refine lc_range (lo := 0) (n := lv.toNat) (fun i H' => Same H13 H' ∧ ∃ ks : List V, H' D5 = some (.lst ks) ∧ AllIn (RowAt K H') ks ((((upI lv).take i).filter fun v => !decide (v = gn)).map fun v => List.replicate 12 v)) ⟨Same.new hD5, [], upd_same, AllIn.nil⟩ (fun i H14 hi g => ?_) fun H14 g => ?_
    · obtain ⟨s14, ks, h14, a14⟩ := g
      have fs := filter_snoc (f := fun v : Int => !decide (v = gn)) (upI_get hi)
      refine ⟨rfl, _, rfl, _, rfl, rfl, _, rfl, ?_⟩
      rw [ei, Int.zero_add]
      refine ite2 (fun c => ?_) (fun c => ?_)
      · rw [if_pos c] at fs
        refine ⟨_, rfl, by show 1 ≤ sizeLine; decide, fun q hq => ?_⟩
        refine new_step hq fun H15 s15 e15 => ?_
        refine ⟨q, 12, _, rfl, rfl, SqT.of e15, by simp, by decide, by decide, by show 1 ≤ 1000; decide, fun z => absurd z (by decide), fun z => absurd z (by decide), fun _ r hr => ?_⟩
        refine new_step hr fun H16 s16 e16 => ?_
        have e16 : H16 r = some (.tup ((List.replicate 12 (i : Int)).map V.int)) := by rw [List.map_replicate, ← flat_rep]; exact e16
        have h16 := (s15.trans s16) _ _ h14
        refine ⟨ks, h16, ?_, (s14.trans (s15.trans s16)).mut hD5, ks ++ [.ref r], upd_same, ?_⟩
        · have z := List.length_filter_le (fun v : Int => !decide (v = gn)) ((upI lv).take i)
          rw [List.length_take] at z
          rw [a14.1, List.length_map]
          exact small1000 (by omega)
        · rw [fs, List.map_append]
          exact AllIn.snoc (a14.mono fun _ _ h => (h.same (s15.trans s16)).upd h16) (RowAt.upd h16 ⟨r, rfl, SqT.of e16⟩)
      · rw [if_neg c, List.append_nil] at fs
        exact ⟨s14, ks, h14, by rw [fs]; exact a14⟩
    obtain ⟨s14, ks, h14, a14⟩ := g
    rw [List.take_of_length_le (by rw [up_len]; exact Nat.le_refl _), ← ex] at a14
    refine ⟨_, rfl, _, rfl, D5, _, rfl, .inl (SqL.of h14), _, rfl, by show 3 ≤ sizeLine; decide, fun A hA => ?_⟩
    have s15 : Same H14 (upd H14 A (.tup [.ref dp, .int (ks.length : Nat), .ref D5])) := Same.new hA
    exact k A dp D5 ⟨12, lv, ws.set 11 last, T11 tb⟩ (ks.length : Nat) _ ks _ (S13.post (s14.trans s15)) (SqT.of upd_same) dpp ((hM.same s14).same s15) sm wr (by rw [a14.1] <;> rfl) (s15 _ _ h14) (a14.mono fun _ _ h => h.same s15) (.inr rfl)
end
end Law

namespace Law
open PySem L2
def rLtTI (K : PySem.W.Frag) : R2 := fun x y H Q => ∃ (a b : Addr) (ns ms : List Int), x = .ref a ∧ y = .ref b ∧ SqT K H a (ns.map V.int) ∧ SqT K H b (ms.map V.int) ∧ Q (.bl (HT.lexLt ns ms)) H
theorem all_true : ∀ n, (List.replicate n true).all id = true
  | 0 => rfl
  | n + 1 => by rw [List.replicate_succ, List.all_cons, all_true n] <;> rfl
theorem rep_snocB (n : Nat) : (List.replicate n true).map V.bl ++ [.bl true] = (List.replicate (n + 1) true).map V.bl := by
  rw [List.replicate_succ', List.map_append] <;> rfl
theorem asc_get {l : List (List Int)} (h : l.Pairwise fun x y => HT.lexLt x y = true) {i : Nat} {a b : List Int} (ha : l[i]? = some a) (hb : l[i + 1]? = some b) : HT.lexLt a b = true := by
  obtain ⟨h1, rfl⟩ := List.getElem?_eq_some_iff.mp ha
  obtain ⟨h2, rfl⟩ := List.getElem?_eq_some_iff.mp hb
  exact List.pairwise_iff_getElem.mp h i (i + 1) h1 h2 (Nat.lt_succ_self i)
theorem fits_in {m : Mdl} (ok : MOk m) {f : List Int} (h : f ∈ ext m m.many.toNat []) : PicOk m f ∧ 0 < wt m f := by
  rw [ext_fits ok] at h
  obtain ⟨h1, h2⟩ := List.mem_filter.mp h
  exact ⟨pics_ok ok h1, of_decide_eq_true h2⟩
theorem lay_many : (PyData.tuple [.str "many", .int 1000]).canLay0 = true ∧ (PyData.tuple [.str "many", .int 1000]).depth ≤ 1 := by
  have h : PyData.strOk ("many" : Str) = true := by decide +kernel
  simp [PyData.canLay0, PyData.canLayAll0, PyData.depth, PyData.depthAll, h]
section
variable {P : Program} {w : World} {K : PySem.W.Frag} {mg : Str → Option Value} {base : Heap}
def spLaw (K : PySem.W.Frag) : Sp := fun vs H Q _ => ∃ (a : Addr) (ns : List Int), vs = [.ref a] ∧ SqL K H a (ns.map V.int) ∧ ns.length ≤ 63 ∧ ∀ H', Q (.bl true) H'
abbrev nLaw : List Str := ["_law_script", "_law_hand_here", "_law_turn", "_law_model_here", "_law_many", "_law_kept", "_law_made_here", "_law_word", "_law_told_here", "_law_at", "_law_picture"]
theorem scLaw : FnScope nLaw ["_law_script"] (defScope s_law) := ⟨rfl, rfl, rfl, by decide +kernel, rfl, by decide +kernel, by decide +kernel⟩
theorem ok_law {f : Addr} {fd : FuncData} {fcHand : Addr} {fdcHand : FuncData} {fcSmall : Addr} {fdcSmall : FuncData} {fcWide : Addr} {fdcWide : FuncData} {fcMade : Addr} {fdcMade : FuncData} {fcTold : Addr} {fdcTold : FuncData} {fcLWt : Addr} {fdcLWt : FuncData} {fcWt : Addr} {fdcWt : FuncData} {C : Addr} (F : Fun K "law" "law" s_law f fd) (T : NmA mg) (cHand : Cl P w K mg base CX0 1 "_law_hand" fcHand fdcHand ["_law_script"] (spHand K)) (cSmall : Cl P w K mg base CX0 17 "_law_is_small_right" fcSmall fdcSmall ["_law_hand_here"] (spSmall K)) (cWide : Cl P w K mg base CX0 2 "_law_wide" fcWide fdcWide ["_law_hand_here"] (spWide K)) (cMade : Cl P w K mg base CX0 8 "_law_made" fcMade fdcMade ["_law_model_here"] (spMade K C)) (cTold : Cl P w K mg base CX0 17 "_law_told" fcTold fdcTold ["_law_made_here"] (spTold K C)) (cLWt : Cl P w K mg base CX0 1 "_law_weight" fcLWt fdcLWt ["_law_model_here", "_law_picture"] (spLWt K)) (cWt : Cl P w K mg base CX0 5 "weight" fcWt fdcWt ["model", "picture"] (spWeight K C)) (S : ModT K mg C) : FnOk P w K mg base CX0 18 f fd ["_law_script"] (spLaw K) := by
  refine F.ok scLaw (fun vs H Q E h => ?_) (fun cdv A' outer s H vs Q E hr h => ?_)
  · obtain ⟨a, ns, rfl, _⟩ := h
    rfl
  · obtain ⟨a, ns, rfl, hN, h63, k⟩ := h
    have hu := hu_of hr
    refine ⟨_, pss_cons (ps_set (i := 1) scLaw.nd rfl (Or.inl rfl) (cHand.call (hr.mono (by decide)) (pa_cons (pv 0) pa_nil)))
      (pss_cons (ps_for PassesOwn.never rfl (pi_range1 (by rfl) T.range (pa_cons pe_int pa_nil)) (pg_name (i := 2) scLaw.nd rfl (Or.inl rfl))
        (pss_one (ps_if (pt_not (pt_val (cSmall.call (hr.mono (by decide)) (pa_cons (pv 1) pa_nil))))
          (pss_one (ps_ret pe_bl)) pss_nil)))
      (pss_cons (ps_asg (cWide.call (hr.mono (by decide)) (pa_cons (pv 1) pa_nil)) (pg_tup (by rfl) (pgs_cons (pg_name (i := 3) scLaw.nd rfl (Or.inr rfl)) (pgs_cons (pg_name (i := 4) scLaw.nd rfl (Or.inl rfl)) (pgs_cons (pg_name (i := 5) scLaw.nd rfl (Or.inl rfl)) pgs_nil)))))
      (pss_cons (ps_set (i := 6) scLaw.nd rfl (Or.inr rfl) (cMade.call (hr.mono (by decide)) (pa_cons (pv 3) pa_nil)))
      (pss_cons (ps_asg (cTold.call (hr.mono (by decide)) (pa_cons (pv 6) pa_nil)) (pg_tup (by rfl) (pgs_cons (pg_name (i := 7) scLaw.nd rfl (Or.inl rfl)) (pgs_cons (pg_name (i := 8) scLaw.nd rfl (Or.inr rfl)) pgs_nil))))
      (pss_cons (ps_if (pt_cmpR op_gt (pv 4) pe_int (nomark _))
        (pss_one (ps_ret (pe_cmpR (op_eqD hr.units) (pe_tup (pa_cons (pv 7) (pa_cons (pv 8) pa_nil))) (pe_tup (pa_cons pe_str (pa_cons pe_int pa_nil))) (nomark _)))) pss_nil)
      (pss_cons (ps_if (PW.pt (pw_or (pt_cmpR op_ne (pv 7) pe_str (nomark _)) (pw_or (pt_cmpR op_ne (pe_callB call_len_seq (by rfl) T.len PySem.boot_len (pa_cons (pv 8) pa_nil)) (pv 4) (nomark _)) (pw_or1 (PW.pt (pw_and (pt_cmpR op_gt (pe_callB call_len_seq (by rfl) T.len PySem.boot_len (pa_cons (pv 5) pa_nil)) pe_int (nomark _)) (pw_and1 (pt_cmpR (op_neD hr.units) (pv 8) (pv 5) (nomark _)))))))))
        (pss_one (ps_ret pe_bl)) pss_nil)
      (pss_cons (ps_if (pt_not (pt_val (pe_callB (cr_all rfl) (by rfl) T.all (by decide +kernel) (pa_cons (pe_lc (own := [("_law_at", 9)]) (g := (gName 9)) (tt := tYes) rfl scLaw.nd  (pi_range2 (by rfl) T.range (pa_cons pe_int (pa_cons (pv 4) pa_nil))) (blkOk_by (own := [("_law_at", 9)]) (N := nLaw) (sc := defScope s_law) (by decide +kernel)) (fun _ _ _ _ _ => (pg_name (i := 9) scLaw.nd rfl (Or.inl rfl))) (fun _ _ _ _ _ => pts_nil) (fun _ _ _ _ _ => (pe_cmpR (r := rLtT K) (show OpR _ (compareOp .Lt) (rLtT K) from op_ltT hr.units0) (pe_ix (r := rIxL K) (show IxR _ (rIxL K) from ix_list) (pv 8) (pe_op op_sub (pv 9) pe_int) (fun _ _ => rfl)) (pe_ix (r := rIxL K) (show IxR _ (rIxL K) from ix_list) (pv 8) (pv 9) (fun _ _ => rfl)) (nomark _)))) pa_nil))))
        (pss_one (ps_ret pe_bl)) pss_nil)
      (pss_one (ps_ret (pe_callB (cr_all rfl) (by rfl) T.all (by decide +kernel) (pa_cons (pe_lc (own := [("_law_picture", 10)]) (g := (gName 10)) (tt := tYes) rfl scLaw.nd  (pi_list (pv 8)) (blkOk_by (own := [("_law_picture", 10)]) (N := nLaw) (sc := defScope s_law) (by decide +kernel)) (fun _ _ _ _ _ => (pg_name (i := 10) scLaw.nd rfl (Or.inl rfl))) (fun _ _ _ _ _ => pts_nil) (fun _ _ _ _ _ => (pe_and (pe_cmpR op_eq (cWt.call (hr.mono (by decide)) (pa_cons (pv 6) (pa_cons (pv 10) pa_nil))) (cLWt.call (hr.mono (by decide)) (pa_cons (pv 3) (pa_cons (pv 10) pa_nil))) (nomark _)) (pe_one (pe_cmpR op_gt (cLWt.call (hr.mono (by decide)) (pa_cons (pv 3) (pa_cons (pv 10) pa_nil))) pe_int (nomark _)))))) pa_nil))))))))))), ?_⟩
    refine ⟨_, rfl, a, ns, rfl, hN, h63, fun p H1 hp s1 hH => ?_⟩
    refine ⟨_, rfl, by decide, by decide, ?_⟩
    refine for_range (lo := 0) (n := 2) (fun i σ H' => HandAt H' p ∧ ∃ u : Option V, σ = [some (.ref a), some (.ref p), u, none, none, none, none, none, none, none, none]) ⟨hH, none, rfl⟩ ?_ ?_
    · rintro i σ H2 hi ⟨h2, u, rfl⟩
      exact ⟨_, rfl, p, rfl, h2, fun H3 S3 => ⟨_, rfl, iteF ⟨S3.hand, _, rfl⟩⟩⟩
    rintro σ H2 ⟨h2, u, rfl⟩
    refine ⟨_, rfl, p, rfl, h2, fun t d kl m n kp ks H3 S3 ht dp hM sm wr hn hk ak hkp => ?_⟩
    have ok := MOk.of sm wr
    refine ⟨t, _, rfl, ht, rfl, _, _, rfl, _, _, rfl, _, _, rfl, rfl, ?_⟩
    refine ⟨_, rfl, d, m, rfl, hM, sm, wr, fun y H4 hy s4 hY => ?_⟩
    refine ⟨_, rfl, y, m, rfl, hY, ok, fun q H5 s5 hT => ?_⟩
    have hY5 := hY.same s5
    have hM5 := (hM.same s4).same s5
    have hk5 := s5 _ _ (s4 _ _ hk)
    have ak5 : AllIn (RowAt K H5) ks kp := ak.mono fun _ _ h => (h.same s4).same s5
    clear hM hY ht hk ak
    unfold TldAt at hT
    by_cases c : (ext m m.many.toNat []).length ≤ 1000
    · rw [if_pos c] at hT
      obtain ⟨L, ws, hq, eL, aL⟩ := hT
      refine ⟨q, _, rfl, hq, rfl, _, _, rfl, _, _, rfl, rfl, ?_⟩
      refine ⟨_, rfl, _, _, rfl, rfl, _, rfl, ?_⟩
      rw [decide_eq_false (by omega)]
      refine iteF ?_
      refine ⟨_, rfl, rfl, _, rfl, ?_⟩
      rw [decide_eq_true rfl]
      refine iteF ⟨_, rfl, L, _, rfl, .inl (SqL.of eL), _, rfl, rfl, _, rfl, ?_⟩
      rw [ei, aL.1, decide_eq_true hn.symm]
      refine iteF ?_
      refine ⟨_, rfl, kl, _, rfl, .inl (SqL.of hk5), _, _, rfl, rfl, _, rfl, ite2 (fun cc => ?_) (fun _ => ?_)⟩
      have cc := of_decide_eq_true cc
      have ek : kp = ext m m.many.toNat [] := hkp.resolve_left fun z => by
        have z2 := ak5.1
        rw [z] at z2
        have z3 : ks.length = 0 := z2
        omega
      refine ⟨_, rfl, _, rfl, listD _, listD _, dp_list eL aL, dp_list hk5 ak5, shaped_of (lay_listD _) (by decide), shaped_of (lay_listD _) (by decide), _, rfl, ?_⟩
      rw [ek, SeqAt.eqv_refl _ (lay_listD _).1]
      refine iteF ?_
      all_goals
        refine ⟨_, rfl, _, _, rfl, ⟨by omega, by omega, by omega, by omega⟩, fun D hD => ?_⟩
        refine lc_range (lo := 1) (n := (n - 1).toNat) (fun i H' => Same H5 H' ∧ H' D = some (.lst ((List.replicate i true).map V.bl))) ⟨Same.new hD, upd_same⟩ (fun i H6 hi g => ?_) fun H6 g => ?_
        · obtain ⟨s6, h6⟩ := g
          have eL6 := s6 _ _ eL
          have i1 : i < (ext m m.many.toNat []).length := by omega
          have i2 : i + 1 < (ext m m.many.toNat []).length := by omega
          have w1 : i < ws.length := by rw [aL.1]; exact i1
          have w2 : i + 1 < ws.length := by rw [aL.1]; exact i2
          obtain ⟨f1, hf1, b1, e1, r1⟩ := aL.2 i _ (List.getElem?_eq_getElem w1)
          obtain ⟨f2, hf2, b2, e2, r2⟩ := aL.2 (i + 1) _ (List.getElem?_eq_getElem w2)
          have at1 : atI ws ((1 : Int) + (i : Int) - 1) = some (.ref b1) := by
            rw [show (1 : Int) + (i : Int) - 1 = ((i : Nat) : Int) by omega]
            exact atI_nat (by rw [List.getElem?_eq_getElem w1, e1])
          have at2 : atI ws ((1 : Int) + (i : Int)) = some (.ref b2) := by
            rw [show (1 : Int) + (i : Int) = ((i + 1 : Nat) : Int) by omega]
            exact atI_nat (by rw [List.getElem?_eq_getElem w2, e2])
          refine ⟨rfl, _, rfl, _, rfl, _, _, rfl, rfl, L, _, _, _, rfl, rfl, SqL.of eL6, at1, _, rfl, _, rfl, L, _, _, _, rfl, rfl, SqL.of eL6, at2, b1, b2, f1, f2, rfl, rfl, s6.sqT r1, s6.sqT r2, _, h6, by rw [List.length_map, List.length_replicate]; exact small1000 (by omega), s6.mut hD, ?_⟩
          rw [upd_same, asc_get (ext_asc m m.many.toNat) hf1 hf2, rep_snocB]
        · obtain ⟨s6, h6⟩ := g
          refine ⟨D, _, rfl, SqL.of h6, _, rfl, ?_⟩
          rw [all_true]
          refine iteF ?_
          have eL6 := s6 _ _ eL
          refine ⟨_, rfl, L, rfl, ⟨_, SqL.of eL6⟩, fun D2 hD2 => ?_⟩
          refine lc_list (K := K) (a := L) (xs := ws) (fun i H' => Same H6 H' ∧ H' D2 = some (.lst ((List.replicate i true).map V.bl))) ⟨Same.new hD2, upd_same⟩ (fun i H' _ h => SqL.of (h.1 _ _ eL6)) (fun i x H7 hi g => ?_) fun H7 g => ?_
          · obtain ⟨s7, h7⟩ := g
            obtain ⟨f1, hf1, b1, rfl, r1⟩ := aL.2 i x hi
            obtain ⟨pf, wp⟩ := fits_in ok (List.mem_of_getElem? hf1)
            have i1 := (List.getElem?_eq_some_iff.mp hf1).1
            have s57 := s6.trans s7
            refine ⟨rfl, _, rfl, _, rfl, y, b1, m, f1, rfl, hY5.same s57, ok, s57.sqT r1, pf, fun H8 s8 => ?_⟩
            have s58 := s57.trans s8
            refine ⟨_, rfl, _, rfl, d, b1, m, f1, rfl, hM5.same s58, ok, s58.sqT r1, pf, fun H9 s9 => ⟨rfl, _, rfl, ?_⟩⟩
            have s59 := s58.trans s9
            rw [decide_eq_true rfl]
            refine iteT ⟨_, rfl, _, rfl, d, b1, m, f1, rfl, hM5.same s59, ok, s59.sqT r1, pf, fun H10 s10 => ⟨_, _, rfl, rfl, _, ((s8.trans s9).trans s10) _ _ h7, by rw [List.length_map, List.length_replicate]; exact small1000 (by omega), (s7.trans ((s8.trans s9).trans s10)).mut hD2, ?_⟩⟩
            show _ = some (HO.lst _)
            rw [upd_same, ← rep_snocB i]
            show some (HO.lst (_ ++ [V.bl (decide (0 < wt m f1))])) = _
            rw [decide_eq_true wp]
          · obtain ⟨s7, h7⟩ := g
            refine ⟨D2, _, rfl, SqL.of h7, ?_⟩
            rw [all_true]
            exact k H7
    · rw [if_neg c] at hT
      refine ⟨q, _, rfl, hT, rfl, _, _, rfl, _, _, rfl, rfl, ?_⟩
      refine ⟨_, rfl, _, _, rfl, rfl, _, rfl, ?_⟩
      rw [decide_eq_true (by omega)]
      refine iteT ⟨_, rfl, _, rfl, by show 2 ≤ sizeLine; decide, fun A1 hA1 => ?_⟩
      refine new_step hA1 fun H6 s6 e6 => ?_
      refine ⟨by show 2 ≤ sizeLine; decide, fun A2 hA2 => ?_⟩
      refine new_step hA2 fun H7 s7 e7 => ?_
      refine ⟨.tuple [.str "many", .int 1000], .tuple [.str "many", .int 1000], .tup (SqT.of (s7 _ _ e6)) (.cons (.str _) (.cons (.int _) .nil)), .tup (SqT.of e7) (.cons (.str _) (.cons (.int _) .nil)), ?_, ?_, ?_⟩
      · exact shaped_of (n := 1) lay_many (by decide)
      · exact shaped_of (n := 1) lay_many (by decide)
      · rw [SeqAt.eqv_refl _ lay_many.1]
        exact k H7
end
end Law

set_option maxHeartbeats 0
namespace Law
open PySem PySem.Spec PyProof.Rows L2
theorem ba3 {a b : Bool} (h : (a && b) = true) : a = true ∧ b = true := Bool.and_eq_true_iff.mp h
theorem optT_ok {o : Option Bool} (h : optT o = true) : o = some true := by
  cases o with
  | none => cases h
  | some b =>
    cases b with
    | true => rfl
    | false => cases h
section
variable {P : Program} {w : World} {K : PySem.W.Frag} {h : Heap} {mg : Str → Option Value} {base : Heap}
theorem facts {f : Addr} (tr : P.given.tree = none) (X : K.In h) (G : h.Ns mainGlobals mg) (hfa : mg ("law" : Str) = some (.ref f)) (c : He.SaysD fas fns K) (e : exK K = true) :
    ∃ fd : FuncData, (∀ (s : Shared) (v : Value), BindsTo s fd ⟨[v], []⟩ [("_law_script", v)]) ∧ ∀ base : Heap, K.In base → base.Ns mainGlobals mg → FnOk P w K mg base CX0 18 f fd ["_law_script"] (spLaw K) := by
  have eL := hfa.symm.trans (He.glo_ok X G (c.fact 32 (f := .glo "law") rfl))
  cases eL
  obtain ⟨e1, e⟩ := ba3 e
  obtain ⟨v1, e⟩ := ba3 e
  obtain ⟨i1, e⟩ := ba3 e
  obtain ⟨w1, e⟩ := ba3 e
  obtain ⟨d1, t1⟩ := ba3 e
  obtain ⟨x1, x2⟩ := ba3 e1
  obtain ⟨x2, x3⟩ := ba3 x2
  obtain ⟨x3, x4⟩ := ba3 x3
  obtain ⟨ia1, ia2⟩ := ba3 i1
  obtain ⟨d1, d2⟩ := ba3 d1
  obtain ⟨t1, t2⟩ := ba3 t1
  have T : NmA mg := ⟨He.free_ok X G (c.fact 34 (f := .free "abs") rfl), He.free_ok X G (c.fact 35 (f := .free "all") rfl), He.free_ok X G (c.fact 36 (f := .free "any") rfl), He.free_ok X G (c.fact 37 (f := .free "bool") rfl), He.free_ok X G (c.fact 38 (f := .free "enumerate") rfl), He.free_ok X G (c.fact 39 (f := .free "int") rfl), He.free_ok X G (c.fact 40 (f := .free "isinstance") rfl), He.free_ok X G (c.fact 41 (f := .free "len") rfl), He.free_ok X G (c.fact 42 (f := .free "list") rfl), He.free_ok X G (c.fact 43 (f := .free "max") rfl), He.free_ok X G (c.fact 44 (f := .free "range") rfl), He.free_ok X G (c.fact 45 (f := .free "sum") rfl), He.free_ok X G (c.fact 46 (f := .free "tuple") rfl), He.free_ok X G (c.fact 47 (f := .free "zip") rfl)⟩
  obtain ⟨fd_law, F_law⟩ := c.def_ 32 rfl
  have FD_law := F_law
  have F_law := funD_fun (st := s_law) F_law
  have B_law := F_law.binds (ps := ["_law_script"]) fun _ _ _ _ _ _ us hl => match us, hl with | [_], _ => rfl
  have M_law := He.glo_ok X G (c.fact 32 (f := .glo "law") rfl)
  obtain ⟨fd__law_hand, F__law_hand⟩ := c.def_ 17 rfl
  have FD__law_hand := F__law_hand
  have F__law_hand := funD_fun (st := s_law_hand) F__law_hand
  have B__law_hand := F__law_hand.binds (ps := ["_law_script"]) fun _ _ _ _ _ _ us hl => match us, hl with | [_], _ => rfl
  have M__law_hand := He.glo_ok X G (c.fact 17 (f := .glo "_law_hand") rfl)
  obtain ⟨fd__law_is_small_right, F__law_is_small_right⟩ := c.def_ 31 rfl
  have FD__law_is_small_right := F__law_is_small_right
  have F__law_is_small_right := funD_fun (st := s_law_is_small_right) F__law_is_small_right
  have B__law_is_small_right := F__law_is_small_right.binds (ps := ["_law_hand_here"]) fun _ _ _ _ _ _ us hl => match us, hl with | [_], _ => rfl
  have M__law_is_small_right := He.glo_ok X G (c.fact 31 (f := .glo "_law_is_small_right") rfl)
  obtain ⟨fd__law_draw, F__law_draw⟩ := c.def_ 18 rfl
  have FD__law_draw := F__law_draw
  have F__law_draw := funD_fun (st := s_law_draw) F__law_draw
  have B__law_draw := F__law_draw.binds (ps := ["_law_hand_here", "_law_many"]) fun _ _ _ _ _ _ us hl => match us, hl with | [_, _], _ => rfl
  have M__law_draw := He.glo_ok X G (c.fact 18 (f := .glo "_law_draw") rfl)
  obtain ⟨fd__law_model, F__law_model⟩ := c.def_ 22 rfl
  have FD__law_model := F__law_model
  have F__law_model := funD_fun (st := s_law_model) F__law_model
  have B__law_model := F__law_model.binds (ps := ["_law_hand_here", "_law_many", "_law_levels"]) fun _ _ _ _ _ _ us hl => match us, hl with | [_, _, _], _ => rfl
  have M__law_model := He.glo_ok X G (c.fact 22 (f := .glo "_law_model") rfl)
  obtain ⟨fd__law_number, F__law_number⟩ := c.def_ 20 rfl
  have FD__law_number := F__law_number
  have F__law_number := funD_fun (st := s_law_number) F__law_number
  have B__law_number := F__law_number.binds (ps := ["_law_hand_here"]) fun _ _ _ _ _ _ us hl => match us, hl with | [_], _ => rfl
  have M__law_number := He.glo_ok X G (c.fact 20 (f := .glo "_law_number") rfl)
  obtain ⟨fd__law_any, F__law_any⟩ := c.def_ 19 rfl
  have FD__law_any := F__law_any
  have F__law_any := funD_fun (st := s_law_any) F__law_any
  have B__law_any := F__law_any.binds (ps := ["_law_hand_here", "_law_things"]) fun _ _ _ _ _ _ us hl => match us, hl with | [_, _], _ => rfl
  have M__law_any := He.glo_ok X G (c.fact 19 (f := .glo "_law_any") rfl)
  obtain ⟨fd__law_pairs, F__law_pairs⟩ := c.def_ 21 rfl
  have FD__law_pairs := F__law_pairs
  have F__law_pairs := funD_fun (st := s_law_pairs) F__law_pairs
  have B__law_pairs := F__law_pairs.binds (ps := ["_law_hand_here", "_law_many", "_law_rare"]) fun _ _ _ _ _ _ us hl => match us, hl with | [_, _, _], _ => rfl
  have M__law_pairs := He.glo_ok X G (c.fact 21 (f := .glo "_law_pairs") rfl)
  obtain ⟨fd__law_made, F__law_made⟩ := c.def_ 26 rfl
  have FD__law_made := F__law_made
  have F__law_made := funD_fun (st := s_law_made) F__law_made
  have B__law_made := F__law_made.binds (ps := ["_law_model_here"]) fun _ _ _ _ _ _ us hl => match us, hl with | [_], _ => rfl
  have M__law_made := He.glo_ok X G (c.fact 26 (f := .glo "_law_made") rfl)
  obtain ⟨fd_Model___init__, F_Model___init__⟩ := c.def_ 6 rfl
  have FD_Model___init__ := F_Model___init__
  have F_Model___init__ := funD_fun (st := s_Model_init) F_Model___init__
  have B_Model___init__ := F_Model___init__.binds (ps := ["self", "many", "levels", "weights", "ties"]) fun _ _ _ _ _ _ us hl => match us, hl with | [_, _, _, _, _], _ => rfl
  obtain ⟨fd_is_within, F_is_within⟩ := c.def_ 1 rfl
  have FD_is_within := F_is_within
  have F_is_within := funD_fun (st := s_is_within) F_is_within
  have B_is_within := F_is_within.binds (ps := ["low", "high", "thing"]) fun _ _ _ _ _ _ us hl => match us, hl with | [_, _, _], _ => rfl
  have M_is_within := He.glo_ok X G (c.fact 1 (f := .glo "is_within") rfl)
  obtain ⟨fd_is_integer, F_is_integer⟩ := c.def_ 0 rfl
  have FD_is_integer := F_is_integer
  have F_is_integer := funD_fun (st := s_is_integer) F_is_integer
  have B_is_integer := F_is_integer.binds (ps := ["thing"]) fun _ _ _ _ _ _ us hl => match us, hl with | [_], _ => rfl
  have M_is_integer := He.glo_ok X G (c.fact 0 (f := .glo "is_integer") rfl)
  obtain ⟨fd_is_table, F_is_table⟩ := c.def_ 8 rfl
  have FD_is_table := F_is_table
  have F_is_table := funD_fun (st := s_is_table) F_is_table
  have B_is_table := F_is_table.binds (ps := ["rows", "columns", "thing"]) fun _ _ _ _ _ _ us hl => match us, hl with | [_, _, _], _ => rfl
  have M_is_table := He.glo_ok X G (c.fact 8 (f := .glo "is_table") rfl)
  obtain ⟨fd_is_row_below, F_is_row_below⟩ := c.def_ 2 rfl
  have FD_is_row_below := F_is_row_below
  have F_is_row_below := funD_fun (st := s_is_row_below) F_is_row_below
  have B_is_row_below := F_is_row_below.binds (ps := ["bound", "thing"]) fun _ _ _ _ _ _ us hl => match us, hl with | [_, _], _ => rfl
  have M_is_row_below := He.glo_ok X G (c.fact 2 (f := .glo "is_row_below") rfl)
  obtain ⟨fd_is_tie, F_is_tie⟩ := c.def_ 9 rfl
  have FD_is_tie := F_is_tie
  have F_is_tie := funD_fun (st := s_is_tie) F_is_tie
  have B_is_tie := F_is_tie.binds (ps := ["many", "levels", "thing"]) fun _ _ _ _ _ _ us hl => match us, hl with | [_, _, _], _ => rfl
  have M_is_tie := He.glo_ok X G (c.fact 9 (f := .glo "is_tie") rfl)
  obtain ⟨fd_ties_at, F_ties_at⟩ := c.def_ 10 rfl
  have FD_ties_at := F_ties_at
  have F_ties_at := funD_fun (st := s_ties_at) F_ties_at
  have B_ties_at := F_ties_at.binds (ps := ["ties", "place"]) fun _ _ _ _ _ _ us hl => match us, hl with | [_, _], _ => rfl
  have M_ties_at := He.glo_ok X G (c.fact 10 (f := .glo "ties_at") rfl)
  obtain ⟨fd__law_unlike, F__law_unlike⟩ := c.def_ 29 rfl
  have FD__law_unlike := F__law_unlike
  have F__law_unlike := funD_fun (st := s_law_unlike) F__law_unlike
  have B__law_unlike := F__law_unlike.binds (ps := ["_law_hand_here", "_law_model_here"]) fun _ _ _ _ _ _ us hl => match us, hl with | [_, _], _ => rfl
  have M__law_unlike := He.glo_ok X G (c.fact 29 (f := .glo "_law_unlike") rfl)
  obtain ⟨fd__law_pictures, F__law_pictures⟩ := c.def_ 23 rfl
  have FD__law_pictures := F__law_pictures
  have F__law_pictures := funD_fun (st := s_law_pictures) F__law_pictures
  have B__law_pictures := F__law_pictures.binds (ps := ["_law_many", "_law_levels"]) fun _ _ _ _ _ _ us hl => match us, hl with | [_, _], _ => rfl
  have M__law_pictures := He.glo_ok X G (c.fact 23 (f := .glo "_law_pictures") rfl)
  obtain ⟨fd_weight, F_weight⟩ := c.def_ 12 rfl
  have FD_weight := F_weight
  have F_weight := funD_fun (st := s_weight) F_weight
  have B_weight := F_weight.binds (ps := ["model", "picture"]) fun _ _ _ _ _ _ us hl => match us, hl with | [_, _], _ => rfl
  have M_weight := He.glo_ok X G (c.fact 12 (f := .glo "weight") rfl)
  obtain ⟨fd_is_picture, F_is_picture⟩ := c.def_ 11 rfl
  have FD_is_picture := F_is_picture
  have F_is_picture := funD_fun (st := s_is_picture) F_is_picture
  have B_is_picture := F_is_picture.binds (ps := ["model", "thing"]) fun _ _ _ _ _ _ us hl => match us, hl with | [_, _], _ => rfl
  have M_is_picture := He.glo_ok X G (c.fact 11 (f := .glo "is_picture") rfl)
  obtain ⟨fd__law_weight, F__law_weight⟩ := c.def_ 24 rfl
  have FD__law_weight := F__law_weight
  have F__law_weight := funD_fun (st := s_law_weight) F__law_weight
  have B__law_weight := F__law_weight.binds (ps := ["_law_model_here", "_law_picture"]) fun _ _ _ _ _ _ us hl => match us, hl with | [_, _], _ => rfl
  have M__law_weight := He.glo_ok X G (c.fact 24 (f := .glo "_law_weight") rfl)
  obtain ⟨fd__law_fitting, F__law_fitting⟩ := c.def_ 25 rfl
  have FD__law_fitting := F__law_fitting
  have F__law_fitting := funD_fun (st := s_law_fitting) F__law_fitting
  have B__law_fitting := F__law_fitting.binds (ps := ["_law_model_here"]) fun _ _ _ _ _ _ us hl => match us, hl with | [_], _ => rfl
  have M__law_fitting := He.glo_ok X G (c.fact 25 (f := .glo "_law_fitting") rfl)
  obtain ⟨fd_fitting, F_fitting⟩ := c.def_ 16 rfl
  have FD_fitting := F_fitting
  have F_fitting := funD_fun (st := s_fitting) F_fitting
  have B_fitting := F_fitting.binds (ps := ["model"]) fun _ _ _ _ _ _ us hl => match us, hl with | [_], _ => rfl
  have M_fitting := He.glo_ok X G (c.fact 16 (f := .glo "fitting") rfl)
  obtain ⟨fd_first_fitting, F_first_fitting⟩ := c.def_ 15 rfl
  have FD_first_fitting := F_first_fitting
  have F_first_fitting := funD_fun (st := s_first_fitting) F_first_fitting
  have B_first_fitting := F_first_fitting.binds (ps := ["model", "most"]) fun _ _ _ _ _ _ us hl => match us, hl with | [_, _], _ => rfl
  have M_first_fitting := He.glo_ok X G (c.fact 15 (f := .glo "first_fitting") rfl)
  obtain ⟨fd_fitting_from, F_fitting_from⟩ := c.def_ 14 rfl
  have FD_fitting_from := F_fitting_from
  have F_fitting_from := funD_fun (st := s_fitting_from) F_fitting_from
  have B_fitting_from := F_fitting_from.binds (ps := ["model", "begun", "most", "dead"]) fun _ _ _ _ _ _ us hl => match us, hl with | [_, _, _, _], _ => rfl
  have M_fitting_from := He.glo_ok X G (c.fact 14 (f := .glo "fitting_from") rfl)
  obtain ⟨fd_goes_on, F_goes_on⟩ := c.def_ 13 rfl
  have FD_goes_on := F_goes_on
  have F_goes_on := funD_fun (st := s_goes_on) F_goes_on
  have B_goes_on := F_goes_on.binds (ps := ["model", "begun", "value"]) fun _ _ _ _ _ _ us hl => match us, hl with | [_, _, _], _ => rfl
  have M_goes_on := He.glo_ok X G (c.fact 13 (f := .glo "goes_on") rfl)
  obtain ⟨fd_Model___eq__, F_Model___eq__⟩ := c.def_ 7 rfl
  have FD_Model___eq__ := F_Model___eq__
  have F_Model___eq__ := funD_fun (st := s_Model_eq) F_Model___eq__
  have B_Model___eq__ := F_Model___eq__.binds (ps := ["self", "other"]) fun _ _ _ _ _ _ us hl => match us, hl with | [_, _], _ => rfl
  obtain ⟨fd__law_wide, F__law_wide⟩ := c.def_ 27 rfl
  have FD__law_wide := F__law_wide
  have F__law_wide := funD_fun (st := s_law_wide) F__law_wide
  have B__law_wide := F__law_wide.binds (ps := ["_law_hand_here"]) fun _ _ _ _ _ _ us hl => match us, hl with | [_], _ => rfl
  have M__law_wide := He.glo_ok X G (c.fact 27 (f := .glo "_law_wide") rfl)
  obtain ⟨fd__law_plain, F__law_plain⟩ := c.def_ 28 rfl
  have FD__law_plain := F__law_plain
  have F__law_plain := funD_fun (st := s_law_plain) F__law_plain
  have B__law_plain := F__law_plain.binds (ps := ["_law_rows"]) fun _ _ _ _ _ _ us hl => match us, hl with | [_], _ => rfl
  have M__law_plain := He.glo_ok X G (c.fact 28 (f := .glo "_law_plain") rfl)
  obtain ⟨fd__law_told, F__law_told⟩ := c.def_ 30 rfl
  have FD__law_told := F__law_told
  have F__law_told := funD_fun (st := s_law_told) F__law_told
  have B__law_told := F__law_told.binds (ps := ["_law_made_here"]) fun _ _ _ _ _ _ us hl => match us, hl with | [_], _ => rfl
  have M__law_told := He.glo_ok X G (c.fact 30 (f := .glo "_law_told") rfl)
  have z1 := He.exm_ok (c.fact 56 (f := .exm "TooMany" "TooMany" true) rfl)
  have ME := He.meth_ok (c.fact 54 (f := .meth "Model" "__eq__") rfl)
  have MK := He.mkr_ok (c.fact 53 (f := .mkr "Model") rfl)
  have Y : ModT K mg (He.ga K "Model") := ⟨He.cls_ok (c.fact 48 (f := .cls "Model") rfl), He.noat_ok (c.fact 49 (f := .noat "Model" "many") rfl), He.noat_ok (c.fact 50 (f := .noat "Model" "levels") rfl), He.noat_ok (c.fact 51 (f := .noat "Model" "weights") rfl), He.noat_ok (c.fact 52 (f := .noat "Model" "ties") rfl), He.glo_ok X G (c.fact 7 (f := .glo "Model") rfl), He.eqO_ok x1, He.eqO_ok x2, optT_ok x3, optT_ok x4⟩
  obtain ⟨fd_tm, F_tm⟩ := c.def_ 4 rfl
  have F_tm := funD_fun (st := s_TooMany_init) F_tm
  have bla := FunD.bindsA (ps := ["_law_script"]) FD_law fun _ _ _ _ _ _ us hl => match us, hl with | [_], _ => rfl
  refine ⟨fd_law, fun s v => bla s [v] rfl, fun base KB GB => ?_⟩
  have noM : PySem.W.findIn K (.ref (He.ga K "TooMany")) "most" = some none := He.noat_ok (c.fact 55 (f := .noat "TooMany" "most") rfl)
  have ETM : Er1 P w K mg base "TooMany" (He.ga K "TooMany") "most" := ⟨exvB_ok v1, He.glo_ok X G (c.fact 5 (f := .glo "TooMany") rfl), noM, _, fd_tm, _, He.eqO_ok ia1, of_decide_eq_true ia2, ok_E1 (P := P) (w := w) (mg := mg) (base := base) F_tm (exvB_ok v1).ox noM, F_tm.binds fun _ _ _ _ _ _ us hl => match us, hl with | [_, _], _ => rfl⟩
  have k_hand : Cl P w K mg base CX0 1 "_law_hand" _ fd__law_hand ["_law_script"] (spHand K) := ⟨ok_hand F__law_hand T, B__law_hand, M__law_hand, F__law_hand.kp⟩
  have k_draw : Cl P w K mg base CX0 1 "_law_draw" _ fd__law_draw ["_law_hand_here", "_law_many"] spDraw := ⟨ok_draw F__law_draw T, B__law_draw, M__law_draw, F__law_draw.kp⟩
  have k_any : Cl P w K mg base CX0 2 "_law_any" _ fd__law_any ["_law_hand_here", "_law_things"] (spAny K) := ⟨ok_any F__law_any T k_draw, B__law_any, M__law_any, F__law_any.kp⟩
  have k_number : Cl P w K mg base CX0 3 "_law_number" _ fd__law_number ["_law_hand_here"] spNum := ⟨ok_number F__law_number T k_any k_draw, B__law_number, M__law_number, F__law_number.kp⟩
  have k_pairs : Cl P w K mg base CX0 2 "_law_pairs" _ fd__law_pairs ["_law_hand_here", "_law_many", "_law_rare"] (spPairs K) := ⟨ok_pairs F__law_pairs T k_draw, B__law_pairs, M__law_pairs, F__law_pairs.kp⟩
  have k_model : Cl P w K mg base CX0 4 "_law_model" _ fd__law_model ["_law_hand_here", "_law_many", "_law_levels"] (spModel K) := ⟨ok_model F__law_model T k_draw k_number k_pairs k_any, B__law_model, M__law_model, F__law_model.kp⟩
  have k_isint : Cl P w K mg base CX0 1 "is_integer" _ fd_is_integer ["thing"] (spIsInt K) := ⟨ok_isint F_is_integer T, B_is_integer, M_is_integer, F_is_integer.kp⟩
  have k_within : Cl P w K mg base CX0 2 "is_within" _ fd_is_within ["low", "high", "thing"] (spWithin K) := ⟨ok_within F_is_within k_isint, B_is_within, M_is_within, F_is_within.kp⟩
  have k_rowI : Cl P w K mg base CX0 3 "is_row_below" _ fd_is_row_below ["bound", "thing"] (spRowI K) := ⟨ok_rowI F_is_row_below T k_within, B_is_row_below, M_is_row_below, F_is_row_below.kp⟩
  have k_is_table : Cl P w K mg base CX0 4 "is_table" _ fd_is_table ["rows", "columns", "thing"] (spTable K) := ⟨ok_is_table F_is_table T k_rowI, B_is_table, M_is_table, F_is_table.kp⟩
  have k_is_tie : Cl P w K mg base CX0 5 "is_tie" _ fd_is_tie ["many", "levels", "thing"] (spTie K) := ⟨ok_is_tie F_is_tie T k_is_table k_within, B_is_tie, M_is_tie, F_is_tie.kp⟩
  have k_ties_at : Cl P w K mg base CX0 1 "ties_at" _ fd_ties_at ["ties", "place"] (spTiesAt K) := ⟨ok_ties_at F_ties_at T, B_ties_at, M_ties_at, F_ties_at.kp⟩
  have g_minitN := ok_minitN (P := P) (w := w) (base := base) F_Model___init__ T k_within k_is_table k_is_tie k_ties_at Y
  have k_made : Cl P w K mg base CX0 8 "_law_made" _ fd__law_made ["_law_model_here"] (spMade K (He.ga K "Model")) := ⟨ok_made F__law_made T MK g_minitN B_Model___init__ Y, B__law_made, M__law_made, F__law_made.kp⟩
  have k_unlike : Cl P w K mg base CX0 2 "_law_unlike" _ fd__law_unlike ["_law_hand_here", "_law_model_here"] (spUnl K) := ⟨ok_unlike F__law_unlike T k_draw, B__law_unlike, M__law_unlike, F__law_unlike.kp⟩
  have k_pictures : Cl P w K mg base CX0 1 "_law_pictures" _ fd__law_pictures ["_law_many", "_law_levels"] (spPics K) := ⟨ok_pictures F__law_pictures T, B__law_pictures, M__law_pictures, F__law_pictures.kp⟩
  have k_is_picture : Cl P w K mg base CX0 4 "is_picture" _ fd_is_picture ["model", "thing"] (spIsPic K (He.ga K "Model")) := ⟨ok_is_picture F_is_picture T k_rowI Y, B_is_picture, M_is_picture, F_is_picture.kp⟩
  have k_weight : Cl P w K mg base CX0 5 "weight" _ fd_weight ["model", "picture"] (spWeight K (He.ga K "Model")) := ⟨ok_weight F_weight T k_is_picture Y, B_weight, M_weight, F_weight.kp⟩
  have k_lweight : Cl P w K mg base CX0 1 "_law_weight" _ fd__law_weight ["_law_model_here", "_law_picture"] (spLWt K) := ⟨ok_lweight F__law_weight T, B__law_weight, M__law_weight, F__law_weight.kp⟩
  have k_lfitting : Cl P w K mg base CX0 2 "_law_fitting" _ fd__law_fitting ["_law_model_here"] (spLFit K) := ⟨ok_lfitting F__law_fitting T k_pictures k_lweight, B__law_fitting, M__law_fitting, F__law_fitting.kp⟩
  have k_goes_on : Cl P w K mg base CX0 1 "goes_on" _ fd_goes_on ["model", "begun", "value"] (spGoes K (He.ga K "Model")) := ⟨ok_goes_on F_goes_on T Y, B_goes_on, M_goes_on, F_goes_on.kp⟩
  have k_ff12 : Cl P w K mg base CX0 14 "fitting_from" _ fd_fitting_from ["model", "begun", "most", "dead"] (spFF12 P w K (He.ga K "Model")) := ⟨ok_ff12 F_fitting_from T k_goes_on Y B_fitting_from M_fitting_from F_fitting_from.kp, B_fitting_from, M_fitting_from, F_fitting_from.kp⟩
  have k_first_fitting : Cl P w K mg base CX0 15 "first_fitting" _ fd_first_fitting ["model", "most"] (spFirst K (He.ga K "Model")) := ⟨ok_first_fitting F_first_fitting T k_ff12, B_first_fitting, M_first_fitting, F_first_fitting.kp⟩
  have k_fit0 : Cl P w K mg base CX0 16 "fitting" _ fd_fitting ["model"] (spFit0 K (He.ga K "Model")) := ⟨ok_fit0 F_fitting T k_first_fitting, B_fitting, M_fitting, F_fitting.kp⟩
  have g_meqx := ok_meqx (P := P) (w := w) (base := base) F_Model___eq__ T Y (of_decide_eq_true t1) (of_decide_eq_true d1)
  have k_is_small_right : Cl P w K mg base CX0 17 "_law_is_small_right" _ fd__law_is_small_right ["_law_hand_here"] (spSmall K) := ⟨ok_is_small_right F__law_is_small_right T k_draw k_model k_made k_unlike k_pictures k_any k_weight k_lweight k_lfitting k_fit0 Y g_meqx B_Model___eq__ ME.at_ ME.fn (He.eqO_ok w1) t2 d2, B__law_is_small_right, M__law_is_small_right, F__law_is_small_right.kp⟩
  have k_plain : Cl P w K mg base CX0 1 "_law_plain" _ fd__law_plain ["_law_rows"] (spPlain K) := ⟨ok_plain F__law_plain T, B__law_plain, M__law_plain, F__law_plain.kp⟩
  have k_wide : Cl P w K mg base CX0 2 "_law_wide" _ fd__law_wide ["_law_hand_here"] (spWide K) := ⟨ok_wide F__law_wide T k_draw k_plain, B__law_wide, M__law_wide, F__law_wide.kp⟩
  have k_fitx : ClX P w K mg base 16 "fitting" _ fd_fitting ["model"] (spFitX K (He.ga K "Model") (He.ga K "TooMany")) := ⟨ok_fitx F_fitting T k_first_fitting ETM, B_fitting, M_fitting, F_fitting.kp⟩
  have k_told : Cl P w K mg base CX0 17 "_law_told" _ fd__law_told ["_law_made_here"] (spTold K (He.ga K "Model")) := ⟨ok_told F__law_told k_fitx ETM z1, B__law_told, M__law_told, F__law_told.kp⟩
  exact ok_law F_law T k_hand k_is_small_right k_wide k_made k_told k_lweight k_weight Y
end
end Law
open PySem PySem.W PySem.Calls PyProof.Rows
theorem PySem.Challenge.cw_asifforever_k24_whole_weights_and_what_f_holds : PySem.Challenge.rw_asifforever_k24_whole_weights_and_what_f.Holds := by
  w_on; o_law
  refine HandSHeadRun.head_any (r := OpenLaw.row PySem.Challenge.rw_asifforever_k24_whole_weights_and_what_f) (q := view (OpenLaw.row PySem.Challenge.rw_asifforever_k24_whole_weights_and_what_f).prog [36]) (H := Law.hk) (ob := Law.ob) (M := 13000) (loose := Law.names) (d := HandSHeadRun.topDef (OpenLaw.row PySem.Challenge.rw_asifforever_k24_whole_weights_and_what_f).prog 36) (kwd := []) Law.ob_eq
    (by kernel_rfl) (fun s => by kernel_rfl) Law.run (by kernel_rfl) (by kernel_rfl) (by kernel_rfl) (by rfl) (by first | assumption | decide +kernel) (by decide +kernel) ⟨rfl, rfl, rfl, rfl, rfl, by decide +kernel⟩ ?hw ?hc
  case hw => w_witness2
  case hc =>
    refine L2.walk_ofE (l := PySem.Challenge.rw_asifforever_k24_whole_weights_and_what_f) (n := 63) (k := 18) (x := "_law_script") (CX := L2.CX0) rfl (by decide) (by kernel_rfl) ⟨rfl, by decide, by decide⟩ ?F (fun _ _ _ _ z => z)
    intro w mg fa h Y G hmg0
    obtain ⟨K, KX, c, e⟩ := Y
    have hmg : mg ("law" : PySem.Str) = some (.ref fa) := by
      have e : (HandSHeadRun.topDef (OpenLaw.row PySem.Challenge.rw_asifforever_k24_whole_weights_and_what_f).prog 36).name = ("law" : PySem.Str) := by kernel_rfl
      rw [← e]
      exact hmg0
    obtain ⟨fd, hb, hF⟩ := Law.facts (P := (PySem.Challenge.rw_asifforever_k24_whole_weights_and_what_f).prog) (w := w) (by rfl) KX G hmg c e
    exact ⟨K, fd, Law.spLaw K, KX, hb, fun H a ns hl _ hS => ⟨a, ns, rfl, hS, hl, fun _ => rfl⟩, hF⟩

