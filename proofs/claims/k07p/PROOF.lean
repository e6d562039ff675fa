import PyProof.Rows.All
import Wide.All
import OpenK.AllK
import Wide.FinOn
import HandS.Head0
import HandS.Head1
import HandS.Head2
import HandS.HeadEnd
import HandS.HeadHook1
import HandS.HeadHook2
import PySem.Challenge.RW_stilewalks_k07_shows_among_any_values
import HandS.Head3
import HandS.Words
import HandS.ForMost
import HandS.ForExc
import HandS.Walk
import HandS.TupAny
import HandS.TupMul
import HandS.Zip
import HandS.Wide
import HandS.Evl
import KE.KDictKeyed
import KE.KeyNested
import KE.SortData
import HandS.IsInst
import HandS.Style
import HandS.Ends
import PyProof.ReprRoads
import KE.KStateDown
import HandS.Dict
import KE.KDictCopyH
import KE.KDictWalk
import KE.KDictSum
import HandS.Iter
import KE.LtData
import HandS.ExcValue
import HandS.ExcOwn
import HandS.TupLen
import KE.DataCmp
import KE.KRevSl
import PyProof.EnumMake
import KE.GoesMore
import HandS.RaiseMore
import KE.KDictDisplayH
import HandS.More
set_option Elab.async false
set_option linter.all false
set_option maxRecDepth 100000
set_option maxHeartbeats 4000000
set_option exponentiation.threshold 4000
namespace DW
open PySem PySem.Spec PyProof.Rows L2
/-- a head by facts: what the defs and names say, and one more look -/
def SaysX (fa : List He.Fa) (fn : List He.DefD) (g : PySem.W.Frag → Bool) (K : PySem.W.Frag) : Prop := He.SaysD fa fn K ∧ g K = true
/-- the globals, and n addresses from the boot on -/
def asR (n : Nat) : List Addr := mainGlobals :: List.range' 100 n
def obsXG (n : Nat) (fa : List He.Fa) (fn : List He.DefD) (g : PySem.W.Frag → Bool) (q : Addr → Option Obj) : He.AlD × Bool := (He.obsD fa fn (He.frG q (asR n)), g (He.frG q (asR n)))
def hookX (n : Nat) (fa : List He.Fa) (fn : List He.DefD) (g : PySem.W.Frag → Bool) : PySem.W.Hook where
  α := He.AlD × Bool
  obs := fun s => obsXG n fa fn g s.heap.get?
  val := fun _ => (He.valD fn, true)
  says := fun _ h => ∃ K : PySem.W.Frag, K.In h ∧ SaysX fa fn g K
  of := fun _ s e => ⟨_, He.frG_in, congrArg Prod.fst e, congrArg Prod.snd e⟩
  keeps := fun _ _ _ ⟨K, hK, c⟩ k => ⟨K, PySem.W.Frag.In.keeps hK k, c⟩
theorem obsXG_eq {n : Nat} {fa : List He.Fa} {fn : List He.DefD} {g : PySem.W.Frag → Bool} {q : Addr → Option Obj} {s : Shared} (h : ∀ a, q a = s.heap.get? a) : obsXG n fa fn g q = (hookX n fa fn g).obs s := by
  have e : q = s.heap.get? := funext h
  rw [e] <;> rfl
/-- the looks at a class House: isinstance says no of the kinds -/
def plainB (K : PySem.W.Frag) (C : Addr) : Bool :=
  PySem.W.plainGet K C Str.empty && (PySem.W.hasDictIn K C && (PySem.W.plainOver K C && (decide (PySem.W.findIn K (.ref C) "__setattr__" = some (some (.builtin "object.__setattr__"))) && (decide (PySem.W.findIn K (.ref C) "__class__" = some (some (.builtin "object.__class__"))) &&
  (decide (PySem.W.specialIn K (.builtin "object.__class__") "__get__" = some (some (.builtin "getset_descriptor.__get__"))) && (decide (PySem.W.takesIn K (.builtin "object.__class__") = some true) && (decide (PySem.W.mroIn K C (.type "object") = some true) &&
  (decide (PySem.W.subIn K (.ref C) (.type "tuple") = some false) && (decide (PySem.W.subIn K (.ref C) (.type "int") = some false) && (decide (PySem.W.subIn K (.ref C) (.type "bool") = some false) && decide (PySem.W.subIn K (.ref C) (.type "str") = some false)))))))))))
end DW
namespace A7
open PySem PySem.Spec PyProof.Rows L2 DW PySem.W
def topH (i : Nat) : Stmt := PySem.Challenge.pw_stilewalks_k07_shows_among_any_values.main.body.getD i (.Pass ⟨0, 0, 0, 0⟩)
abbrev dd (x : Str) (i : Nat) : He.DefD := ⟨(x, none), x, x, defArgs (topH i), defBody (topH i), defScope (topH i), [], []⟩
abbrev dI : He.DefD := ⟨("House", some "__init__"), "__init__", "House.__init__", defArgs (inClass (topH 77) 0), defBody (inClass (topH 77) 0), defScope (inClass (topH 77) 0), [], []⟩
def hfn0 : List He.DefD := [dd "is_whole" 11, dd "is_direction" 13, dd "is_room" 21, dd "is_passage" 27, dd "is_triple" 28, dd "is_show" 29, dd "_law_draw" 81, dd "_law_pick" 82, dd "_law_directions" 83, dd "_law_step" 89, dd "_law_undone" 90, dd "_law_next" 92]
def hfn1 : List He.DefD := [dd "_law_great" 97, dd "_law_room" 98, dd "_law_listed" 93, dd "_law_row" 91, dd "_law_show" 94, dd "_law_free" 99, dd "_law_deck" 80, dd "_law_any" 84, dd "_law_odd" 85, dd "_law_bent" 86, dd "_law_is_integer" 87, dd "_law_is_room" 88]
def hfn2 : List He.DefD := [dd "_law_is_show" 95, dd "_law_spoilt" 100, dd "_law_turned" 101, dd "_law_is_small" 96, dd "_law_is_told" 102, dd "law" 103, dI]
def hfn : List He.DefD := hfn0 ++ (hfn1 ++ (hfn2))
def hfa0 : List He.Fa := [.glo "is_whole", .glo "is_direction", .glo "is_room", .glo "is_passage", .glo "is_triple", .glo "is_show", .glo "_law_draw", .glo "_law_pick", .glo "_law_directions", .glo "_law_step", .glo "_law_undone", .glo "_law_next"]
def hfa1 : List He.Fa := [.glo "_law_great", .glo "_law_room", .glo "_law_listed", .glo "_law_row", .glo "_law_show", .glo "_law_free", .glo "_law_deck", .glo "_law_any", .glo "_law_odd", .glo "_law_bent", .glo "_law_is_integer", .glo "_law_is_room"]
def hfa2 : List He.Fa := [.glo "_law_is_show", .glo "_law_spoilt", .glo "_law_turned", .glo "_law_is_small", .glo "_law_is_told", .glo "law", .free "isinstance", .free "int", .free "bool", .free "tuple", .free "zip", .free "all"]
def hfa3 : List He.Fa := [.free "len", .free "sorted", .free "list", .free "max", .free "min", .free "range", .free "abs", .free "repr", .free "enumerate", .free "str", .glo "House", .mkr "House"]
def hfa4 : List He.Fa := [.noat "House" "r", .noat "House" "rows", .noat "House" "vows", .noat "House" "done", .noat "House" "undone"]
def hfa : List He.Fa := hfa0 ++ (hfa1 ++ (hfa2 ++ (hfa3 ++ (hfa4))))
def hnm0 : List Str := ["_wall", "StileError", "BadRow", "BadPassage", "BadShow", "BadNumber", "NoName", "Broken", "is_whole", "is_step", "is_direction", "beginning", "room_plus", "room_less", "room_times", "neighbour", "is_ahead", "is_room", "is_row", "check_row", "backwards", "row_end", "is_passage", "is_triple", "is_show", "check_show", "add_number", "show_with", "show_of", "moved_by"]
def hnm1 : List Str := ["plus_times", "number_in", "along", "first_along", "rolled_by", "moved_along", "unlike_passage", "divided_along", "straight_row", "row_around", "show_pieces", "row_with", "distance", "steps_of_show", "all_steps", "is_led", "leading_rooms", "rooms_to_test", "judge_led", "leader", "nearest_along", "check_row_and_number", "judge_part", "divided_room", "less_moved_show", "unlike_when_moved", "part_of", "root_of", "is_either_order", "between_orders"]
def hnm2 : List Str := ["judge_order", "quotient_along", "is_name_in", "against", "against_alike", "House", "rows_with", "_law_deck", "_law_draw", "_law_pick", "_law_directions", "_law_any", "_law_odd", "_law_bent", "_law_is_integer", "_law_is_room", "_law_step", "_law_undone", "_law_row", "_law_next", "_law_listed", "_law_show", "_law_is_show", "_law_is_small", "_law_great", "_law_room", "_law_free", "_law_spoilt", "_law_turned", "_law_is_told"]
def hnm : List Str := hnm0 ++ (hnm1 ++ (hnm2))
def hg (K : PySem.W.Frag) : Bool := plainB K (He.ga K "House")
abbrev hR : PySem.W.OpenRow := PySem.W.OpenLaw.row PySem.Challenge.rw_stilewalks_k07_shows_among_any_values
abbrev hq : Program := PySem.W.view hR.prog [0, 103]
abbrev hk : PySem.W.Hook := DW.hookX 900 hfa hfn hg
def hob (s : PySem.W.SharedT) : He.AlD × Bool := DW.obsXG 900 hfa hfn hg (HandSHeadRun.getT s)
theorem hob_eq (s : PySem.W.SharedT) : hob s = hk.obs s.abs := DW.obsXG_eq (HandSHeadRun.getT_eq s)
noncomputable abbrev hW (w : World) := HandSHeadRun.wholeF (fun p => HandSHeadRun.stepQ (HandSHeadRun.denQ HandSHeadRun.tabQ) p w) HandSHeadRun.fenceQ 60000 hR.prog
set_option maxHeartbeats 0 in
theorem hrunA (w : World) : (hW w).map (fun x => HandSHeadRun.looksF hR.prog x.1.heap x.2.abs) = some true := by kernel_rfl
set_option maxHeartbeats 0 in
theorem hrunB (w : World) : (hW w).map (fun x => HandSHeadRun.seenQ hq hnm (importedModules hR.prog.main.body) (fun s => PySem.W.xlAt hq [] s && PySem.W.recOk hR.toRowW.records s) x.2.abs) = some (openGood hq hnm) := by kernel_rfl
set_option maxHeartbeats 0 in
theorem hrunC (w : World) : (hW w).map (fun x => hob x.2) = some (hk.val w) := by kernel_rfl
theorem opt3 {α A B C : Type} {o : Option α} {f : α → A} {g : α → B} {h : α → C} {a : A} {b : B} {c : C} (x : o.map f = some a) (y : o.map g = some b) (z : o.map h = some c) : o.map (fun s => (f s, g s, h s)) = some (a, b, c) := by
  cases o with
  | none => cases x
  | some s => cases x; cases y; cases z; rfl
theorem hrun (w : World) : HandSHeadRun.RunEqI hR hq hk hob 60000 hnm w := opt3 (hrunA w) (hrunB w) (hrunC w)
end A7
/-! DW: data-level weakest preconditions over the hand layer. Values are told as data (PyData), heaps are hidden. -/
namespace DW
open PySem L2
abbrev D := PyData
/-! ### data in the heap, outside of what may change (M) -/
/-- a dict of any keys -/
def IsDct : HO → Prop
  | .dK _ => True
  | .dT _ => True
  | _ => False
/-- an instance of the class at C, told as data -/
abbrev insD (C : Addr) : PyData := .dict [(.none, .int (C : Nat))]
mutual
inductive Dt (M : Addr → Prop) (H : Hp) : V → D → Prop
  | non : Dt M H .non .none
  | bl (b : Bool) : Dt M H (.bl b) (.bool b)
  | int (i : Int) : Dt M H (.int i) (.int i)
  | str (x : Str) : Dt M H (.str x) (.str x)
  | lst {a : Addr} {xs : List V} {ds : List D} : H a = some (.lst xs) → ¬ M a → DtA M H xs ds → Dt M H (.ref a) (.list ds)
  | tup {a : Addr} {xs : List V} {ds : List D} : H a = some (.tup xs) → ¬ M a → DtA M H xs ds → Dt M H (.ref a) (.tuple ds)
  | dct {a : Addr} {o : HO} : H a = some o → ¬ M a → IsDct o → Dt M H (.ref a) (.dict [])
  | ins {a C dx : Addr} {fs : List (Str × V)} : H a = some (.ins C dx fs) → ¬ M a → Dt M H (.ref a) (insD C)
inductive DtA (M : Addr → Prop) (H : Hp) : List V → List D → Prop
  | nil : DtA M H [] []
  | cons {v : V} {vs : List V} {d : D} {ds : List D} : Dt M H v d → DtA M H vs ds → DtA M H (v :: vs) (d :: ds)
end
section
variable {M M' : Addr → Prop} {H H' : Hp} {K : PySem.W.Frag}
/-- what is known and may not change stays -/
def ExM (M : Addr → Prop) (H H' : Hp) : Prop := ∀ b o, H b = some o → ¬ M b → H' b = some o
theorem ExM.refl : ExM M H H := fun _ _ h _ => h
theorem ExM.of (e : ∀ b o, H b = some o → H' b = some o) : ExM M H H' := fun b o h _ => e b o h
mutual
/-- data carried from one heap and set to another -/
theorem Dt.move (hk : ∀ b o, H b = some o → ¬ M b → H' b = some o ∧ ¬ M' b) : ∀ (d : D) (v : V), Dt M H v d → Dt M' H' v d
  | .none, _, h => by cases h; exact .non
  | .bool b, _, h => by cases h; exact .bl b
  | .int i, _, h => by cases h; exact .int i
  | .str x, _, h => by cases h; exact .str x
  | .list ds, _, h => by
    cases h with
    | lst h1 h2 h3 => exact .lst (hk _ _ h1 h2).1 (hk _ _ h1 h2).2 (DtA.move hk ds _ h3)
  | .tuple ds, _, h => by
    cases h with
    | tup h1 h2 h3 => exact .tup (hk _ _ h1 h2).1 (hk _ _ h1 h2).2 (DtA.move hk ds _ h3)
  | .dict _, _, h => by
    cases h with
    | dct h1 h2 h3 => exact .dct (hk _ _ h1 h2).1 (hk _ _ h1 h2).2 h3
    | ins h1 h2 => exact .ins (hk _ _ h1 h2).1 (hk _ _ h1 h2).2
theorem DtA.move (hk : ∀ b o, H b = some o → ¬ M b → H' b = some o ∧ ¬ M' b) : ∀ (ds : List D) (vs : List V), DtA M H vs ds → DtA M' H' vs ds
  | [], _, h => by cases h; exact .nil
  | d :: ds, _, h => by
    cases h with
    | cons h1 h2 => exact .cons (Dt.move hk d _ h1) (DtA.move hk ds _ h2)
end
theorem Dt.mono {v : V} {d : D} (e : ExM M H H') (h : Dt M H v d) : Dt M H' v d := Dt.move (fun b o q n => ⟨e b o q n, n⟩) d v h
theorem DtA.mono {vs : List V} {ds : List D} (e : ExM M H H') (h : DtA M H vs ds) : DtA M H' vs ds := DtA.move (fun b o q n => ⟨e b o q n, n⟩) ds vs h
theorem Dt.weak {v : V} {d : D} (e : ∀ b, M' b → M b) (h : Dt M H v d) : Dt M' H v d := Dt.move (fun b o q n => ⟨q, fun z => n (e b z)⟩) d v h
theorem DtA.weak {vs : List V} {ds : List D} (e : ∀ b, M' b → M b) (h : DtA M H vs ds) : DtA M' H vs ds := DtA.move (fun b o q n => ⟨q, fun z => n (e b z)⟩) ds vs h
mutual
theorem Dt.dp : ∀ (d : D) (v : V), d.hasDict = false → Dt M H v d → Dp K H v d
  | .none, _, _, h => by cases h; exact .non
  | .bool b, _, _, h => by cases h; exact .bl b
  | .int i, _, _, h => by cases h; exact .int i
  | .str x, _, _, h => by cases h; exact .str x
  | .list ds, _, n, h => by
    cases h with
    | lst h1 _ h3 => exact .lst (SqL.of h1) (DtA.dp ds _ (by simpa [PyData.hasDict] using n) h3)
  | .tuple ds, _, n, h => by
    cases h with
    | tup h1 _ h3 => exact .tup (SqT.of h1) (DtA.dp ds _ (by simpa [PyData.hasDict] using n) h3)
  | .dict _, _, n, h => by simp [PyData.hasDict] at n
theorem DtA.dp : ∀ (ds : List D) (vs : List V), PyData.hasDictAll ds = false → DtA M H vs ds → DpAll K H vs ds
  | [], _, _, h => by cases h; exact .nil
  | d :: ds, _, n, h => by
    have n : d.hasDict = false ∧ PyData.hasDictAll ds = false := by simpa [PyData.hasDictAll] using n
    cases h with
    | cons h1 h2 => exact .cons (Dt.dp d _ n.1 h1) (DtA.dp ds _ n.2 h2)
end
theorem DtA.length : ∀ {vs : List V} {ds : List D}, DtA M H vs ds → vs.length = ds.length
  | [], _, h => by cases h; rfl
  | v :: vs, _, h => by
    cases h with
    | cons _ h2 => rw [List.length_cons, List.length_cons, DtA.length h2]
theorem DtA.append : ∀ {vs us : List V} {ds es : List D}, DtA M H vs ds → DtA M H us es → DtA M H (vs ++ us) (ds ++ es)
  | [], _, _, _, h, g => by cases h; exact g
  | v :: vs, _, _, _, h, g => by
    cases h with
    | cons h1 h2 => exact .cons h1 (DtA.append h2 g)
theorem DtA.take : ∀ {vs : List V} {ds : List D} (n : Nat), DtA M H vs ds → DtA M H (vs.take n) (ds.take n)
  | [], _, _, h => by cases h; simp; exact .nil
  | v :: vs, _, 0, h => by simp; exact .nil
  | v :: vs, _, n + 1, h => by
    cases h with
    | cons h1 h2 => exact .cons h1 (DtA.take n h2)
theorem DtA.drop : ∀ {vs : List V} {ds : List D} (n : Nat), DtA M H vs ds → DtA M H (vs.drop n) (ds.drop n)
  | [], _, _, h => by cases h; simp; exact .nil
  | v :: vs, _, 0, h => h
  | v :: vs, _, n + 1, h => by
    cases h with
    | cons h1 h2 => exact DtA.drop n h2
theorem DtA.get : ∀ {vs : List V} {ds : List D} {i : Nat} {d : D}, DtA M H vs ds → ds[i]? = some d → ∃ v, vs[i]? = some v ∧ Dt M H v d
  | [], _, _, _, h, e => by cases h; simp at e
  | v :: vs, _, 0, d, h, e => by
    cases h with
    | cons h1 h2 => simp at e; subst e; exact ⟨v, rfl, h1⟩
  | v :: vs, _, i + 1, d, h, e => by
    cases h with
    | cons h1 h2 =>
      obtain ⟨u, e1, q⟩ := DtA.get (i := i) h2 (by simpa using e)
      exact ⟨u, by simpa using e1, q⟩
theorem DtA.back : ∀ {vs : List V} {ds : List D} {i : Nat} {v : V}, DtA M H vs ds → vs[i]? = some v → ∃ d, ds[i]? = some d ∧ Dt M H v d
  | [], _, _, _, h, e => by simp at e
  | v :: vs, _, 0, d, h, e => by
    cases h with
    | cons h1 h2 => simp at e; subst e; exact ⟨_, rfl, h1⟩
  | v :: vs, _, i + 1, d, h, e => by
    cases h with
    | cons h1 h2 =>
      obtain ⟨u, e1, q⟩ := DtA.back (i := i) h2 (by simpa using e)
      exact ⟨u, by simpa using e1, q⟩
theorem DtA.one {v : V} {d : D} (h : Dt M H v d) : DtA M H [v] [d] := .cons h .nil
theorem Dt.int_inv {v : V} {i : Int} (h : Dt M H v (.int i)) : v = .int i := by cases h; rfl
theorem Dt.str_inv {v : V} {x : Str} (h : Dt M H v (.str x)) : v = .str x := by cases h; rfl
theorem Dt.bl_inv {v : V} {b : Bool} (h : Dt M H v (.bool b)) : v = .bl b := by cases h; rfl
theorem Dt.non_inv {v : V} (h : Dt M H v .none) : v = .non := by cases h; rfl
theorem Dt.tup_inv {v : V} {ds : List D} (h : Dt M H v (.tuple ds)) : ∃ a xs, v = .ref a ∧ H a = some (.tup xs) ∧ ¬ M a ∧ DtA M H xs ds := by
  cases h with
  | tup h1 h2 h3 => exact ⟨_, _, rfl, h1, h2, h3⟩
theorem Dt.lst_inv {v : V} {ds : List D} (h : Dt M H v (.list ds)) : ∃ a xs, v = .ref a ∧ H a = some (.lst xs) ∧ ¬ M a ∧ DtA M H xs ds := by
  cases h with
  | lst h1 h2 h3 => exact ⟨_, _, rfl, h1, h2, h3⟩
theorem DtA.ints {ns : List Int} : ∀ {vs : List V}, DtA M H vs (ns.map PyData.int) → vs = ns.map V.int := by
  induction ns with
  | nil => intro vs h; cases h; rfl
  | cons n ns ih =>
    intro vs h
    rw [List.map_cons] at h
    cases h with
    | cons h1 h2 => rw [List.map_cons, ← ih h2, Dt.int_inv h1]
theorem DtA.of_ints : ∀ (ns : List Int), DtA M H (ns.map V.int) (ns.map PyData.int)
  | [] => .nil
  | n :: ns => .cons (.int n) (DtA.of_ints ns)
theorem DtA.bools {bs : List Bool} : ∀ {vs : List V}, DtA M H vs (bs.map PyData.bool) → vs = bs.map V.bl := by
  induction bs with
  | nil => intro vs h; cases h; rfl
  | cons n ns ih =>
    intro vs h
    rw [List.map_cons] at h
    cases h with
    | cons h1 h2 => rw [List.map_cons, ← ih h2, Dt.bl_inv h1]
end
/-! ### keys of dicts -/
mutual
def toKey : D → NestedKey
  | .none => .none
  | .bool b => .num (if b then 1 else 0)
  | .int i => .num i
  | .str x => .text x
  | .tuple ds => .tup (toKeys ds)
  | .list _ => .none
  | .dict _ => .none
def toKeys : List D → List NestedKey
  | [] => []
  | d :: ds => toKey d :: toKeys ds
end
mutual
def keyable : D → Bool
  | .none => true
  | .bool _ => true
  | .int _ => true
  | .str _ => true
  | .tuple ds => keyables ds
  | .list _ => false
  | .dict _ => false
def keyables : List D → Bool
  | [] => true
  | d :: ds => keyable d && keyables ds
end
abbrev NKV := NestedKey × Addr × V
/-- a dict whose keys are nested tuples, entry by entry -/
def ND (w : World) (a : Addr) (xs : List NKV) : HO := .ext fun h => (a == sysModules) = false ∧ xs.length ≤ sizeLine ∧ (xs.map (·.1)).Nodup ∧ ∃ ys : List (NestedKey × Addr × Value),
  Paired (fun (p : NKV) (q : NestedKey × Addr × Value) => p.1 = q.1 ∧ p.2.1 = q.2.1 ∧ RelV p.2.2 q.2.2) xs ys ∧ ∃ o es ep, h.get? a = some o ∧ o.ExactDict ∧ o.data = .dict es ep ∧ es.toList = ys.map fun y => (⟨y.1.hash w, .ref y.2.1, y.2.2⟩ : DictEntry)
/-- one entry told of data -/
def KvOk (M : Addr → Prop) (H : Hp) (x : NKV) (kv : D × D) : Prop := x.1 = toKey kv.1 ∧ keyable kv.1 = true ∧ (toKey kv.1).depth ≤ 8 ∧ Dt M H (.ref x.2.1) kv.1 ∧ Dt M H x.2.2 kv.2
section
variable {M M' : Addr → Prop} {H H' : Hp}
theorem KvOk.move (hk : ∀ b o, H b = some o → ¬ M b → H' b = some o ∧ ¬ M' b) : ∀ {xs : List NKV} {kvs : List (D × D)}, Paired (KvOk M H) xs kvs → Paired (KvOk M' H') xs kvs
  | _, _, .nil => .nil
  | _, _, .cons r t => .cons ⟨r.1, r.2.1, r.2.2.1, Dt.move hk _ _ r.2.2.2.1, Dt.move hk _ _ r.2.2.2.2⟩ (KvOk.move hk t)
end
/-! ### canonical readings: the weakest of all that a rule gives -/
def canE (X : Cx) (e : Expr) : TE := fun σ H Q => ∃ t, PE X e t ∧ t σ H Q
def canT (X : Cx) (e : Expr) : TT := fun σ H Q => ∃ t, PT X e t ∧ t σ H Q
def canA (X : Cx) (es : List Expr) : TA := fun σ H Q => ∃ t, PA X es t ∧ t σ H Q
def canS (X : Cx) (s : Stmt) : TS := fun D σ H => ∃ t, PS X s t ∧ t D σ H
def canB (X : Cx) (ss : List Stmt) : TS := fun D σ H => ∃ t, PSs X ss t ∧ t D σ H
def canO (X : Cx) (f : Value → Value → Sem Value) : R2 := fun x y H Q => ∃ r, OpR X f r ∧ r x y H Q
def canC (X : Cx) (f : Value) : List V → Hp → VK → Prop := fun vs H Q => ∃ r, CallR X f r ∧ r vs H Q
variable {X : Cx} {F : Type}
theorem can_e {e : Expr} : PE X e (canE X e) := ⟨fun pins s σ H Q I ⟨t, ht, q⟩ => ht.run pins s σ H Q I q⟩
theorem can_t {e : Expr} : PT X e (canT X e) := ⟨fun pins s σ H Q I ⟨t, ht, q⟩ => ht.run pins s σ H Q I q⟩
theorem can_a {es : List Expr} : PA X es (canA X es) := ⟨fun pos pins s σ H Q I ⟨t, ht, q⟩ => ht.run pos pins s σ H Q I q⟩
theorem can_s {s : Stmt} : PS X s (canS X s) := ⟨fun pins s σ H D I ⟨t, ht, q⟩ => ht.run pins s σ H D I q⟩
theorem can_b {ss : List Stmt} : PSs X ss (canB X ss) := ⟨fun pins s σ H D I ⟨t, ht, q⟩ => ht.run pins s σ H D I q⟩
theorem can_o {f : Value → Value → Sem Value} : OpR X f (canO X f) := fun pins s σ H x y v u Q I rx ry ⟨r, hr, q⟩ => hr pins s σ H x y v u Q I rx ry q
theorem can_c {f : Value} : CallR X f (canC X f) := fun pins s σ H xs us Q I rx ⟨r, hr, q⟩ => hr pins s σ H xs us Q I rx q
end DW
namespace DW
open PySem L2
/-- the deck: its dict at a, its cells at c -/
def kCells : Key := Sum.inr (Str.ofString "cells")
def kMixed : Key := Sum.inr (Str.ofString "mixed")
def kDraws : Key := Sum.inr (Str.ofString "draws")
def Dk (a c : Addr) (H : Hp) : Prop := ∃ (ns : List Int) (m k : Int), H a = some (.dK [(kCells, .ref c), (kMixed, .int m), (kDraws, .int k)]) ∧ H c = some (.lst (ns.map V.int)) ∧ ns.length ≤ 64
/-- where a def runs: the heap at its entry, what others own (M0), the deck, what holds of the owned at all times -/
structure Fc where
  H0 : Hp
  M0 : Addr → Prop
  dk : Option (Addr × Addr)
  w : World
  ok : Hp → Prop
  okx : ∀ H H', ok H → (∀ b o, M0 b → H b = some o → H' b = some o) → ok H'
  kn : ∀ H, ok H → ∀ b, M0 b → ∃ o, H b = some o
  dkM : ∀ a c, dk = some (a, c) → M0 a ∧ M0 c ∧ a ≠ c
  dkH : ∀ a c, dk = some (a, c) → ∀ H, ok H → Dk a c H
  dkS : ∀ a c, dk = some (a, c) → ∀ H H', ok H → (∀ b o, M0 b → H b = some o → b ≠ a → b ≠ c → H' b = some o) → Dk a c H' → ok H'
/-- what is known of a slot: nothing, data, a list of one's own, the deck -/
inductive Sl where
  | no
  | d (x : D)
  | own (ds : List D)
  | od (kvs : List (D × D))
  | oda (l0 : Addr) (kvs : List (D × D))
  | fd (kvs : List (D × D))
  | dk
def isOwn : Sl → Bool
  | .own _ => true
  | .od _ => true
  | .oda _ _ => true
  | _ => false
def Own (σ : L2.St) (es : List Sl) : Addr → Prop := fun l => ∃ (i : Nat) (e : Sl), es[i]? = some e ∧ isOwn e = true ∧ σ[i]? = some (some (.ref l))
def OwnOk (w : World) (M : Addr → Prop) (H : Hp) (l : Addr) : Sl → Prop
  | .own ds => ∃ xs, H l = some (.lst xs) ∧ DtA M H xs ds
  | .od kvs => ∃ xs, H l = some (ND w l xs) ∧ Paired (KvOk M H) xs kvs
  | .oda l0 kvs => l = l0 ∧ ∃ xs, H l = some (ND w l xs) ∧ Paired (KvOk M H) xs kvs
  | _ => True
theorem OwnOk.move {w : World} {M M' : Addr → Prop} {H H' : Hp} {l : Addr} {e : Sl} (hk : ∀ b o, H b = some o → ¬ M b → H' b = some o ∧ ¬ M' b) (hl : ∀ o, H l = some o → H' l = some o) (h : OwnOk w M H l e) : OwnOk w M' H' l e := by
  cases e with
  | own ds =>
    obtain ⟨xs, r1, r2⟩ := h
    exact ⟨xs, hl _ r1, DtA.move hk _ _ r2⟩
  | od kvs =>
    obtain ⟨xs, r1, r2⟩ := h
    exact ⟨xs, hl _ r1, KvOk.move hk r2⟩
  | oda l0 kvs =>
    obtain ⟨r0, xs, r1, r2⟩ := h
    exact ⟨r0, xs, hl _ r1, KvOk.move hk r2⟩
  | _ => trivial
theorem OwnOk.mono {w : World} {M : Addr → Prop} {H H' : Hp} {l : Addr} {e : Sl} (hk : ExM M H H') (hl : ∀ o, H l = some o → H' l = some o) (h : OwnOk w M H l e) : OwnOk w M H' l e := h.move (fun b o q n => ⟨hk b o q n, n⟩) hl
def Mx (F : Fc) (σ : L2.St) (es : List Sl) : Addr → Prop := fun b => F.M0 b ∨ Own σ es b
structure Sg (F : Fc) (H : Hp) (σ : L2.St) (es : List Sl) : Prop where
  len : es.length = σ.length
  ext : ExM F.M0 F.H0 H
  ok : F.ok H
  dat : ∀ (i : Nat) (x : D), es[i]? = some (.d x) → ∃ v, σ[i]? = some (some v) ∧ Dt (Mx F σ es) H v x
  own : ∀ (i : Nat) (e : Sl), es[i]? = some e → isOwn e = true → ∃ l, σ[i]? = some (some (.ref l)) ∧ (F.H0 l = none ∧ ¬ F.M0 l) ∧ (∃ o, H l = some o) ∧ OwnOk F.w (Mx F σ es) H l e
  inj : ∀ (i j : Nat) (e e' : Sl) (l : Addr), es[i]? = some e → es[j]? = some e' → isOwn e = true → isOwn e' = true → σ[i]? = some (some (.ref l)) → σ[j]? = some (some (.ref l)) → i = j
  dk : ∀ (i : Nat), es[i]? = some .dk → ∃ a c, F.dk = some (a, c) ∧ σ[i]? = some (some (.ref a))
  fd : ∀ (i : Nat) (kvs : List (D × D)), es[i]? = some (.fd kvs) → ∃ (l : Addr) (od : Obj) (xs : List NKV), σ[i]? = some (some (.ref l)) ∧ H l = some (.frz od (ND F.w l xs)) ∧ ¬ Mx F σ es l ∧ Paired (KvOk (Mx F σ es) H) xs kvs
def Tr (F : Fc) (H : Hp) (σ : L2.St) (es : List Sl) (H' : Hp) (σ' : L2.St) (es' : List Sl) : Prop := ∀ b o, H b = some o → ¬ Mx F σ es b → H' b = some o ∧ ¬ Mx F σ' es' b
theorem Tr.dt {F : Fc} {H H' : Hp} {σ σ' : L2.St} {es es' : List Sl} (t : Tr F H σ es H' σ' es') {v : V} {d : D} (h : Dt (Mx F σ es) H v d) : Dt (Mx F σ' es') H' v d := h.move t
section
variable {F : Fc} {H H' : Hp} {σ : L2.St} {es : List Sl}
theorem Sg.kn (s : Sg F H σ es) : ∀ b, Mx F σ es b → ∃ o, H b = some o := fun b h => by
  rcases h with h | ⟨i, e, h1, h2, h3⟩
  · exact F.kn H s.ok b h
  · obtain ⟨l, q1, _, q2, _⟩ := s.own i e h1 h2
    rw [h3] at q1
    cases q1
    exact q2
theorem Sg.fresh (s : Sg F H σ es) {p : Addr} (h : H p = none) : ¬ Mx F σ es p := fun z => by
  obtain ⟨o, e⟩ := s.kn p z
  rw [h] at e
  cases e
/-- no object of one's own is one of the others' -/
theorem Sg.apart (s : Sg F H σ es) {l : Addr} (h : Own σ es l) : ¬ F.M0 l := fun z => by
  obtain ⟨i, e, h1, h2, h3⟩ := h
  obtain ⟨l', q1, q0, _, _⟩ := s.own i e h1 h2
  rw [h3] at q1
  cases q1
  exact q0.2 z
theorem ExM.trans' {M : Addr → Prop} {H H1 H2 : Hp} (a : ExM M H H1) (b : ExM M H1 H2) : ExM M H H2 := fun x o h n => b x o (a x o h n) n
/-- nothing that was known has changed -/
theorem Sg.grow (s : Sg F H σ es) (e : ∀ b o, H b = some o → H' b = some o) : Sg F H' σ es where
  len := s.len
  ext := s.ext.trans' (ExM.of e)
  ok := F.okx H H' s.ok fun b o _ h => e b o h
  dat := fun i x h => let ⟨v, q, r⟩ := s.dat i x h; ⟨v, q, r.mono (ExM.of e)⟩
  own := fun i x h z => by
    obtain ⟨l, q1, q0, ⟨o, q2⟩, q3⟩ := s.own i x h z
    exact ⟨l, q1, q0, ⟨o, e _ _ q2⟩, q3.mono (ExM.of e) fun o => e _ o⟩
  inj := s.inj
  dk := s.dk
  fd := fun i kvs h => let ⟨l, od, xs, q1, q2, q4, q3⟩ := s.fd i kvs h; ⟨l, od, xs, q1, e _ _ q2, q4, KvOk.move (fun b o q n => ⟨e b o q, n⟩) q3⟩
theorem Sg.new (s : Sg F H σ es) {p : Addr} {o : HO} (h : H p = none) : Sg F (upd H p o) σ es := s.grow fun b u e => by
  rw [upd_ne (ne_of_none e h)]
  exact e
theorem ExM.new {M : Addr → Prop} {p : Addr} {o : HO} (h : H p = none) : ExM M H (upd H p o) := ExM.of fun b u e => by
  rw [upd_ne (ne_of_none e h)]
  exact e
theorem Tr.refl : Tr F H σ es H σ es := fun _ _ h n => ⟨h, n⟩
theorem Tr.of (e : ExM (Mx F σ es) H H') : Tr F H σ es H' σ es := fun b o h n => ⟨e b o h n, n⟩
theorem Tr.trans {H1 H2 : Hp} {σ1 σ2 : L2.St} {e1 e2 : List Sl} (a : Tr F H σ es H1 σ1 e1) (b : Tr F H1 σ1 e1 H2 σ2 e2) : Tr F H σ es H2 σ2 e2 := fun c o h n => b c o (a c o h n).1 (a c o h n).2
/-! a slot gets data -/
theorem own_set {i : Nat} {v : V} {x : D} {l : Addr} (h : Own (σ.set i (some v)) (es.set i (.d x)) l) : Own σ es l := by
  obtain ⟨j, e, h1, h2, h3⟩ := h
  by_cases hij : i = j
  · subst hij
    by_cases hl : i < es.length
    · rw [List.getElem?_set_self hl] at h1
      cases h1
      cases h2
    · rw [List.getElem?_eq_none (by rw [List.length_set]; omega)] at h1
      cases h1
  · rw [List.getElem?_set_ne hij] at h1 h3
    exact ⟨j, e, h1, h2, h3⟩
theorem mx_set {i : Nat} {v : V} {x : D} {l : Addr} (h : Mx F (σ.set i (some v)) (es.set i (.d x)) l) : Mx F σ es l := h.elim .inl fun z => .inr (own_set z)
theorem OwnOk.weak {w : World} {M M' : Addr → Prop} {l : Addr} {e : Sl} (u : ∀ b, M' b → M b) (h : OwnOk w M H l e) : OwnOk w M' H l e := h.move (fun b o q n => ⟨q, fun z => n (u b z)⟩) fun _ => id
theorem Sg.set (s : Sg F H σ es) {i : Nat} {v : V} {x : D} (hi : i < es.length) (h : Dt (Mx F σ es) H v x) : Sg F H (σ.set i (some v)) (es.set i (.d x)) where
  len := by rw [List.length_set, List.length_set, s.len]
  ext := s.ext
  ok := s.ok
  dat := fun j y e => by
    by_cases hij : i = j
    · subst hij
      rw [List.getElem?_set_self hi] at e
      cases e
      exact ⟨v, List.getElem?_set_self (by rw [← s.len]; exact hi), h.weak fun b => mx_set⟩
    · rw [List.getElem?_set_ne hij] at e
      obtain ⟨u, q, r⟩ := s.dat j y e
      exact ⟨u, by rw [List.getElem?_set_ne hij]; exact q, r.weak fun b => mx_set⟩
  own := fun j y e z => by
    by_cases hij : i = j
    · subst hij
      rw [List.getElem?_set_self hi] at e
      cases e
      cases z
    · rw [List.getElem?_set_ne hij] at e
      obtain ⟨l, q, q0, q1, r⟩ := s.own j y e z
      exact ⟨l, by rw [List.getElem?_set_ne hij]; exact q, q0, q1, r.weak fun b => mx_set⟩
  inj := fun j k e e' l h1 h2 z1 z2 h3 h4 => by
    have ne : ∀ {m : Nat} {y : Sl}, (es.set i (.d x))[m]? = some y → isOwn y = true → i ≠ m := fun {m y} a b c => by
      subst c
      rw [List.getElem?_set_self hi] at a
      cases a
      cases b
    have n1 := ne h1 z1
    have n2 := ne h2 z2
    rw [List.getElem?_set_ne n1] at h1 h3
    rw [List.getElem?_set_ne n2] at h2 h4
    exact s.inj j k e e' l h1 h2 z1 z2 h3 h4
  dk := fun j e => by
    by_cases hij : i = j
    · subst hij
      rw [List.getElem?_set_self hi] at e
      cases e
    · rw [List.getElem?_set_ne hij] at e ⊢
      exact s.dk j e
  fd := fun j kvs e => by
    by_cases hij : i = j
    · subst hij
      rw [List.getElem?_set_self hi] at e
      cases e
    · rw [List.getElem?_set_ne hij] at e ⊢
      obtain ⟨l, od, xs, q1, q2, q4, q3⟩ := s.fd j kvs e
      exact ⟨l, od, xs, q1, q2, fun z => q4 (mx_set z), KvOk.move (fun b o q n => ⟨q, fun z => n (mx_set z)⟩) q3⟩
theorem Tr.set {i : Nat} {v : V} {x : D} : Tr F H σ es H (σ.set i (some v)) (es.set i (.d x)) := fun b o h n => ⟨h, fun z => n (mx_set z)⟩
end
theorem ExM.mx {F : Fc} {σ : L2.St} {es : List Sl} {H H' : Hp} (e : ExM F.M0 H H') : ExM (Mx F σ es) H H' := fun b o h n => e b o h fun z => n (.inl z)
/-! ### the judgements -/
/-- behind an expression: the slots as they were, the value's data -/
def Bh (F : Fc) (σ : L2.St) (es : List Sl) (H : Hp) (Φ : D → Prop) (Q : VK) : Prop := ∀ v d H', Sg F H' σ es → ExM F.M0 H H' → Dt (Mx F σ es) H' v d → Φ d → Q v H'
def W (F : Fc) (X : Cx) (e : Expr) (es : List Sl) (Φ : D → Prop) : Prop := ∀ σ H, Sg F H σ es → ∀ Q : VK, Bh F σ es H Φ Q → canE X e σ H Q
def BhA (F : Fc) (σ : L2.St) (es : List Sl) (H : Hp) (Φ : List D → Prop) (Q : List V → Hp → Prop) : Prop := ∀ vs ds H', Sg F H' σ es → ExM F.M0 H H' → DtA (Mx F σ es) H' vs ds → Φ ds → Q vs H'
def WA (F : Fc) (X : Cx) (e : List Expr) (es : List Sl) (Φ : List D → Prop) : Prop := ∀ σ H, Sg F H σ es → ∀ Q : List V → Hp → Prop, BhA F σ es H Φ Q → canA X e σ H Q
/-- a new list -/
def WL (F : Fc) (X : Cx) (e : Expr) (es : List Sl) (Φ : List D → Prop) : Prop := ∀ σ H, Sg F H σ es → ∀ Q : VK, (∀ p xs ds H', Sg F H' σ es → ExM F.M0 H H' → H p = none → H' p = some (.lst xs) → DtA (fun b => Mx F σ es b ∨ b = p) H' xs ds → Φ ds → Q (.ref p) H') → canE X e σ H Q
def T (F : Fc) (X : Cx) (e : Expr) (es : List Sl) (Φ : Bool → Prop) : Prop := ∀ σ H, Sg F H σ es → ∀ Q : Bool → Hp → Prop, (∀ b H', Sg F H' σ es → ExM F.M0 H H' → Φ b → Q b H') → canT X e σ H Q
structure Ek where
  nx : List Sl → Prop
  rt : D → Prop
  bk : List Sl → Prop := fun _ => False
  ct : List Sl → Prop := fun _ => False
structure Go (F : Fc) (σ : L2.St) (es : List Sl) (H : Hp) (K : Ek) (D : Ends) : Prop where
  nx : ∀ σ' H' es', Sg F H' σ' es' → Tr F H σ es H' σ' es' → K.nx es' → D.nx σ' H'
  rt : ∀ v d H', ExM F.M0 F.H0 H' → F.ok H' → Dt F.M0 H' v d → K.rt d → D.rt v H'
  bk : ∀ σ' H' es', Sg F H' σ' es' → Tr F H σ es H' σ' es' → K.bk es' → D.bk σ' H'
  ct : ∀ σ' H' es', Sg F H' σ' es' → Tr F H σ es H' σ' es' → K.ct es' → D.ct σ' H'
def WS (F : Fc) (X : Cx) (s : Stmt) (es : List Sl) (K : Ek) : Prop := ∀ σ H D, Sg F H σ es → Go F σ es H K D → canS X s D σ H
def WB (F : Fc) (X : Cx) (ss : List Stmt) (es : List Sl) (K : Ek) : Prop := ∀ σ H D, Sg F H σ es → Go F σ es H K D → canB X ss D σ H
section
variable {F : Fc} {X : Cx} {e a b c : Expr} {es : List Sl} {Φ : D → Prop} {K : Ek} {pos : Pos} {s : Stmt} {ss : List Stmt}
theorem Go.from {σ σ1 : L2.St} {e1 : List Sl} {H H1 : Hp} {D : Ends} (g : Go F σ es H K D) (t : Tr F H σ es H1 σ1 e1) : Go F σ1 e1 H1 K D :=
  ⟨fun σ' H' es' s t' => g.nx σ' H' es' s (t.trans t'), g.rt, fun σ' H' es' s t' => g.bk σ' H' es' s (t.trans t'), fun σ' H' es' s t' => g.ct σ' H' es' s (t.trans t')⟩
/-! ### expressions -/
theorem w_var {i : Nat} {x : Str} {d : D} (he : es[i]? = some (.d d)) (hN : X.N[i]? = some x := by rfl) (hv : Vis X.env.scope x := by first | exact Or.inl rfl | exact Or.inr (Or.inl rfl) | exact Or.inr (Or.inr rfl)) (q : Φ d)
    (hd : (x == ("__debug__" : Str)) = false := by decide) (hcd : (x == ("__classdict__" : Str)) = false := by decide) : W F X (.Name x pos) es Φ := fun σ H s Q k => by
  obtain ⟨v, h1, h2⟩ := s.dat i d he
  exact ⟨tVar i, pe_var hN hv hd hcd, v, h1, k v d H s ExM.refl h2 q⟩
theorem w_int {i : Int} {j : Nat} (q : Φ (.int i)) : W F X (.Constant (.int i) j pos) es Φ := fun σ H s Q k => ⟨_, pe_int, k _ _ H s ExM.refl (.int i) q⟩
theorem w_bool {i : Bool} {j : Nat} (q : Φ (.bool i)) : W F X (.Constant (.bool i) j pos) es Φ := fun σ H s Q k => ⟨_, pe_bl, k _ _ H s ExM.refl (.bl i) q⟩
theorem w_none {j : Nat} (q : Φ .none) : W F X (.Constant .none j pos) es Φ := fun σ H s Q k => ⟨_, pe_non, k _ _ H s ExM.refl .non q⟩
theorem w_str {x : Str} {j : Nat} (q : Φ (.str x)) : W F X (.Constant (.str x) j pos) es Φ := fun σ H s Q k => ⟨_, pe_str, k _ _ H s ExM.refl (.str x) q⟩
theorem w_globint {x : Str} {i : Int} {t : Tok} (hg : Gl X x) (hm : X.mg x = some (.int i t)) (q : Φ (.int i)) (hd : (x == ("__debug__" : Str)) = false := by decide) : W F X (.Name x pos) es Φ := fun σ H s Q k => ⟨_, pe_glob (v := .int i) hg hm ⟨t, rfl⟩ hd, k _ _ H s ExM.refl (.int i) q⟩
/-- weaken -/
theorem W.imp {Ψ : D → Prop} (h : W F X e es Φ) (w : ∀ d, Φ d → Ψ d) : W F X e es Ψ := fun σ H s Q k => h σ H s Q fun v d H' s' x t q => k v d H' s' x t (w d q)
theorem WL.w {Φ : List D → Prop} (h : WL F X e es Φ) : W F X e es (fun d => ∃ ds, d = .list ds ∧ Φ ds) := fun σ H s Q k => h σ H s Q fun p xs ds H' s' x hn hp t q =>
  k _ _ H' s' x (.lst hp (fun z => by
    obtain ⟨o, e⟩ := s.kn p z
    rw [hn] at e
    cases e) (t.weak fun b z => .inl z)) ⟨ds, rfl, q⟩
/-- an operation on values, told of data; it changes nothing that stood -/
def OpD (X : Cx) (f : Value → Value → Sem Value) (x y z : D) : Prop := ∀ (M : Addr → Prop) (H : Hp) (v u : V), (∀ b, M b → ∃ o, H b = some o) → Dt M H v x → Dt M H u y → ∀ Q : VK, (∀ w H', (∀ b o, H b = some o → H' b = some o) → Dt M H' w z → Q w H') → canO X f v u H Q
def UnD (X : Cx) (f : Value → Sem Value) (x z : D) : Prop := ∀ (M : Addr → Prop) (H : Hp) (v : V), (∀ b, M b → ∃ o, H b = some o) → Dt M H v x → ∃ r, UnR X f r ∧ ∀ Q : VK, (∀ w H', (∀ b o, H b = some o → H' b = some o) → Dt M H' w z → Q w H') → r v H Q
/-- a call of a built-in on values -/
def CallD (X : Cx) (f : Value) (xs : List D) (z : D) : Prop := ∀ (M : Addr → Prop) (H : Hp) (vs : List V), (∀ b, M b → ∃ o, H b = some o) → DtA M H vs xs → ∀ Q : VK, (∀ w H', (∀ b o, H b = some o → H' b = some o) → Dt M H' w z → Q w H') → canC X f vs H Q
theorem fin_op {σ : L2.St} {H H1 : Hp} {Q : VK} {z : D} (s1 : Sg F H1 σ es) (x1 : ExM F.M0 H H1) (k : Bh F σ es H Φ Q) (q : Φ z) : ∀ w H', (∀ b o, H1 b = some o → H' b = some o) → Dt (Mx F σ es) H' w z → Q w H' :=
  fun w H' e t => k w z H' (s1.grow e) (x1.trans' (ExM.of e)) t q
theorem w_bin {op : Operator} (h : W F X a es fun x => W F X b es fun y => ∃ z, OpD X (binaryOp op) x y z ∧ Φ z) : W F X (.BinOp a op b pos) es Φ := fun σ H s Q k => by
  refine ⟨_, pe_op can_o can_e can_e, ?_⟩
  refine h σ H s _ fun v x H1 s1 x1 t1 hb => ?_
  refine hb σ H1 s1 _ fun u y H2 s2 x2 t2 hz => ?_
  obtain ⟨z, ho, q⟩ := hz
  exact ho _ H2 v u s2.kn (t1.mono (x2.mx)) t2 Q (fin_op s2 (x1.trans' x2) k q)
theorem w_un {op : UnaryOp} (h : W F X a es fun x => ∃ z, UnD X (unaryOp op) x z ∧ Φ z) : W F X (.UnaryOp op a pos) es Φ := fun σ H s Q k => by
  refine ⟨tUn (fun x H1 Q' => ∃ r, UnR X (unaryOp op) r ∧ r x H1 Q') (canE X a), pe_un (fun pins s σ H x v Q I rx ⟨r, hr, q⟩ => hr pins s σ H x v Q I rx q) can_e, ?_⟩
  refine h σ H s _ fun v x H1 s1 x1 t1 hz => ?_
  obtain ⟨z, ho, q⟩ := hz
  obtain ⟨r, hr, g⟩ := ho _ H1 v s1.kn t1
  exact ⟨r, hr, g Q (fin_op s1 x1 k q)⟩
theorem w_cmp {op : CmpOp} (hm : behindInMarks op b = false := by first | exact nomark _ | rfl) (h : W F X a es fun x => W F X b es fun y => ∃ z, OpD X (compareOp op) x y z ∧ Φ z) : W F X (.Compare a [op] [b] pos) es Φ := fun σ H s Q k => by
  refine ⟨_, pe_cmpR can_o can_e can_e hm, ?_⟩
  refine h σ H s _ fun v x H1 s1 x1 t1 hb => ?_
  refine hb σ H1 s1 _ fun u y H2 s2 x2 t2 hz => ?_
  obtain ⟨z, ho, q⟩ := hz
  exact ho _ H2 v u s2.kn (t1.mono (x2.mx)) t2 Q (fin_op s2 (x1.trans' x2) k q)
/-- a op b op' c -/
theorem w_chain {op op' : CmpOp} (hm : lastMarks [op, op'] [b, c] = false := by rfl) (h : W F X a es fun x => W F X b es fun y => ∃ k, OpD X (compareOp op) x y (.bool k) ∧ if k = true then W F X c es fun w => ∃ z, OpD X (compareOp op') y w z ∧ Φ z else Φ (.bool false)) :
    W F X (.Compare a [op, op'] [b, c] pos) es Φ := fun σ H s Q k => by
  refine ⟨_, pe_chain can_o can_o can_e can_e can_e hm, ?_⟩
  refine h σ H s _ fun v x H1 s1 x1 t1 hb => ?_
  refine hb σ H1 s1 _ fun u y H2 s2 x2 t2 hz => ?_
  obtain ⟨kk, ho, q⟩ := hz
  refine ho _ H2 v u s2.kn (t1.mono (x2.mx)) t2 _ fun w H3 e3 t3 => ?_
  rw [Dt.bl_inv t3]
  refine ⟨kk, rfl, ?_⟩
  have s3 := s2.grow e3
  cases kk with
  | true =>
    show canE X c σ H3 _
    refine q σ H3 s3 _ fun u' y' H4 s4 x4 t4 hz => ?_
    obtain ⟨z, ho', q'⟩ := hz
    exact ho' _ H4 u u' s4.kn ((t2.mono (ExM.of e3)).mono (x4.mx)) t4 Q (fin_op s4 (((x1.trans' x2).trans' (ExM.of e3)).trans' x4) k q')
  | false =>
    show Q (.bl false) H3
    exact k _ _ H3 s3 ((x1.trans' x2).trans' (ExM.of e3)) (.bl false) q
theorem w_andV {rest : List Expr} (h : W F X a es fun x => ∃ k, x = .bool k ∧ if k = true then W F X (.BoolOp .And (b :: rest) pos) es Φ else Φ (.bool false)) : W F X (.BoolOp .And (a :: b :: rest) pos) es Φ := fun σ H s Q k => by
  refine ⟨_, pe_and can_e can_e, ?_⟩
  refine h σ H s _ fun v x H1 s1 x1 t1 ⟨kk, e, q⟩ => ?_
  subst e
  rw [Dt.bl_inv t1]
  refine ⟨kk, rfl, ?_⟩
  cases kk with
  | true => exact q σ H1 s1 _ fun v d H' s' x' t' q' => k v d H' s' (x1.trans' x') t' q'
  | false => exact k _ _ H1 s1 x1 (.bl false) q
theorem w_orV {rest : List Expr} (h : W F X a es fun x => ∃ k, x = .bool k ∧ if k = true then Φ (.bool true) else W F X (.BoolOp .Or (b :: rest) pos) es Φ) : W F X (.BoolOp .Or (a :: b :: rest) pos) es Φ := fun σ H s Q k => by
  refine ⟨_, pe_or can_e can_e, ?_⟩
  refine h σ H s _ fun v x H1 s1 x1 t1 ⟨kk, e, q⟩ => ?_
  subst e
  rw [Dt.bl_inv t1]
  refine ⟨kk, rfl, ?_⟩
  cases kk with
  | false => exact q σ H1 s1 _ fun v d H' s' x' t' q' => k v d H' s' (x1.trans' x') t' q'
  | true => exact k _ _ H1 s1 x1 (.bl true) q
theorem w_one {op} (h : W F X a es Φ) : W F X (.BoolOp op [a] pos) es Φ := fun σ H s Q k => ⟨_, pe_one can_e, h σ H s Q k⟩
theorem w_notV (h : W F X a es fun x => ∃ k, x = .bool k ∧ Φ (.bool (!k))) : W F X (.UnaryOp .Not a pos) es Φ := fun σ H s Q k => by
  refine ⟨_, pe_not can_e, ?_⟩
  refine h σ H s _ fun v x H1 s1 x1 t1 ⟨kk, e, q⟩ => ?_
  subst e
  rw [Dt.bl_inv t1]
  exact ⟨kk, rfl, k _ _ H1 s1 x1 (.bl _) q⟩
/-! tests -/
theorem t_val (h : W F X e es fun x => ∃ k, x = .bool k ∧ Ψ k) (he : ∀ whole, isTrue e X.env whole = (do let v ← whole; standAt e.pos; holding [v] (truthy v)) := by intro _; rfl) : T F X e es Ψ := fun σ H s Q k => by
  refine ⟨_, pt_val can_e he, ?_⟩
  refine h σ H s _ fun v x H1 s1 x1 t1 ⟨kk, e, q⟩ => ?_
  subst e
  rw [Dt.bl_inv t1]
  exact ⟨kk, rfl, k _ H1 s1 x1 q⟩
theorem t_not {Ψ : Bool → Prop} (h : T F X a es fun k => Ψ (!k)) : T F X (.UnaryOp .Not a pos) es Ψ := fun σ H s Q k => ⟨_, pt_not can_t, h σ H s _ fun b H1 s1 x1 q => k _ H1 s1 x1 q⟩
/-- and, or in tests: the readings of PW -/
def canW (X : Cx) (e : Expr) : TT := fun σ H Q => ∃ t, PW X e t ∧ t σ H Q
theorem can_w : PW X e (canW X e) := ⟨fun whole pins s σ H Q I ⟨t, ht, q⟩ => ht.run whole pins s σ H Q I q⟩
def TW (F : Fc) (X : Cx) (e : Expr) (es : List Sl) (Φ : Bool → Prop) : Prop := ∀ σ H, Sg F H σ es → ∀ Q : Bool → Hp → Prop, (∀ b H', Sg F H' σ es → ExM F.M0 H H' → Φ b → Q b H') → canW X e σ H Q
theorem t_w {Ψ : Bool → Prop} (h : TW F X e es Ψ) : T F X e es Ψ := fun σ H s Q k => ⟨_, can_w.pt, h σ H s Q k⟩
theorem tw_and1 {Ψ : Bool → Prop} (h : T F X a es Ψ) : TW F X (.BoolOp .And [a] pos) es Ψ := fun σ H s Q k => ⟨_, pw_and1 can_t, h σ H s Q k⟩
theorem tw_or1 {Ψ : Bool → Prop} (h : T F X a es Ψ) : TW F X (.BoolOp .Or [a] pos) es Ψ := fun σ H s Q k => ⟨_, pw_or1 can_t, h σ H s Q k⟩
theorem tw_and {Ψ : Bool → Prop} {rest : List Expr} (h : T F X a es fun k => if k = true then TW F X (.BoolOp .And (b :: rest) pos) es Ψ else Ψ false) : TW F X (.BoolOp .And (a :: b :: rest) pos) es Ψ := fun σ H s Q k => by
  refine ⟨_, pw_and can_t can_w, ?_⟩
  refine h σ H s _ fun kk H1 s1 x1 q => ?_
  cases kk with
  | true => exact q σ H1 s1 _ fun b H' s' x' q' => k b H' s' (x1.trans' x') q'
  | false => exact k _ H1 s1 x1 q
theorem tw_or {Ψ : Bool → Prop} {rest : List Expr} (h : T F X a es fun k => if k = true then Ψ true else TW F X (.BoolOp .Or (b :: rest) pos) es Ψ) : TW F X (.BoolOp .Or (a :: b :: rest) pos) es Ψ := fun σ H s Q k => by
  refine ⟨_, pw_or can_t can_w, ?_⟩
  refine h σ H s _ fun kk H1 s1 x1 q => ?_
  cases kk with
  | false => exact q σ H1 s1 _ fun b H' s' x' q' => k b H' s' (x1.trans' x') q'
  | true => exact k _ H1 s1 x1 q
theorem w_if (h : T F X c es fun k => if k = true then W F X a es Φ else W F X b es Φ) : W F X (.IfExp c a b pos) es Φ := fun σ H s Q k => by
  refine ⟨_, pe_ifExp can_t can_e can_e, ?_⟩
  refine h σ H s _ fun kk H1 s1 x1 q => ?_
  cases kk with
  | true => exact q σ H1 s1 _ fun v d H' s' x' t' q' => k v d H' s' (x1.trans' x') t' q'
  | false => exact q σ H1 s1 _ fun v d H' s' x' t' q' => k v d H' s' (x1.trans' x') t' q'
/-- a new object stands in no data that was there -/
theorem DtA.plus1 {M : Addr → Prop} {H : Hp} {p : Addr} {o : HO} {vs : List V} {ds : List D} (t : DtA M H vs ds) (hp : H p = none) : DtA (fun b => M b ∨ b = p) (upd H p o) vs ds :=
  DtA.move (fun b u e n => ⟨by rw [upd_ne (ne_of_none e hp)]; exact e, fun z => z.elim n (ne_of_none e hp)⟩) ds vs t
/-! argument lists, displays -/
theorem wa_nil {Ψ : List D → Prop} (q : Ψ []) : WA F X [] es Ψ := fun σ H s Q k => ⟨_, pa_nil, k [] [] H s ExM.refl .nil q⟩
theorem wa_cons {Ψ : List D → Prop} {r : List Expr} (h : W F X a es fun x => WA F X r es fun xs => Ψ (x :: xs)) (hs : starEach (a :: r) X.env = (false, eval a X.env) :: starEach r X.env := by rfl) : WA F X (a :: r) es Ψ := fun σ H s Q k => by
  refine ⟨_, pa_cons can_e can_a hs, ?_⟩
  refine h σ H s _ fun v x H1 s1 x1 t1 hb => ?_
  exact hb σ H1 s1 _ fun vs xs H2 s2 x2 t2 q => k _ _ H2 s2 (x1.trans' x2) (.cons (t1.mono (x2.mx)) t2) q
theorem new_tup {σ : L2.St} {H H1 : Hp} {Q : VK} {vs : List V} {ds : List D} (s1 : Sg F H1 σ es) (x1 : ExM F.M0 H H1) (t : DtA (Mx F σ es) H1 vs ds) (k : Bh F σ es H Φ Q) (q : Φ (.tuple ds)) : ∀ p, H1 p = none → Q (.ref p) (upd H1 p (.tup vs)) :=
  fun p hp => k _ _ _ (s1.new hp) (x1.trans' (ExM.new hp)) (.tup upd_same (s1.fresh hp) (t.mono (ExM.new hp))) q
theorem w_tup {r : List Expr} {n : Nat} (h : WA F X r es fun xs => xs.length ≤ sizeLine ∧ Φ (.tuple xs)) : W F X (.Tuple r n pos) es Φ := fun σ H s Q k => by
  refine ⟨_, pe_tup can_a, ?_⟩
  refine h σ H s _ fun vs ds H1 s1 x1 t1 ⟨hl, q⟩ => ?_
  exact ⟨by rw [t1.length]; exact hl, new_tup s1 x1 t1 k q⟩
theorem wl_lst {Ψ : List D → Prop} {r : List Expr} (h : WA F X r es fun xs => xs.length ≤ sizeLine ∧ Ψ xs) : WL F X (.List r pos) es Ψ := fun σ H s Q k => by
  refine ⟨_, pe_lst can_a, ?_⟩
  refine h σ H s _ fun vs ds H1 s1 x1 t1 ⟨hl, q⟩ => ?_
  refine ⟨by rw [t1.length]; exact hl, fun p hp => ?_⟩
  have hn : H p = none := by
    cases e : H p with
    | none => rfl
    | some o =>
      by_cases hm : Mx F σ es p
      · obtain ⟨o', e'⟩ := s1.kn p hm
        rw [hp] at e'
        cases e'
      · rw [x1 p o e fun z => hm (.inl z)] at hp
        cases hp
  exact k p vs ds _ (s1.new hp) (x1.trans' (ExM.new hp)) hn upd_same (t1.plus1 hp) q
end
end DW
namespace DW
open PySem L2 RZ
section
variable {F : Fc} {X : Cx} {e a b c : Expr} {es : List Sl} {Φ : D → Prop} {K : Ek} {pos : Pos} {s : Stmt} {ss : List Stmt}
/-! ### statements -/
theorem wb_nil (q : K.nx es) : WB F X [] es K := fun σ H D s g => ⟨_, pss_nil, g.nx σ H es s Tr.refl q⟩
theorem wb_cons (h : WS F X s es { K with nx := fun es' => WB F X ss es' K }) : WB F X (s :: ss) es K := fun σ H D sg g => by
  refine ⟨_, pss_cons can_s can_b, ?_⟩
  refine h σ H { D with nx := canB X ss D } sg ⟨fun σ' H' es' s' t q => ?_, g.rt, g.bk, g.ct⟩
  exact q σ' H' D s' (g.from t)
theorem ws_pass (q : K.nx es) : WS F X (.Pass pos) es K := fun σ H D s g => ⟨_, ps_pass, g.nx σ H es s Tr.refl q⟩
theorem ws_break (q : K.bk es) : WS F X (.Break pos) es K := fun σ H D s g => ⟨_, ps_break, g.bk σ H es s Tr.refl q⟩
theorem ws_continue (q : K.ct es) : WS F X (.Continue pos) es K := fun σ H D s g => ⟨_, ps_continue, g.ct σ H es s Tr.refl q⟩
theorem ws_expr (h : W F X e es fun _ => K.nx es) (hs : swapsWith e none pos.line X.env = pure false := by rfl) : WS F X (.Expr e pos) es K := fun σ H D s g => by
  refine ⟨_, ps_expr can_e hs, ?_⟩
  exact h σ H s _ fun v d H' s' x t q => g.nx σ H' es s' (Tr.of x.mx) q
theorem ws_ret (h : W F X e es K.rt) : WS F X (.Return (some e) pos) es K := fun σ H D s g => by
  refine ⟨_, ps_ret can_e, ?_⟩
  exact h σ H s _ fun v d H' s' x t q => g.rt v d H' s'.ext s'.ok (t.weak fun b z => .inl z) q
theorem ws_retN (q : K.rt .none) : WS F X (.Return none pos) es K := fun σ H D s g => ⟨_, ps_retN, g.rt .non .none H s.ext s.ok .non q⟩
theorem ws_if {A B : List Stmt} (h : T F X c es fun k => if k = true then WB F X A es K else WB F X B es K) : WS F X (.If c A B pos) es K := fun σ H D s g => by
  refine ⟨_, ps_if can_t can_b can_b, ?_⟩
  refine h σ H s _ fun k H1 s1 x1 q => ?_
  cases k with
  | true => exact q σ H1 D s1 (g.from (Tr.of x1.mx))
  | false => exact q σ H1 D s1 (g.from (Tr.of x1.mx))
theorem ws_set {i : Nat} {x : Str} {pos' : Pos} (hN : X.N.Nodup) (hi : X.N[i]? = some x) (hx : Loc X.env.scope x) (hl : i < es.length) (h : W F X e es fun d => K.nx (es.set i (.d d)))
    (hs : swapsWith e (some (.Name x pos')) pos.line X.env = pure false := by rfl) (hf : X.fn x = true ∨ X.env.scope.names.lookup x = some .local := by first | exact .inl rfl | exact .inr rfl | assumption) :
    WS F X (.Assign [.Name x pos'] e pos) es K := fun σ H D s g => by
  refine ⟨_, ps_set hN hi hx can_e hs hf, ?_⟩
  exact h σ H s _ fun v d H' s' x' t q => g.nx _ H' _ (s'.set hl t) ((Tr.of x'.mx).trans Tr.set) q
/-! ### targets -/
def canG (X : Cx) (e : Expr) : TG := fun v σ H Q => ∃ t, PG X e t ∧ t v σ H Q
def canGs (X : Cx) (es : List Expr) : TGs := fun vs σ H Q => ∃ t, PGs X es t ∧ t vs σ H Q
theorem can_g : PG X e (canG X e) := ⟨fun pins s σ H v u Q I r ⟨t, ht, q⟩ => ht.run pins s σ H v u Q I r q⟩
theorem can_gs {l : List Expr} : PGs X l (canGs X l) := ⟨fun pins s σ H v u Q I r ⟨t, ht, q⟩ => ht.run pins s σ H v u Q I r q⟩
/-- only the slots of L are changed -/
def Chg (L : List Nat) (σ σ' : L2.St) : Prop := σ'.length = σ.length ∧ ∀ j : Nat, j ∉ L → σ'[j]? = σ[j]?
theorem Chg.refl {σ : L2.St} : Chg [] σ σ := ⟨rfl, fun _ _ => rfl⟩
theorem Chg.set {σ : L2.St} {i : Nat} {v : Option V} : Chg [i] σ (σ.set i v) := ⟨List.length_set, fun j h => List.getElem?_set_ne fun z => h (by rw [z]; exact List.mem_singleton.mpr rfl)⟩
theorem Chg.app {σ σ1 σ2 : L2.St} {L L' : List Nat} (a : Chg L σ σ1) (b : Chg L' σ1 σ2) : Chg (L ++ L') σ σ2 :=
  ⟨b.1.trans a.1, fun j h => (b.2 j fun z => h (List.mem_append_right _ z)).trans (a.2 j fun z => h (List.mem_append_left _ z))⟩
theorem wipe_at {σ : L2.St} {i : Nat} : ∀ {vs : List Nat}, i ∈ vs → i < σ.length → (wipe σ vs)[i]? = some none
  | [], h, _ => by cases h
  | v :: vs, h, hl => by
    unfold wipe
    by_cases e : v = i
    · rw [e, List.getElem?_set_self (by rw [wipe_length]; exact hl)]
    · rw [List.getElem?_set_ne e]
      rcases List.mem_cons.mp h with z | z
      · exact absurd z.symm e
      · exact wipe_at z hl
theorem Chg.wipe {σ σ' : L2.St} {L vs : List Nat} (h : Chg L (wipe σ vs) σ') (hL : ∀ j ∈ L, j ∈ vs) : L2.wipe σ' vs = L2.wipe σ vs := by
  apply List.ext_getElem?
  intro j
  have hl : σ'.length = σ.length := h.1.trans (wipe_length _ _)
  by_cases hj : j ∈ vs
  · by_cases hlt : j < σ.length
    · rw [wipe_at hj hlt, wipe_at hj (by rw [hl]; exact hlt)]
    · rw [List.getElem?_eq_none (by rw [wipe_length, hl]; omega), List.getElem?_eq_none (by rw [wipe_length]; omega)]
  · rw [wipe_out hj, h.2 j fun z => hj (hL j z)]
/-- .. and what is known of them -/
def ChE (L : List Nat) (es es' : List Sl) : Prop := es'.length = es.length ∧ (∀ j : Nat, j ∉ L → es'[j]? = es[j]?) ∧ ∀ j : Nat, j ∈ L → ∀ e, es'[j]? = some e → isOwn e = false
theorem ChE.refl : ChE [] es es := ⟨rfl, fun _ _ => rfl, fun _ h => by cases h⟩
theorem ChE.set {i : Nat} {x : D} : ChE [i] es (es.set i (.d x)) := ⟨List.length_set, fun j h => List.getElem?_set_ne fun z => h (by rw [z]; exact List.mem_singleton.mpr rfl), fun j h e q => by
  rw [List.mem_singleton.mp h] at q
  by_cases hl : i < es.length
  · rw [List.getElem?_set_self hl] at q
    cases q
    rfl
  · rw [List.getElem?_eq_none (by rw [List.length_set]; omega)] at q
    cases q⟩
theorem ChE.app {es1 es2 : List Sl} {L L' : List Nat} (a : ChE L es es1) (b : ChE L' es1 es2) : ChE (L ++ L') es es2 :=
  ⟨b.1.trans a.1, fun j h => (b.2.1 j fun z => h (List.mem_append_right _ z)).trans (a.2.1 j fun z => h (List.mem_append_left _ z)), fun j h e q => by
    by_cases hj : j ∈ L'
    · exact b.2.2 j hj e q
    · rw [b.2.1 j hj] at q
      exact a.2.2 j ((List.mem_append.mp h).elim id fun z => absurd z hj) e q⟩
def TG1 (F : Fc) (X : Cx) (tg : Expr) (L : List Nat) (es : List Sl) (d : D) (Ψ : List Sl → Prop) : Prop :=
  ∀ σ H v, Sg F H σ es → Dt (Mx F σ es) H v d → ∀ Q : L2.St → Hp → Prop, (∀ σ' es', Sg F H σ' es' → Tr F H σ es H σ' es' → Chg L σ σ' → ChE L es es' → Ψ es' → Q σ' H) → canG X tg v σ H Q
def TGL (F : Fc) (X : Cx) (tg : List Expr) (L : List Nat) (es : List Sl) (ds : List D) (Ψ : List Sl → Prop) : Prop :=
  ∀ σ H vs, Sg F H σ es → DtA (Mx F σ es) H vs ds → ∀ Q : L2.St → Hp → Prop, (∀ σ' es', Sg F H σ' es' → Tr F H σ es H σ' es' → Chg L σ σ' → ChE L es es' → Ψ es' → Q σ' H) → canGs X tg vs σ H Q
theorem Tr.all {H H' : Hp} {σ σ' : L2.St} {es es' : List Sl} (t : Tr F H σ es H' σ' es') : ∀ {vs : List V} {ds : List D}, DtA (Mx F σ es) H vs ds → DtA (Mx F σ' es') H' vs ds
  | [], _, h => by cases h; exact .nil
  | v :: vs, _, h => by
    cases h with
    | cons h1 h2 => exact .cons (t.dt h1) (Tr.all t h2)
theorem tg_name {i : Nat} {x : Str} {d : D} {Ψ : List Sl → Prop} (hN : X.N.Nodup) (hi : X.N[i]? = some x) (hx : Loc X.env.scope x) (hl : i < es.length) (q : Ψ (es.set i (.d d)))
    (hf : X.fn x = true ∨ X.env.scope.names.lookup x = some .local := by first | exact .inl rfl | exact .inr rfl | assumption) : TG1 F X (.Name x pos) [i] es d Ψ := fun σ H v s t Q k =>
  ⟨_, pg_name hN hi hx hf, k _ _ (s.set hl t) Tr.set Chg.set ChE.set q⟩
theorem tgl_nil {Ψ : List Sl → Prop} (q : Ψ es) : TGL F X [] [] es [] Ψ := fun σ H vs s t Q k => by
  cases t
  exact ⟨_, pgs_nil, rfl, k σ es s Tr.refl Chg.refl ChE.refl q⟩
theorem tgl_cons {r : List Expr} {L L' : List Nat} {d : D} {ds : List D} {Ψ : List Sl → Prop} (h : TG1 F X a L es d fun es' => TGL F X r L' es' ds Ψ) (hs : (assignEach (a :: r) X.env).map (·.2) = assign a X.env :: (assignEach r X.env).map (·.2) := by rfl) : TGL F X (a :: r) (L ++ L') es (d :: ds) Ψ := fun σ H vs s t Q k => by
  cases t with
  | cons t1 t2 =>
    refine ⟨_, pgs_cons can_g can_gs hs, _, _, rfl, ?_⟩
    refine h σ H _ s t1 _ fun σ' es' s' tr c ce q => ?_
    exact q σ' H _ s' (tr.all t2) _ fun σ2 es2 s2 tr2 c2 ce2 q2 => k σ2 es2 s2 (tr.trans tr2) (c.app c2) (ce.app ce2) q2
theorem tg_tup {r : List Expr} {n : Nat} {L : List Nat} {ds : List D} {Ψ : List Sl → Prop} (hc : X.calm = true) (hl : ds.length = r.length) (h : TGL F X r L es ds Ψ)
    (hn : (assignEach r X.env).length = r.length := by rfl) (hst : (assignEach r X.env).findIdx? (·.1) = none := by rfl) : TG1 F X (.Tuple r n pos) L es (.tuple ds) Ψ := fun σ H v s t Q k => by
  obtain ⟨p, xs, rfl, h1, h2, h3⟩ := t.tup_inv
  refine ⟨_, pg_tup hc can_gs hn hst, p, xs, rfl, SqT.of h1, h3.length.trans hl, ?_⟩
  exact h σ H xs s h3 Q k
/-- a tuple of targets, a tuple of values made and taken apart -/
theorem ws_unpack {tg : Expr} {L : List Nat} (h : W F X e es fun d => TG1 F X tg L es d K.nx) (hs : swapsWithSole [tg] e pos.line X.env = pure false := by rfl) (hw : swappedStores [tg] e X.env = pure none := by rfl)
    (h1 : (assignEach [tg] X.env).map (·.2) = [assign tg X.env] := by rfl) : WS F X (.Assign [tg] e pos) es K := fun σ H D s g => by
  refine ⟨_, ps_asg can_e can_g hs hw h1, ?_⟩
  refine h σ H s _ fun v d H' s' x t q => ?_
  exact q σ H' v s' t _ fun σ' es' s2 tr c _ q2 => g.nx σ' H' es' s2 ((Tr.of x.mx).trans tr) q2
/-! ### what is walked -/
def canI (X : Cx) (tg e : Expr) : TI := fun σ H R => ∃ t, PI X tg e t ∧ t σ H R
theorem can_i {tg : Expr} : PI X tg e (canI X tg e) := ⟨fun pins s σ H R I ⟨t, ht, q⟩ => ht.run pins s σ H R I q⟩
/-- J gives ds, one after another, as long as G stands; G stands while what it speaks of is kept -/
structure WkD (J : It) (ds : List D) (G : (Addr → Prop) → Hp → Prop) : Prop where
  mv : ∀ (M M' : Addr → Prop) (H H' : Hp), (∀ b o, H b = some o → ¬ M b → H' b = some o ∧ ¬ M' b) → G M H → G M' H'
  goes : ∀ (M : Addr → Prop) (H : Hp) (i : Nat), G M H → i < ds.length → J.go i H
  stops : ∀ (M : Addr → Prop) (H : Hp), G M H → J.stop ds.length H
  yields : ∀ (M : Addr → Prop) (H : Hp) (i : Nat) (x : V) (H' : Hp), (∀ b, M b → ∃ o, H b = some o) → G M H → i < ds.length → J.yld i H x H' → (∀ b o, H b = some o → H' b = some o) ∧ ∃ d, ds[i]? = some d ∧ Dt M H' x d
/-- the data of vs stand -/
def GDt (vs : List (V × D)) : (Addr → Prop) → Hp → Prop := fun M H => ∀ p ∈ vs, Dt M H p.1 p.2
theorem gdt_mv {vs : List (V × D)} (M M' : Addr → Prop) (H H' : Hp) (k : ∀ b o, H b = some o → ¬ M b → H' b = some o ∧ ¬ M' b) (g : GDt vs M H) : GDt vs M' H' := fun p hp => (g p hp).move k
def It1 (F : Fc) (X : Cx) (tg e : Expr) (es : List Sl) (Φ : List D → Prop) : Prop := ∀ σ H, Sg F H σ es → ∀ R : It → Hp → Prop,
  (∀ J G ds H', Sg F H' σ es → ExM F.M0 H H' → G (Mx F σ es) H' → WkD J ds G → Φ ds → R J H') → canI X tg e σ H R
theorem wk_tup {K : PySem.W.Frag} {a : Addr} {ds : List D} : WkD (Itt K a) ds (GDt [(.ref a, .tuple ds)]) := by
  have get : ∀ {M : Addr → Prop} {H : Hp}, (∀ p ∈ [(V.ref a, PyData.tuple ds)], Dt M H p.1 p.2) → ∃ xs, H a = some (.tup xs) ∧ DtA M H xs ds := fun {M H} h => by
    obtain ⟨a', xs, e, h1, _, h3⟩ := (h _ (List.mem_singleton.mpr rfl)).tup_inv
    cases e
    exact ⟨xs, h1, h3⟩
  refine ⟨gdt_mv, fun M H i h hi => ?_, fun M H h => ?_, fun M H i x H' kn h hi y => ?_⟩
  · obtain ⟨xs, h1, h3⟩ := get h
    exact (walk_tup (xs := xs)).goes i H (by rw [h3.length]; exact hi) (SqT.of h1)
  · obtain ⟨xs, h1, h3⟩ := get h
    have q := (walk_tup (K := K) (xs := xs)).stops H (SqT.of h1)
    rw [h3.length] at q
    exact q
  · obtain ⟨xs, h1, h3⟩ := get h
    obtain ⟨rfl, q⟩ := (walk_tup (xs := xs)).yields i H x H' (by rw [h3.length]; exact hi) (SqT.of h1) y
    exact ⟨fun _ _ z => z, h3.back q⟩
theorem wk_lst {K : PySem.W.Frag} {a : Addr} {ds : List D} : WkD (Itl K a) ds (GDt [(.ref a, .list ds)]) := by
  have get : ∀ {M : Addr → Prop} {H : Hp}, (∀ p ∈ [(V.ref a, PyData.list ds)], Dt M H p.1 p.2) → ∃ xs, H a = some (.lst xs) ∧ DtA M H xs ds := fun {M H} h => by
    obtain ⟨a', xs, e, h1, _, h3⟩ := (h _ (List.mem_singleton.mpr rfl)).lst_inv
    cases e
    exact ⟨xs, h1, h3⟩
  refine ⟨gdt_mv, fun M H i h hi => ?_, fun M H h => ?_, fun M H i x H' kn h hi y => ?_⟩
  · obtain ⟨xs, h1, h3⟩ := get h
    exact (walk_list (xs := xs)).goes i H (by rw [h3.length]; exact hi) (SqL.of h1)
  · obtain ⟨xs, h1, h3⟩ := get h
    have q := (walk_list (K := K) (xs := xs)).stops H (SqL.of h1)
    rw [h3.length] at q
    exact q
  · obtain ⟨xs, h1, h3⟩ := get h
    obtain ⟨rfl, q⟩ := (walk_list (xs := xs)).yields i H x H' (by rw [h3.length]; exact hi) (SqL.of h1) y
    exact ⟨fun _ _ z => z, h3.back q⟩
def irng (lo : Int) (n : Nat) : List D := (List.range n).map fun i => .int (lo + (i : Nat))
theorem irng_len {lo : Int} {n : Nat} : (irng lo n).length = n := by unfold irng; rw [List.length_map, List.length_range]
theorem irng_at {lo : Int} {n i : Nat} (h : i < n) : (irng lo n)[i]? = some (.int (lo + (i : Nat))) := by
  unfold irng
  rw [List.getElem?_map, List.getElem?_range h]
  rfl
theorem wk_range {lo : Int} {n : Nat} : WkD (Itr lo n) (irng lo n) (GDt []) :=
  ⟨gdt_mv, fun _ _ i _ hi => by rw [irng_len] at hi; exact hi, fun _ _ _ => by rw [irng_len]; exact Nat.le_refl _, fun M H i x H' _ _ hi y => by
    rw [irng_len] at hi
    obtain ⟨e1, e2⟩ := y
    subst e1 e2
    exact ⟨fun _ _ z => z, _, irng_at hi, .int _⟩⟩
def pairs : List D → List D → List D
  | x :: xs, y :: ys => .tuple [x, y] :: pairs xs ys
  | _, _ => []
theorem pairs_len : ∀ xs ys : List D, (pairs xs ys).length = min xs.length ys.length
  | [], _ => by simp [pairs]
  | _ :: _, [] => by simp [pairs]
  | x :: xs, y :: ys => by simp [pairs, pairs_len xs ys]
theorem pairs_at : ∀ (xs ys : List D) (i : Nat) (x y : D), xs[i]? = some x → ys[i]? = some y → (pairs xs ys)[i]? = some (.tuple [x, y])
  | [], _, _, _, _, h, _ => by simp at h
  | _ :: _, [], _, _, _, _, h => by simp at h
  | x :: xs, y :: ys, 0, _, _, h, g => by simp at h g; subst h g; rfl
  | x :: xs, y :: ys, i + 1, _, _, h, g => by simpa [pairs] using pairs_at xs ys i _ _ (by simpa using h) (by simpa using g)
theorem pair_dt {M : Addr → Prop} {H : Hp} {T : Addr} {x y : V} {p q : D} (kn : ∀ b, M b → ∃ o, H b = some o) (n : H T = none) (hx : Dt M H x p) (hy : Dt M H y q) : Dt M (upd H T (.tup [x, y])) (.ref T) (.tuple [p, q]) :=
  .tup upd_same (fun z => by
    obtain ⟨o, e⟩ := kn T z
    rw [n] at e
    cases e) (.cons (hx.mono (ExM.new n)) (.cons (hy.mono (ExM.new n)) .nil))
theorem wk_zipT {K : PySem.W.Frag} {a b : Addr} {xs ys : List D} : WkD (ItzT K a b) (pairs xs ys) (GDt [(.ref a, .tuple xs), (.ref b, .tuple ys)]) := by
  have get : ∀ {M : Addr → Prop} {H : Hp}, (∀ p ∈ [(V.ref a, PyData.tuple xs), (V.ref b, PyData.tuple ys)], Dt M H p.1 p.2) → (∃ vs, H a = some (.tup vs) ∧ DtA M H vs xs) ∧ ∃ us, H b = some (.tup us) ∧ DtA M H us ys := fun {M H} h => by
    obtain ⟨a', vs, e, h1, _, h3⟩ := (h _ List.mem_cons_self).tup_inv
    cases e
    obtain ⟨b', us, e, g1, _, g3⟩ := (h _ (List.mem_cons_of_mem _ List.mem_cons_self)).tup_inv
    cases e
    exact ⟨⟨vs, h1, h3⟩, us, g1, g3⟩
  refine ⟨gdt_mv, fun M H i h hi => ?_, fun M H h => ?_, fun M H i x H' kn h hi y => ?_⟩
  · obtain ⟨⟨vs, h1, h3⟩, us, g1, g3⟩ := get h
    rw [pairs_len] at hi
    have e1 : i < vs.length := by rw [h3.length]; omega
    have e2 : i < us.length := by rw [g3.length]; omega
    exact ⟨vs, us, vs[i], us[i], SqT.of h1, SqT.of g1, by simp [e1], by simp [e2]⟩
  · obtain ⟨⟨vs, h1, h3⟩, us, g1, g3⟩ := get h
    exact ⟨vs, us, SqT.of h1, SqT.of g1, by rw [pairs_len, h3.length, g3.length]; omega⟩
  · obtain ⟨⟨vs, h1, h3⟩, us, g1, g3⟩ := get h
    obtain ⟨T, v, u, rfl, n, rfl, f1, f2⟩ := y
    have q1 := f1 vs (SqT.of h1)
    have q2 := f2 us (SqT.of g1)
    obtain ⟨p, e1, t1⟩ := h3.back q1
    obtain ⟨q, e2, t2⟩ := g3.back q2
    exact ⟨fun b o e => by rw [upd_ne (ne_of_none e n)]; exact e, _, pairs_at xs ys i p q e1 e2, pair_dt kn n t1 t2⟩
theorem wk_zipL {K : PySem.W.Frag} {a b : Addr} {xs ys : List D} : WkD (Itz K a b) (pairs xs ys) (GDt [(.ref a, .list xs), (.ref b, .list ys)]) := by
  have get : ∀ {M : Addr → Prop} {H : Hp}, (∀ p ∈ [(V.ref a, PyData.list xs), (V.ref b, PyData.list ys)], Dt M H p.1 p.2) → (∃ vs, H a = some (.lst vs) ∧ DtA M H vs xs) ∧ ∃ us, H b = some (.lst us) ∧ DtA M H us ys := fun {M H} h => by
    obtain ⟨a', vs, e, h1, _, h3⟩ := (h _ List.mem_cons_self).lst_inv
    cases e
    obtain ⟨b', us, e, g1, _, g3⟩ := (h _ (List.mem_cons_of_mem _ List.mem_cons_self)).lst_inv
    cases e
    exact ⟨⟨vs, h1, h3⟩, us, g1, g3⟩
  refine ⟨gdt_mv, fun M H i h hi => ?_, fun M H h => ?_, fun M H i x H' kn h hi y => ?_⟩
  · obtain ⟨⟨vs, h1, h3⟩, us, g1, g3⟩ := get h
    rw [pairs_len] at hi
    have e1 : i < vs.length := by rw [h3.length]; omega
    have e2 : i < us.length := by rw [g3.length]; omega
    exact ⟨vs, us, vs[i], us[i], SqL.of h1, SqL.of g1, by simp [e1], by simp [e2]⟩
  · obtain ⟨⟨vs, h1, h3⟩, us, g1, g3⟩ := get h
    exact ⟨vs, us, SqL.of h1, SqL.of g1, by rw [pairs_len, h3.length, g3.length]; omega⟩
  · obtain ⟨⟨vs, h1, h3⟩, us, g1, g3⟩ := get h
    obtain ⟨T, v, u, rfl, n, rfl, f1, f2⟩ := y
    have q1 := f1 vs (SqL.of h1)
    have q2 := f2 us (SqL.of g1)
    obtain ⟨p, e1, t1⟩ := h3.back q1
    obtain ⟨q, e2, t2⟩ := g3.back q2
    exact ⟨fun b o e => by rw [upd_ne (ne_of_none e n)]; exact e, _, pairs_at xs ys i p q e1 e2, pair_dt kn n t1 t2⟩
/-- over a tuple, a list, whatever stands there -/
theorem it_tup {tg : Expr} {Ψ : List D → Prop} (h : W F X e es fun d => ∃ ds, d = .tuple ds ∧ Ψ ds) : It1 F X tg e es Ψ := fun σ H s R k => by
  refine ⟨_, pi_tup can_e, ?_⟩
  refine h σ H s _ fun v d H' s' x t ⟨ds, e, q⟩ => ?_
  subst e
  obtain ⟨a, xs, rfl, h1, h2, h3⟩ := id t.tup_inv
  exact ⟨a, rfl, ⟨xs, SqT.of h1⟩, k _ (GDt [(.ref a, .tuple ds)]) ds H' s' x (fun p hp => by rw [List.mem_singleton.mp hp]; exact t) wk_tup q⟩
theorem it_lst {tg : Expr} {Ψ : List D → Prop} (h : W F X e es fun d => ∃ ds, d = .list ds ∧ Ψ ds) : It1 F X tg e es Ψ := fun σ H s R k => by
  refine ⟨_, pi_list can_e, ?_⟩
  refine h σ H s _ fun v d H' s' x t ⟨ds, e, q⟩ => ?_
  subst e
  obtain ⟨a, xs, rfl, h1, h2, h3⟩ := id t.lst_inv
  exact ⟨a, rfl, ⟨xs, SqL.of h1⟩, k _ (GDt [(.ref a, .list ds)]) ds H' s' x (fun p hp => by rw [List.mem_singleton.mp hp]; exact t) wk_lst q⟩
theorem it_range1 {tg : Expr} {p : Pos} {Ψ : List D → Prop} (hg : Gl X "range") (hm : X.mg "range" = none) (h : WA F X [a] es fun ds => ∃ n : Int, ds = [.int n] ∧ -(2 ^ 62) ≤ n ∧ n < 2 ^ 62 ∧ Ψ (irng 0 n.toNat))
    (hs : starEach [a] X.env = [(false, eval a X.env)] := by rfl) : It1 F X tg (.Call (.Name "range" p) [a] [] pos) es Ψ := fun σ H s R k => by
  refine ⟨_, pi_range1 hg hm can_a hs, ?_⟩
  refine h σ H s _ fun vs ds H' s' x t ⟨n, e, q1, q2, q⟩ => ?_
  subst e
  cases t with
  | cons t1 t2 =>
    cases t2
    exact ⟨n, by rw [t1.int_inv], q1, q2, k _ (GDt []) _ H' s' x (fun p hp => by cases hp) wk_range q⟩
theorem it_range2 {tg : Expr} {p : Pos} {Ψ : List D → Prop} (hg : Gl X "range") (hm : X.mg "range" = none) (h : WA F X [a, b] es fun ds => ∃ m n : Int, ds = [.int m, .int n] ∧ (-(2 ^ 62) ≤ m ∧ m < 2 ^ 62 ∧ -(2 ^ 62) ≤ n ∧ n < 2 ^ 62) ∧ Ψ (irng m (n - m).toNat))
    (hs : starEach [a, b] X.env = [(false, eval a X.env), (false, eval b X.env)] := by rfl) (hs2 : starEach [b] X.env = [(false, eval b X.env)] := by rfl) : It1 F X tg (.Call (.Name "range" p) [a, b] [] pos) es Ψ := fun σ H s R k => by
  refine ⟨_, pi_range2 hg hm can_a hs hs2, ?_⟩
  refine h σ H s _ fun vs ds H' s' x t ⟨m, n, e, q1, q⟩ => ?_
  subst e
  cases t with
  | cons t1 t2 =>
    cases t2 with
    | cons t2 t3 =>
      cases t3
      exact ⟨m, n, by rw [t1.int_inv, t2.int_inv], q1, k _ (GDt []) _ H' s' x (fun p hp => by cases hp) wk_range q⟩
theorem it_zip {r : List Expr} {n : Nat} {tpos p : Pos} {Ψ : List D → Prop} (hg : Gl X "zip") (hm : X.mg "zip" = none)
    (h : WA F X [a, b] es fun ds => ∃ xs ys, (ds = [.tuple xs, .tuple ys] ∨ ds = [.list xs, .list ys]) ∧ Ψ (pairs xs ys))
    (hs : starEach [a, b] X.env = (false, eval a X.env) :: starEach [b] X.env := by rfl) (hpl : (backTo pos (starEach [b] X.env)).any (·.1) = false := by rfl) : It1 F X (.Tuple r n tpos) (.Call (.Name "zip" p) [a, b] [] pos) es Ψ := fun σ H s R k => by
  refine ⟨_, pi_zipA hg hm can_a hs hpl, ?_⟩
  refine h σ H s _ fun vs ds H' s' x t ⟨xs, ys, e, q⟩ => ?_
  rcases e with e | e
  · subst e
    cases t with
    | cons t1 t2 =>
      cases t2 with
      | cons t2 t3 =>
        cases t3
        obtain ⟨a1, v1, rfl, h1, _, _⟩ := id t1.tup_inv
        obtain ⟨a2, v2, rfl, h2, _, _⟩ := id t2.tup_inv
        exact ⟨a1, a2, v1, v2, rfl, .inr ⟨SqT.of h1, SqT.of h2, k _ (GDt [(.ref a1, .tuple xs), (.ref a2, .tuple ys)]) _ H' s' x (fun p hp => by
          rcases List.mem_cons.mp hp with z | z
          · rw [z]; exact t1
          · rw [List.mem_singleton.mp z]; exact t2) wk_zipT q⟩⟩
  · subst e
    cases t with
    | cons t1 t2 =>
      cases t2 with
      | cons t2 t3 =>
        cases t3
        obtain ⟨a1, v1, rfl, h1, _, _⟩ := id t1.lst_inv
        obtain ⟨a2, v2, rfl, h2, _, _⟩ := id t2.lst_inv
        exact ⟨a1, a2, v1, v2, rfl, .inl ⟨SqL.of h1, SqL.of h2, k _ (GDt [(.ref a1, .list xs), (.ref a2, .list ys)]) _ H' s' x (fun p hp => by
          rcases List.mem_cons.mp hp with z | z
          · rw [z]; exact t1
          · rw [List.mem_singleton.mp z]; exact t2) wk_zipL q⟩⟩
/-! ### for -/
theorem ws_for {tg iter : Expr} {L : List Nat} {body : List Stmt} (hp : PassesOwn (model X.prog X.w) X.A X.env X.xe) (hc : X.calm = true) (hs : ∀ x, foldedSetIterable iter X.env x = pure x := by intro _; rfl)
    (h : It1 F X tg iter es fun ds => ∃ Pv : Nat → List Sl → Prop, Pv 0 es ∧ (∀ i es1 d, ds[i]? = some d → Pv i es1 → TG1 F X tg L es1 d fun es2 => WB F X body es2 { nx := Pv (i + 1), ct := Pv (i + 1), bk := K.nx, rt := K.rt }) ∧ ∀ es1, Pv ds.length es1 → K.nx es1) :
    WS F X (.For tg iter body [] pos) es K := fun σ H D s g => by
  refine ⟨_, ps_for hp hc can_i can_g can_b hs, ?_⟩
  refine h σ H s _ fun J G ds H1 s1 x1 hv wk ⟨Pv, i0, turn, fin⟩ => ?_
  refine ⟨fun i m σ' H' => ∃ es', m = ds.length - i ∧ i ≤ ds.length ∧ Sg F H' σ' es' ∧ Tr F H1 σ es H' σ' es' ∧ Pv i es', ⟨_, es, rfl, Nat.zero_le _, s1, Tr.refl, i0⟩, ?_⟩
  rintro i m σ' H' ⟨es', rfl, hi, s', t', inv⟩
  have hv' : G (Mx F σ' es') H' := wk.mv _ _ _ _ t' hv
  have g' : Go F σ' es' H' K D := g.from ((Tr.of x1.mx).trans t')
  by_cases hlt : i < ds.length
  · refine .inr ⟨wk.goes _ _ i hv' hlt, fun σ2 H2 => ∃ es2, Sg F H2 σ2 es2 ∧ Tr F H1 σ es H2 σ2 es2 ∧ Pv (i + 1) es2, fun σ2 H2 ⟨es2, q1, q2, q3⟩ => ⟨_, Nat.sub_lt_sub_left hlt (Nat.lt_succ_self i), es2, rfl, hlt, q1, q2, q3⟩, fun x H2 y => ?_⟩
    obtain ⟨ex, d, hd, td⟩ := wk.yields _ H' i x H2 s'.kn hv' hlt y
    have s2 := s'.grow ex
    refine turn i es' d hd inv σ' H2 x s2 td _ fun σ3 es3 s3 t3 _ _ q3 => ?_
    have t13 : Tr F H1 σ es H2 σ3 es3 := (t'.trans (Tr.of (ExM.of ex))).trans t3
    refine q3 σ3 H2 _ s3 ⟨fun σ4 H4 es4 s4 t4 q4 => ⟨es4, s4, t13.trans t4, q4⟩, g.rt, fun σ4 H4 es4 s4 t4 q4 => ?_, fun σ4 H4 es4 s4 t4 q4 => ⟨es4, s4, t13.trans t4, q4⟩⟩
    exact g.nx σ4 H4 es4 s4 (((Tr.of x1.mx).trans t13).trans t4) q4
  · have e : i = ds.length := by omega
    subst e
    exact .inl ⟨wk.stops _ _ hv', g'.nx σ' H' es' s' Tr.refl (fin es' inv)⟩
end
end DW
namespace DW
open PySem L2 RZ
/-- one more owned object: the list that a comprehension fills -/
def Fc.plus (F : Fc) (p : Addr) (o : HO) (hp : ¬ F.M0 p) : Fc where
  H0 := F.H0
  M0 := fun b => F.M0 b ∨ b = p
  dk := F.dk
  w := F.w
  ok := fun H => F.ok H ∧ H p = some o
  okx := fun H H' h e => ⟨F.okx H H' h.1 fun b o' hb => e b o' (.inl hb), e p o (.inr rfl) h.2⟩
  kn := fun H h b hb => by
    rcases hb with hb | hb
    · exact F.kn H h.1 b hb
    · exact ⟨o, by rw [hb]; exact h.2⟩
  dkM := fun a c h => let ⟨q1, q2, q3⟩ := F.dkM a c h; ⟨.inl q1, .inl q2, q3⟩
  dkH := fun a c h H k => F.dkH a c h H k.1
  dkS := fun a c h H H' k e q => ⟨F.dkS a c h H H' k.1 (fun b o' hb => e b o' (.inl hb)) q, e p o (.inr rfl) k.2 (fun z => hp (z ▸ (F.dkM a c h).1)) (fun z => hp (z ▸ (F.dkM a c h).2.1))⟩
/-- none of these slots is of one's own -/
def noOwn (es : List Sl) (vs : List Nat) : Bool := vs.all fun j => match es[j]? with
  | some (.own _) => false
  | some (.od _) => false
  | some (.oda _ _) => false
  | some (.fd _) => false
  | _ => true
theorem noOwn_of {es : List Sl} {vs : List Nat} (h : noOwn es vs = true) : ∀ j ∈ vs, ∀ e, es[j]? = some e → isOwn e = false := fun j hj e he => by
  have q := List.all_eq_true.mp h j hj
  cases e <;> simp only [he] at q <;> first | rfl | cases q
theorem noFd_of {es : List Sl} {vs : List Nat} (h : noOwn es vs = true) : ∀ j ∈ vs, ∀ kvs, es[j]? ≠ some (.fd kvs) := fun j hj kvs he => by
  have q := List.all_eq_true.mp h j hj
  simp only [he] at q
  cases q
def wipeS : List Sl → List Nat → List Sl
  | es, [] => es
  | es, v :: vs => (wipeS es vs).set v .no
theorem wipeS_len (es : List Sl) : ∀ vs : List Nat, (wipeS es vs).length = es.length
  | [] => rfl
  | v :: vs => by unfold wipeS; rw [List.length_set, wipeS_len es vs]
theorem wipeS_some {es : List Sl} {i : Nat} {e : Sl} : ∀ {vs : List Nat}, (wipeS es vs)[i]? = some e → (i ∈ vs ∧ e = .no) ∨ (i ∉ vs ∧ es[i]? = some e)
  | [], h => .inr ⟨by simp, h⟩
  | v :: vs, h => by
    unfold wipeS at h
    by_cases hi : v = i
    · subst hi
      by_cases hl : v < (wipeS es vs).length
      · rw [List.getElem?_set_self hl] at h
        cases h
        exact .inl ⟨List.mem_cons_self, rfl⟩
      · rw [List.getElem?_eq_none (by rw [List.length_set]; omega)] at h
        cases h
    · rw [List.getElem?_set_ne hi] at h
      rcases wipeS_some h with ⟨q1, q2⟩ | ⟨q1, q2⟩
      · exact .inl ⟨List.mem_cons_of_mem _ q1, q2⟩
      · exact .inr ⟨by simp only [List.mem_cons, not_or]; exact ⟨fun z => hi z.symm, q1⟩, q2⟩
theorem wipeS_out {es : List Sl} {i : Nat} : ∀ {vs : List Nat}, i ∉ vs → (wipeS es vs)[i]? = es[i]?
  | [], _ => rfl
  | v :: vs, h => by
    unfold wipeS
    rw [List.getElem?_set_ne fun z => h (by rw [z]; exact List.mem_cons_self)]
    exact wipeS_out fun z => h (List.mem_cons_of_mem _ z)
section
variable {F : Fc} {X : Cx} {e a b c : Expr} {es : List Sl} {Φ : D → Prop} {K : Ek} {pos : Pos} {s : Stmt} {ss : List Stmt} {H H' : Hp} {σ : L2.St}
theorem own_wipe {vs : List Nat} (hz : ∀ j ∈ vs, ∀ e, es[j]? = some e → isOwn e = false) : Own (wipe σ vs) (wipeS es vs) = Own σ es := by
  funext l
  apply propext
  constructor
  · rintro ⟨i, e, h1, h2, h3⟩
    rcases wipeS_some h1 with ⟨_, q⟩ | ⟨q1, q2⟩
    · rw [q] at h2
      cases h2
    · rw [wipe_out q1] at h3
      exact ⟨i, e, q2, h2, h3⟩
  · rintro ⟨i, e, h1, h2, h3⟩
    have hi : i ∉ vs := fun z => by
      rw [hz i z e h1] at h2
      cases h2
    exact ⟨i, e, by rw [wipeS_out hi]; exact h1, h2, by rw [wipe_out hi]; exact h3⟩
theorem mx_wipe {vs : List Nat} (hz : ∀ j ∈ vs, ∀ e, es[j]? = some e → isOwn e = false) : Mx F (wipe σ vs) (wipeS es vs) = Mx F σ es := by
  funext l
  unfold Mx
  rw [own_wipe hz]
theorem Sg.wipe {vs : List Nat} (hz : ∀ j ∈ vs, ∀ e, es[j]? = some e → isOwn e = false) (s : Sg F H σ es) : Sg F H (L2.wipe σ vs) (wipeS es vs) where
  len := by rw [wipeS_len, wipe_length]; exact s.len
  ext := s.ext
  ok := s.ok
  dat := fun i x h => by
    rcases wipeS_some h with ⟨_, q⟩ | ⟨q1, q2⟩
    · cases q
    · rw [mx_wipe hz, wipe_out q1]
      exact s.dat i x q2
  own := fun i x h z => by
    rcases wipeS_some h with ⟨_, q⟩ | ⟨q1, q2⟩
    · rw [q] at z
      cases z
    · rw [mx_wipe hz, wipe_out q1]
      exact s.own i x q2 z
  inj := fun i j e e' l h1 h2 z1 z2 h3 h4 => by
    rcases wipeS_some h1 with ⟨_, q⟩ | ⟨q1, q2⟩
    · rw [q] at z1
      cases z1
    · rcases wipeS_some h2 with ⟨_, r⟩ | ⟨r1, r2⟩
      · rw [r] at z2
        cases z2
      · rw [wipe_out q1] at h3
        rw [wipe_out r1] at h4
        exact s.inj i j e e' l q2 r2 z1 z2 h3 h4
  dk := fun i h => by
    rcases wipeS_some h with ⟨_, q⟩ | ⟨q1, q2⟩
    · cases q
    · rw [wipe_out q1]
      exact s.dk i q2
  fd := fun i kvs h => by
    rcases wipeS_some h with ⟨_, q⟩ | ⟨q1, q2⟩
    · cases q
    · rw [wipe_out q1, mx_wipe hz]
      exact s.fd i kvs q2
theorem own_free (s : Sg F H σ es) {p : Addr} (h : H p = none) : ¬ Own σ es p := fun z => s.fresh h (.inr z)
/-- the new list comes under the owned -/
theorem Sg.plus (s : Sg F H σ es) {p : Addr} (o : HO) (h : H p = none) : Sg (F.plus p o fun z => s.fresh h (.inl z)) (upd H p o) σ es := by
  have mv : ∀ b u, H b = some u → ¬ Mx F σ es b → upd H p o b = some u ∧ ¬ Mx (F.plus p o fun z => s.fresh h (.inl z)) σ es b := fun b u q n => by
    have hb : b ≠ p := ne_of_none q h
    refine ⟨by rw [upd_ne hb]; exact q, fun z => ?_⟩
    rcases z with (z | z) | z
    · exact n (.inl z)
    · exact hb z
    · exact n (.inr z)
  refine ⟨s.len, fun b u q n => ?_, ⟨(s.new h).ok, upd_same⟩, fun i x q => ?_, fun i x q z => ?_, s.inj, s.dk, fun i kvs q => let ⟨l, od, xs, q1, q2, q4, q3⟩ := s.fd i kvs q; ⟨l, od, xs, q1, (mv l _ q2 q4).1, (mv l _ q2 q4).2, KvOk.move mv q3⟩⟩
  · exact (mv b u (s.ext b u q fun z => n (.inl z)) fun z => (z.elim (fun z => n (.inl z)) fun z => by
      obtain ⟨j, e, h1, h2, h3⟩ := z
      obtain ⟨l, q1, q0, _, _⟩ := s.own j e h1 h2
      rw [h3] at q1
      cases q1
      have q' : F.H0 b = some u := q
      rw [q0.1] at q'
      cases q')).1
  · obtain ⟨v, r1, r2⟩ := s.dat i x q
    exact ⟨v, r1, r2.move mv⟩
  · obtain ⟨l, r1, ⟨r2, r3⟩, ⟨u, r4⟩, r5⟩ := s.own i x q z
    have hl : l ≠ p := ne_of_none r4 h
    exact ⟨l, r1, ⟨r2, fun z => z.elim r3 hl⟩, ⟨u, by rw [upd_ne hl]; exact r4⟩, r5.move mv fun o e => by rw [upd_ne hl]; exact e⟩
/-- it is filled -/
theorem Sg.refill {p : Addr} {o : HO} {hp : ¬ F.M0 p} (s : Sg (F.plus p o hp) H σ es) (o' : HO) (h0 : F.H0 p = none) (no : ¬ Own σ es p) : Sg (F.plus p o' hp) (upd H p o') σ es := by
  have ex : ExM (Mx (F.plus p o hp) σ es) H (upd H p o') := fun b u q n => by
    rw [upd_ne fun z => n (.inl (.inr z))]
    exact q
  refine ⟨s.len, fun b u q n => ?_, ⟨F.okx H _ s.ok.1 fun b u hb q => ?_, upd_same⟩, fun i x q => ?_, fun i x q z => ?_, s.inj, s.dk, fun i kvs q => ?_⟩
  · rw [upd_ne fun z => n (.inr z)]
    exact s.ext b u q n
  · rw [upd_ne fun z => hp (by rw [← z]; exact hb)]
    exact q
  · obtain ⟨v, r1, r2⟩ := s.dat i x q
    exact ⟨v, r1, r2.mono ex⟩
  · obtain ⟨l, r1, r2, ⟨u, r4⟩, r5⟩ := s.own i x q z
    have hl : l ≠ p := fun y => r2.2 (.inr y)
    exact ⟨l, r1, r2, ⟨u, by rw [upd_ne hl]; exact r4⟩, r5.mono ex fun o e => by rw [upd_ne hl]; exact e⟩
  · obtain ⟨l, od, xs, q1, q2, q4, q3⟩ := s.fd i kvs q
    exact ⟨l, od, xs, q1, ex l _ q2 q4, q4, KvOk.move (fun b o q n => ⟨ex b o q n, n⟩) q3⟩
/-- it is let go -/
theorem Sg.less {p : Addr} {o : HO} {hp : ¬ F.M0 p} (s : Sg (F.plus p o hp) H σ es) (h0 : F.H0 p = none) : Sg F H σ es := by
  have wk : ∀ b, Mx F σ es b → Mx (F.plus p o hp) σ es b := fun b z => z.elim (fun z => .inl (.inl z)) .inr
  refine ⟨s.len, fun b u q n => s.ext b u q fun z => z.elim n fun z => ?_, s.ok.1, fun i x q => ?_, fun i x q z => ?_, s.inj, s.dk, fun i kvs q => let ⟨l, od, xs, q1, q2, q4, q3⟩ := s.fd i kvs q; ⟨l, od, xs, q1, q2, fun z => q4 (wk l z), KvOk.move (fun b o q n => ⟨q, fun z => n (wk b z)⟩) q3⟩⟩
  · rw [z, h0] at q
    cases q
  · obtain ⟨v, r1, r2⟩ := s.dat i x q
    exact ⟨v, r1, r2.weak wk⟩
  · obtain ⟨l, r1, r2, r4, r5⟩ := s.own i x q z
    exact ⟨l, r1, ⟨r2.1, fun y => r2.2 (.inl y)⟩, r4, r5.weak wk⟩
/-- fresh at the entry -/
theorem Sg.fresh0 (s : Sg F H σ es) {p : Addr} (h : H p = none) : F.H0 p = none := by
  cases q : F.H0 p with
  | none => rfl
  | some o =>
    rw [s.ext p o q fun z => s.fresh h (.inl z)] at h
    cases h
theorem fresh_ex (s : Sg F H' σ es) (x : ExM F.M0 H H') {p : Addr} (h : H' p = none) : H p = none := by
  cases q : H p with
  | none => rfl
  | some o =>
    rw [x p o q fun z => s.fresh h (.inl z)] at h
    cases h
theorem own_blk {vs L : List Nat} {σ3 : L2.St} {es3 : List Sl} (hz : ∀ j ∈ vs, ∀ e, es[j]? = some e → isOwn e = false) (hL : ∀ j ∈ L, j ∈ vs) (c : Chg L (L2.wipe σ vs) σ3) (ce : ChE L (wipeS es vs) es3) {j : Nat} {e : Sl} (z : isOwn e = true) : es3[j]? = some e → j ∉ vs ∧ es[j]? = some e ∧ σ3[j]? = σ[j]? := fun h => by
  have hj : j ∉ L := fun q => by
    rw [ce.2.2 j q e h] at z
    cases z
  rw [ce.2.1 j hj] at h
  rcases wipeS_some h with ⟨_, q⟩ | ⟨q1, q2⟩
  · rw [q] at z
    cases z
  · exact ⟨q1, q2, (c.2 j hj).trans (wipe_out q1)⟩
theorem own_in {vs L : List Nat} {σ3 : L2.St} {es3 : List Sl} (hz : ∀ j ∈ vs, ∀ e, es[j]? = some e → isOwn e = false) (hL : ∀ j ∈ L, j ∈ vs) (c : Chg L (L2.wipe σ vs) σ3) (ce : ChE L (wipeS es vs) es3) {j : Nat} {e : Sl} (z : isOwn e = true) : es[j]? = some e → es3[j]? = some e ∧ σ3[j]? = σ[j]? := fun h => by
  have hv : j ∉ vs := fun q => by
    rw [hz j q e h] at z
    cases z
  have hj : j ∉ L := fun q => hv (hL j q)
  exact ⟨by rw [ce.2.1 j hj, wipeS_out hv]; exact h, (c.2 j hj).trans (wipe_out hv)⟩
theorem mx_blk {vs L : List Nat} {σ3 : L2.St} {es3 : List Sl} (hz : ∀ j ∈ vs, ∀ e, es[j]? = some e → isOwn e = false) (hL : ∀ j ∈ L, j ∈ vs) (c : Chg L (L2.wipe σ vs) σ3) (ce : ChE L (wipeS es vs) es3) : Mx F σ3 es3 = Mx F σ es := by
  funext l
  apply propext
  refine or_congr Iff.rfl ⟨?_, ?_⟩
  · rintro ⟨i, e, h1, h2, h3⟩
    obtain ⟨_, q2, q3⟩ := own_blk hz hL c ce h2 h1
    exact ⟨i, e, q2, h2, by rw [← q3]; exact h3⟩
  · rintro ⟨i, e, h1, h2, h3⟩
    obtain ⟨q2, q3⟩ := own_in hz hL c ce h2 h1
    exact ⟨i, e, q2, h2, by rw [q3]; exact h3⟩
/-- out of the block again -/
theorem Sg.unblk {vs L : List Nat} {σ3 : L2.St} {es3 : List Sl} (s0 : Sg F H σ es) (s5 : Sg F H' σ3 es3) (x : ExM (Mx F σ es) H H') (hf : ∀ j ∈ vs, ∀ kvs, es[j]? ≠ some (.fd kvs)) (hz : ∀ j ∈ vs, ∀ e, es[j]? = some e → isOwn e = false) (hL : ∀ j ∈ L, j ∈ vs) (c : Chg L (L2.wipe σ vs) σ3) (ce : ChE L (wipeS es vs) es3) : Sg F H' σ es where
  len := s0.len
  ext := s5.ext
  ok := s5.ok
  dat := fun i y h => let ⟨v, q, r⟩ := s0.dat i y h; ⟨v, q, r.mono x⟩
  own := fun i e h z => by
    obtain ⟨q2, q3⟩ := own_in hz hL c ce z h
    obtain ⟨l, r1, r2, r3, r4⟩ := s5.own i e q2 z
    rw [mx_blk hz hL c ce] at r4
    exact ⟨l, by rw [← q3]; exact r1, r2, r3, r4⟩
  inj := s0.inj
  dk := s0.dk
  fd := fun i kvs h => by
    have hv : i ∉ vs := fun q => hf i q kvs h
    have hj : i ∉ L := fun q => hv (hL i q)
    have e1 : es3[i]? = some (.fd kvs) := by rw [ce.2.1 i hj, wipeS_out hv]; exact h
    have e2 : σ3[i]? = σ[i]? := (c.2 i hj).trans (wipe_out hv)
    obtain ⟨l, od, xs, q1, q2, q4, q3⟩ := s5.fd i kvs e1
    rw [mx_blk hz hL c ce] at q3 q4
    exact ⟨l, od, xs, by rw [← e2]; exact q1, q2, q4, q3⟩
/-! ### comprehensions -/
def canTs (X : Cx) (ifs : List Expr) : TT := fun σ H Q => ∃ t, PTs X ifs t ∧ t σ H Q
theorem can_ts {ifs : List Expr} : PTs X ifs (canTs X ifs) := ⟨fun pins s σ H Q I ⟨t, ht, q⟩ => ht.run pins s σ H Q I q⟩
def TI1 (F : Fc) (X : Cx) (ifs : List Expr) (es : List Sl) (Ψ : Bool → Prop) : Prop := ∀ σ H, Sg F H σ es → ∀ Q : Bool → Hp → Prop, (∀ b H', Sg F H' σ es → ExM F.M0 H H' → Ψ b → Q b H') → canTs X ifs σ H Q
theorem ti_nil {Ψ : Bool → Prop} (q : Ψ true) : TI1 F X [] es Ψ := fun σ H s Q k => ⟨_, pts_nil, k true H s ExM.refl q⟩
theorem ti_one {Ψ : Bool → Prop} (h : T F X c es Ψ) : TI1 F X [c] es Ψ := fun σ H s Q k => ⟨_, pts_one can_t, h σ H s Q k⟩
abbrev Bk (X : Cx) (scope : Scope) (s : Shared) (H : Hp) (C : Addr) (cl : List (Str × Addr)) (fp : List Addr) : Cx := X.blk s H scope (compEnvC scope cl C X.env) fp
/-- what a comprehension wants: its source, a word over the turn and what is made so far, each turn in the block -/
def LcW (F : Fc) (X : Cx) (elt tg iter : Expr) (ifs : List Expr) (scope : Scope) (vs L : List Nat) (es : List Sl) (Ψ : List D → Prop) : Prop :=
  It1 F X tg iter es fun ds => ∃ Pv : Nat → List D → Prop, Pv 0 [] ∧ (∀ i d acc, ds[i]? = some d → Pv i acc → acc.length < sizeLine ∧ ∀ F' : Fc, F'.dk = F.dk → F'.w = F.w → ∀ s H C cl fp, TG1 F' (Bk X scope s H C cl fp) tg L (wipeS es vs) d fun es2 =>
      ∀ s H C cl fp, TI1 F' (Bk X scope s H C cl fp) ifs es2 fun k => if k = true then ∀ s H C cl fp, W F' (Bk X scope s H C cl fp) elt es2 fun r => Pv (i + 1) (acc ++ [r]) else Pv (i + 1) acc) ∧ ∀ acc, Pv ds.length acc → Ψ acc
def gAll (X : Cx) (scope : Scope) (tg : Expr) : TG := fun v σ H' Q => ∀ s H C cl fp, canG (Bk X scope s H C cl fp) tg v σ H' Q
def ttAll (X : Cx) (scope : Scope) (ifs : List Expr) : TT := fun σ H' Q => ∀ s H C cl fp, canTs (Bk X scope s H C cl fp) ifs σ H' Q
def teAll (X : Cx) (scope : Scope) (elt : Expr) : TE := fun σ H' Q => ∀ s H C cl fp, canE (Bk X scope s H C cl fp) elt σ H' Q
theorem g_all {scope : Scope} {tg : Expr} (s : Shared) (H : Hp) (C : Addr) (cl : List (Str × Addr)) (fp : List Addr) : PG (Bk X scope s H C cl fp) tg (gAll X scope tg) := ⟨fun pins s2 σ2 H2 v u Q2 I r q => can_g.run pins s2 σ2 H2 v u Q2 I r (q s H C cl fp)⟩
theorem tt_all {scope : Scope} {ifs : List Expr} (s : Shared) (H : Hp) (C : Addr) (cl : List (Str × Addr)) (fp : List Addr) : PTs (Bk X scope s H C cl fp) ifs (ttAll X scope ifs) := ⟨fun pins s2 σ2 H2 Q2 I q => can_ts.run pins s2 σ2 H2 Q2 I (q s H C cl fp)⟩
theorem te_all {scope : Scope} {elt : Expr} (s : Shared) (H : Hp) (C : Addr) (cl : List (Str × Addr)) (fp : List Addr) : PE (Bk X scope s H C cl fp) elt (teAll X scope elt) := ⟨fun pins s2 σ2 H2 Q2 I q => can_e.run pins s2 σ2 H2 Q2 I (q s H C cl fp)⟩
theorem lc_rd {elt tg iter : Expr} {ifs : List Expr} {scope : Scope} {own : List (Str × Nat)} {L : List Nat} {Ψ : List D → Prop} (hL : ∀ j ∈ L, j ∈ own.map (·.2)) (hz' : noOwn es (own.map (·.2)) = true) (h : LcW F X elt tg iter ifs scope (own.map (·.2)) L es Ψ)
    (sg : Sg F H σ es) (Q : VK) (k : ∀ p xs ds H', Sg F H' σ es → ExM F.M0 H H' → H p = none → H' p = some (.lst xs) → DtA (fun b => Mx F σ es b ∨ b = p) H' xs ds → Ψ ds → Q (.ref p) H') : tLc (canI X tg iter) (gAll X scope tg) (ttAll X scope ifs) (teAll X scope elt) (own.map (·.2)) σ H Q := by
  have hz := noOwn_of hz'
  refine h σ H sg _ fun J G ds H1 s1 x1 hv wk ⟨Pv, p0, turn, fin⟩ p hp => ?_
  have hp0 : F.H0 p = none := s1.fresh0 hp
  have hpM : ¬ F.M0 p := fun z => s1.fresh hp (.inl z)
  have hpO : ¬ Own σ es p := own_free s1 hp
  refine ⟨fun i m H' => ∃ acc xs, m = ds.length - i ∧ i ≤ ds.length ∧ Sg (F.plus p (.lst xs) hpM) H' σ es ∧ (∀ b o, H1 b = some o → ¬ F.M0 b → H' b = some o) ∧ DtA (Mx (F.plus p (.lst xs) hpM) σ es) H' xs acc ∧ Pv i acc ∧ G (Mx (F.plus p (.lst xs) hpM) σ es) H', ⟨_, [], [], rfl, Nat.zero_le _, s1.plus _ hp, fun b o q _ => ?_, .nil, p0, ?_⟩, ?_⟩
  · rw [upd_ne (ne_of_none q hp)]
    exact q
  · refine wk.mv _ _ _ _ (fun b o r n => ⟨by rw [upd_ne (ne_of_none r hp)]; exact r, fun z => ?_⟩) hv
    rcases z with (z | z) | z
    · exact n (.inl z)
    · exact ne_of_none r hp z
    · exact n (.inr z)
  rintro i m H' ⟨acc, xs, rfl, hi, s', kp, ta, pv, hv'⟩
  by_cases hlt : i < ds.length
  · refine .inr ⟨wk.goes _ _ i hv' hlt, fun H' => ∃ acc xs, i + 1 ≤ ds.length ∧ Sg (F.plus p (.lst xs) hpM) H' σ es ∧ (∀ b o, H1 b = some o → ¬ F.M0 b → H' b = some o) ∧ DtA (Mx (F.plus p (.lst xs) hpM) σ es) H' xs acc ∧ Pv (i + 1) acc ∧ G (Mx (F.plus p (.lst xs) hpM) σ es) H',
      fun H2 hq => ?_, fun x H2 y => ?_⟩
    · obtain ⟨acc2, xs2, q1, q2, q3, q4, q5, q6⟩ := hq
      exact ⟨_, Nat.sub_lt_sub_left hlt (Nat.lt_succ_self i), acc2, xs2, rfl, q1, q2, q3, q4, q5, q6⟩
    obtain ⟨ex, d, hd, td⟩ := wk.yields _ H' i x H2 s'.kn hv' hlt y
    have s2 := s'.grow ex
    obtain ⟨hlen, tr⟩ := turn i d acc hd pv
    intro s H C cl fp
    have mw : Mx (F.plus p (.lst xs) hpM) (L2.wipe σ (own.map (·.2))) (wipeS es (own.map (·.2))) = Mx (F.plus p (.lst xs) hpM) σ es := mx_wipe hz
    refine tr (F.plus p (.lst xs) hpM) rfl rfl s H C cl fp (L2.wipe σ (own.map (·.2))) H2 x (s2.wipe hz) (by rw [mw]; exact td) _ ?_
    intro σ3 es3 s3 t3 ch3 ce3 q3
    refine And.intro (Chg.wipe ch3 hL) ?_
    have mb : Mx (F.plus p (.lst xs) hpM) σ3 es3 = Mx (F.plus p (.lst xs) hpM) σ es := mx_blk hz hL ch3 ce3
    intro s H C cl fp
    refine q3 s H C cl fp σ3 H2 s3 _ fun kk H3 s4 x4 q4 => ?_
    have x3 : ExM (F.plus p (.lst xs) hpM).M0 H' H3 := (ExM.of ex).trans' x4
    have s4' := s'.unblk s4 x3.mx (noFd_of hz') hz hL ch3 ce3
    have kp' : ∀ {H5 : Hp}, ExM (F.plus p (.lst xs) hpM).M0 H' H5 → ∀ b o, H1 b = some o → ¬ F.M0 b → H5 b = some o := fun {H5} x5 b o q n => x5 b o (kp b o q n) fun z => by
      rcases z with z | z
      · exact n z
      · exact ne_of_none q hp z
    cases kk with
    | true =>
      intro s H C cl fp
      refine q4 s H C cl fp σ3 H3 s4 _ fun v r H5 s5 x5 t5 q5 => ?_
      rw [mb] at t5
      have x6 := x3.trans' x5
      have s5' := s'.unblk s5 x6.mx (noFd_of hz') hz hL ch3 ce3
      have ex7 : ExM (Mx (F.plus p (.lst xs) hpM) σ es) H5 (upd H5 p (.lst (xs ++ [v]))) := fun b u q n => by
        rw [upd_ne fun z => n (.inl (.inr z))]
        exact q
      refine ⟨xs, s5.ok.2, by rw [ta.length]; exact hlen, acc ++ [r], xs ++ [v], hlt, s5'.refill (.lst (xs ++ [v])) hp0 hpO, fun b o q n => ?_, ?_, q5, ?_⟩
      · rw [upd_ne (ne_of_none q hp)]
        exact kp' x6 b o q n
      · exact ((ta.mono x6.mx).append (.cons t5 .nil)).mono ex7
      · exact wk.mv _ _ _ _ (fun b o q n => ⟨ex7 b o (x6.mx b o q n) n, n⟩) hv'
    | false =>
      exact ⟨acc, xs, hlt, s4', kp' x3, ta.mono x3.mx, q4, wk.mv _ _ _ _ (fun b o q n => ⟨x3.mx b o q n, n⟩) hv'⟩
  · have e : i = ds.length := by omega
    subst e
    refine .inl (And.intro (wk.stops _ _ hv') ?_)
    have s3 := s'.less hp0
    refine k p xs acc H' s3 (fun b o q n => kp b o (x1 b o q n) n) (fresh_ex s1 x1 hp) s'.ok.2 (ta.weak fun b z => z.elim (fun z => z.elim (fun z => .inl (.inl z)) .inr) fun z => .inl (.inr z)) (fin acc pv)
theorem wl_lc {elt tg iter : Expr} {ifs : List Expr} {scope : Scope} (own : List (Str × Nat)) {L : List Nat} {Ψ : List D → Prop} (hc : X.calm = true) (hN : X.N.Nodup) (ok : BlkOk X.N X.env.scope scope own) (hL : ∀ j ∈ L, j ∈ own.map (·.2))
    (hz : noOwn es (own.map (·.2)) = true) (h : LcW F X elt tg iter ifs scope (own.map (·.2)) L es Ψ) (hs : ∀ x, foldedSetIterable iter X.env x = pure x := by intro _; rfl) : WL F X (.ListComp elt [⟨tg, iter, ifs, 0⟩] scope pos) es Ψ := fun σ H sg Q k =>
  ⟨_, pe_lc hc hN can_i ok g_all tt_all te_all hs, lc_rd hL hz h sg Q k⟩
end
end DW
namespace DW
open PySem L2 RZ
section
variable {F : Fc} {X : Cx} {e a b c : Expr} {es : List Sl} {Φ : D → Prop} {K : Ek} {pos p : Pos} {s : Stmt} {ss : List Stmt} {H H' : Hp} {σ : L2.St}
/-! ### operators told of data -/
theorem same0 {H : Hp} : ∀ b o, H b = some o → H b = some o := fun _ _ h => h
theorem od_int {f : Value → Value → Sem Value} {g : Int → Int → V} {z : D} {i j : Int} (hr : OpR X f (rI0 g)) (hz : ∀ M H, Dt M H (g i j) z) : OpD X f (.int i) (.int j) z := fun M H v u kn hv hu Q q =>
  ⟨_, hr, i, j, hv.int_inv, hu.int_inv, q _ H same0 (hz M H)⟩
theorem od_intC {f : Value → Value → Sem Value} {C : Int → Int → Prop} {g : Int → Int → V} {z : D} {i j : Int} (hr : OpR X f (rI C g)) (hc : C i j) (hz : ∀ M H, Dt M H (g i j) z) : OpD X f (.int i) (.int j) z := fun M H v u kn hv hu Q q =>
  ⟨_, hr, i, j, hv.int_inv, hu.int_inv, hc, q _ H same0 (hz M H)⟩
theorem od_add {i j : Int} : OpD X (binaryOp .Add) (.int i) (.int j) (.int (i + j)) := od_int op_add fun _ _ => .int _
theorem od_sub {i j : Int} : OpD X (binaryOp .Sub) (.int i) (.int j) (.int (i - j)) := od_int op_sub fun _ _ => .int _
theorem od_mul {i j : Int} (h : CMul i j) : OpD X (binaryOp .Mult) (.int i) (.int j) (.int (i * j)) := od_intC op_mul h fun _ _ => .int _
theorem od_mulW {i j : Int} (h : CMulW i j) : OpD X (binaryOp .Mult) (.int i) (.int j) (.int (i * j)) := od_intC op_mulW h fun _ _ => .int _
theorem od_pow {i j : Int} (h : CPow i j) : OpD X (binaryOp .Pow) (.int i) (.int j) (.int (i ^ j.toNat)) := od_intC op_pow h fun _ _ => .int _
theorem od_mod {i j : Int} (h : 0 < j) : OpD X (binaryOp .Mod) (.int i) (.int j) (.int (i % j)) := od_intC op_mod h fun _ _ => .int _
theorem od_fdiv {i j : Int} (h : CDiv i j) : OpD X (binaryOp .FloorDiv) (.int i) (.int j) (.int (i / j)) := od_intC op_fdiv h fun _ _ => .int _
theorem od_lt {i j : Int} : OpD X (compareOp .Lt) (.int i) (.int j) (.bool (decide (i < j))) := od_int op_lt fun _ _ => .bl _
theorem od_le {i j : Int} : OpD X (compareOp .LtE) (.int i) (.int j) (.bool (decide (i ≤ j))) := od_int op_le fun _ _ => .bl _
theorem od_gt {i j : Int} : OpD X (compareOp .Gt) (.int i) (.int j) (.bool (decide (j < i))) := od_int op_gt fun _ _ => .bl _
theorem od_ge {i j : Int} : OpD X (compareOp .GtE) (.int i) (.int j) (.bool (decide (j ≤ i))) := od_int op_ge fun _ _ => .bl _
theorem od_eqI {i j : Int} : OpD X (compareOp .Eq) (.int i) (.int j) (.bool (decide (i = j))) := fun M H v u kn hv hu Q q => by
  rw [hv.int_inv, hu.int_inv]
  refine ⟨_, op_eq, rfl, q _ H same0 ?_⟩
  rw [show decide (V.int i = V.int j) = decide (i = j) by rw [L2.dec_int]; rfl]
  exact .bl _
theorem od_neI {i j : Int} : OpD X (compareOp .NotEq) (.int i) (.int j) (.bool (!decide (i = j))) := fun M H v u kn hv hu Q q => by
  rw [hv.int_inv, hu.int_inv]
  refine ⟨_, op_ne, rfl, q _ H same0 ?_⟩
  rw [show decide (V.int i = V.int j) = decide (i = j) by rw [L2.dec_int]; rfl]
  exact .bl _
theorem od_eqS {i j : Str} : OpD X (compareOp .Eq) (.str i) (.str j) (.bool (decide (i = j))) := fun M H v u kn hv hu Q q => by
  rw [hv.str_inv, hu.str_inv]
  refine ⟨_, op_eq, rfl, q _ H same0 ?_⟩
  rw [show decide (V.str i = V.str j) = decide (i = j) by
    by_cases h : i = j
    · rw [h, decide_eq_true rfl, decide_eq_true rfl]
    · rw [decide_eq_false h, decide_eq_false fun z => h (V.str.inj z)]]
  exact .bl _
theorem od_neS {i j : Str} : OpD X (compareOp .NotEq) (.str i) (.str j) (.bool (!decide (i = j))) := fun M H v u kn hv hu Q q => by
  rw [hv.str_inv, hu.str_inv]
  refine ⟨_, op_ne, rfl, q _ H same0 ?_⟩
  rw [show decide (V.str i = V.str j) = decide (i = j) by
    by_cases h : i = j
    · rw [h, decide_eq_true rfl, decide_eq_true rfl]
    · rw [decide_eq_false h, decide_eq_false fun z => h (V.str.inj z)]]
  exact .bl _
/-- == of any data -/
theorem shaped_nd {d : D} (h : SeqAt.shaped d = true) : d.hasDict = false := by
  unfold SeqAt.shaped at h
  rw [Bool.and_eq_true] at h
  exact PyData.hasDict_of_canLay d h.1
theorem od_eqD {d e : D} (hu : X.A.units + 64 < cLine) (h1 : SeqAt.shaped d = true) (h2 : SeqAt.shaped e = true) : OpD X (compareOp .Eq) d e (.bool (PyData.eqv d e)) := fun M H v u kn hv hu' Q q =>
  ⟨_, op_eqD hu, d, e, hv.dp _ _ (shaped_nd h1), hu'.dp _ _ (shaped_nd h2), h1, h2, q _ H same0 (.bl _)⟩
theorem od_neD {d e : D} (hu : X.A.units + 64 < cLine) (h1 : SeqAt.shaped d = true) (h2 : SeqAt.shaped e = true) : OpD X (compareOp .NotEq) d e (.bool (!PyData.eqv d e)) := fun M H v u kn hv hu' Q q =>
  ⟨_, op_neD hu, d, e, hv.dp _ _ (shaped_nd h1), hu'.dp _ _ (shaped_nd h2), h1, h2, q _ H same0 (.bl _)⟩
/-- is True, is not True of a bool -/
theorem od_isB {i j : Bool} : OpD X (compareOp .Is) (.bool i) (.bool j) (.bool (decide (i = j))) := fun M H v u kn hv hu Q q => ⟨_, op_isBl, i, j, hv.bl_inv, hu.bl_inv, q _ H same0 (.bl _)⟩
theorem od_notB {i j : Bool} : OpD X (compareOp .IsNot) (.bool i) (.bool j) (.bool (!decide (i = j))) := fun M H v u kn hv hu Q q => ⟨_, op_notBl, i, j, hv.bl_inv, hu.bl_inv, q _ H same0 (.bl _)⟩
theorem nm {M : Addr → Prop} {H : Hp} (kn : ∀ b, M b → ∃ o, H b = some o) {p : Addr} (h : H p = none) : ¬ M p := fun z => by
  obtain ⟨o, e⟩ := kn p z
  rw [h] at e
  cases e
theorem grow {H : Hp} {p : Addr} {o : HO} (h : H p = none) : ∀ b u, H b = some u → upd H p o b = some u := fun b u e => by
  rw [upd_ne (ne_of_none e h)]
  exact e
/-- t + u -/
theorem od_cat {xs ys : List D} (hl : xs.length + ys.length ≤ sizeLine) : OpD X (binaryOp .Add) (.tuple xs) (.tuple ys) (.tuple (xs ++ ys)) := fun M H v u kn hv hu Q q => by
  obtain ⟨a, vs, rfl, h1, h2, h3⟩ := id hv.tup_inv
  obtain ⟨b, us, rfl, g1, g2, g3⟩ := id hu.tup_inv
  refine ⟨_, op_catA, a, b, vs, us, rfl, rfl, SqT.of h1, SqT.of g1, by rw [h3.length, g3.length]; exact hl, fun e => ?_, fun _ e => ?_, fun _ _ p hp => ?_⟩
  · subst e
    cases h3
    exact q _ H same0 hu
  · subst e
    cases g3
    rw [List.append_nil] at q
    exact q _ H same0 hv
  · exact q _ _ (grow hp) (.tup upd_same (nm kn hp) ((h3.append g3).mono (ExM.of (grow hp))))
/-- xs + ys -/
theorem od_catL {xs ys : List D} (hl : xs.length + ys.length ≤ sizeLine) : OpD X (binaryOp .Add) (.list xs) (.list ys) (.list (xs ++ ys)) := fun M H v u kn hv hu Q q => by
  obtain ⟨a, vs, rfl, h1, h2, h3⟩ := id hv.lst_inv
  obtain ⟨b, us, rfl, g1, g2, g3⟩ := id hu.lst_inv
  refine ⟨_, op_cat, a, b, vs, us, rfl, rfl, h1, g1, by rw [h3.length, g3.length]; exact hl, fun p hp => ?_⟩
  exact q _ _ (grow hp) (.lst upd_same (nm kn hp) ((h3.append g3).mono (ExM.of (grow hp))))
theorem dta_rep {M : Addr → Prop} {H : Hp} {vs : List V} {ds : List D} (h : DtA M H vs ds) : ∀ k : Nat, DtA M H (List.replicate k vs).flatten (List.replicate k ds).flatten
  | 0 => .nil
  | k + 1 => by
    rw [List.replicate_succ, List.replicate_succ, List.flatten_cons, List.flatten_cons]
    exact h.append (dta_rep h k)
/-- xs * k -/
theorem od_repL {xs : List D} {k : Int} (h0 : -(2 ^ 63) ≤ k) (h1 : k < 2 ^ 63) (hl : xs.length * k.toNat ≤ sizeLine) : OpD X (binaryOp .Mult) (.list xs) (.int k) (.list (List.replicate k.toNat xs).flatten) := fun M H v u kn hv hu Q q => by
  obtain ⟨a, vs, rfl, g1, g2, g3⟩ := id hv.lst_inv
  refine ⟨_, op_rep, a, k, vs, rfl, hu.int_inv, g1, h0, h1, by rw [g3.length]; exact hl, fun p hp => ?_⟩
  exact q _ _ (grow hp) (.lst upd_same (nm kn hp) ((dta_rep g3 _).mono (ExM.of (grow hp))))
theorem od_repT {xs : List D} {k : Int} (h0 : xs ≠ []) (h1 : 2 ≤ k) (h2 : k ≤ 1000) (hl : xs.length ≤ 1000) : OpD X (binaryOp .Mult) (.tuple xs) (.int k) (.tuple (List.replicate k.toNat xs).flatten) := fun M H v u kn hv hu Q q => by
  obtain ⟨a, vs, rfl, g1, g2, g3⟩ := id hv.tup_inv
  refine ⟨_, op_repT, a, k, vs, rfl, hu.int_inv, SqT.of g1, fun e => ?_, h1, h2, by rw [g3.length]; exact hl, fun p hp => ?_⟩
  · subst e
    cases g3
    exact h0 rfl
  · exact q _ _ (grow hp) (.tup upd_same (nm kn hp) ((dta_rep g3 _).mono (ExM.of (grow hp))))
/-- -a -/
theorem ud_neg {i : Int} : UnD X (unaryOp .USub) (.int i) (.int (-i)) := fun M H v kn hv => ⟨_, un_neg, fun Q q => ⟨i, hv.int_inv, q _ H same0 (.int _)⟩⟩
/-! ### items, slices -/
theorem w_ixT (hs : PlainIx b := by exact fun _ _ => rfl) (h : W F X a es fun x => W F X b es fun y => ∃ ds i d, x = .tuple ds ∧ y = .int i ∧ atI ds i = some d ∧ Φ d) : W F X (.Subscript a b pos) es Φ := fun σ H s Q k => by
  refine ⟨_, pe_ix ix_tup can_e can_e hs, ?_⟩
  refine h σ H s _ fun v x H1 s1 x1 t1 hb => ?_
  refine hb σ H1 s1 _ fun u y H2 s2 x2 t2 ⟨ds, i, d, e1, e2, ha, q⟩ => ?_
  subst e1 e2
  obtain ⟨p, vs, rfl, g1, g2, g3⟩ := id (t1.mono (x2.mx)).tup_inv
  have hx : ixN vs.length i = ixN ds.length i := by rw [g3.length]
  unfold atI at ha
  cases hj : ixN ds.length i with
  | none => rw [hj] at ha; cases ha
  | some j =>
    rw [hj] at ha
    obtain ⟨w, e3, t3⟩ := g3.get (i := j) ha
    refine ⟨p, vs, i, w, rfl, t2.int_inv, SqT.of g1, ?_, k w d H2 s2 (x1.trans' x2) t3 q⟩
    unfold atI
    rw [hx, hj]
    exact e3
theorem w_ixL (hs : PlainIx b := by exact fun _ _ => rfl) (h : W F X a es fun x => W F X b es fun y => ∃ ds i d, x = .list ds ∧ y = .int i ∧ atI ds i = some d ∧ Φ d) : W F X (.Subscript a b pos) es Φ := fun σ H s Q k => by
  refine ⟨_, pe_ix ix_list can_e can_e hs, ?_⟩
  refine h σ H s _ fun v x H1 s1 x1 t1 hb => ?_
  refine hb σ H1 s1 _ fun u y H2 s2 x2 t2 ⟨ds, i, d, e1, e2, ha, q⟩ => ?_
  subst e1 e2
  obtain ⟨p, vs, rfl, g1, g2, g3⟩ := id (t1.mono (x2.mx)).lst_inv
  have hx : ixN vs.length i = ixN ds.length i := by rw [g3.length]
  unfold atI at ha
  cases hj : ixN ds.length i with
  | none => rw [hj] at ha; cases ha
  | some j =>
    rw [hj] at ha
    obtain ⟨w, e3, t3⟩ := g3.get (i := j) ha
    refine ⟨p, vs, i, w, rfl, t2.int_inv, SqL.of g1, ?_, k w d H2 s2 (x1.trans' x2) t3 q⟩
    unfold atI
    rw [hx, hj]
    exact e3
/-- a slice's part -/
def canP (X : Cx) (e : Option Expr) : TO := fun σ H Q => ∃ t, PO X e t ∧ t σ H Q
theorem can_p {e : Option Expr} : PO X e (canP X e) := ⟨fun pins s σ H Q I ⟨t, ht, q⟩ => ht.run pins s σ H Q I q⟩
def WP (F : Fc) (X : Cx) (e : Option Expr) (es : List Sl) (Ψ : Option Int → Prop) : Prop := ∀ σ H, Sg F H σ es → ∀ Q : Option Int → Hp → Prop, (∀ o H', Sg F H' σ es → ExM F.M0 H H' → Ψ o → Q o H') → canP X e σ H Q
theorem wp_none {Ψ : Option Int → Prop} (q : Ψ none) : WP F X none es Ψ := fun σ H s Q k => ⟨_, po_none, k none H s ExM.refl q⟩
theorem wp_some {Ψ : Option Int → Prop} (h : W F X a es fun x => ∃ i, x = .int i ∧ Ψ (some i)) : WP F X (some a) es Ψ := fun σ H s Q k => by
  refine ⟨_, po_some can_e, ?_⟩
  refine h σ H s _ fun v x H1 s1 x1 t1 ⟨i, e, q⟩ => ?_
  subst e
  exact ⟨i, t1.int_inv, k _ H1 s1 x1 q⟩
def cutD (xs : List D) (lo hi : Option Int) : List D := (xs.drop (HT.sIx xs.length 0 lo)).take (HT.sIx xs.length xs.length hi - HT.sIx xs.length 0 lo)
theorem cut_dt {M : Addr → Prop} {H : Hp} {vs : List V} {ds : List D} (h : DtA M H vs ds) {lo hi : Option Int} : DtA M H (cutV vs lo hi) (cutD ds lo hi) := by
  unfold cutV cutD
  rw [h.length]
  exact (h.drop _).take _
theorem w_slT {lo hi : Option Expr} {p2 : Pos} (h : W F X a es fun x => WP F X lo es fun i => WP F X hi es fun j => ∃ ds, x = .tuple ds ∧ Φ (.tuple (cutD ds i j))) : W F X (.Subscript a (.Slice lo hi none p2) pos) es Φ := fun σ H s Q k => by
  refine ⟨_, pe_slice sl_tupA can_e can_p can_p, ?_⟩
  refine h σ H s _ fun v x H1 s1 x1 t1 hb => ?_
  refine hb σ H1 s1 _ fun i H2 s2 x2 hc => ?_
  refine hc σ H2 s2 _ fun j H3 s3 x3 ⟨ds, e, q⟩ => ?_
  subst e
  have t3 := (t1.mono (x2.mx)).mono (x3.mx)
  obtain ⟨p, vs, rfl, g1, g2, g3⟩ := id t3.tup_inv
  refine ⟨p, vs, rfl, SqT.of g1, fun z => ?_, fun _ p' hp => ?_⟩
  · have e : cutD ds i j = ds := by
      unfold cutD
      rw [g3.length] at z
      rw [z.1, z.2, Nat.sub_zero, List.drop_zero, List.take_length]
    rw [e] at q
    exact k _ _ H3 s3 ((x1.trans' x2).trans' x3) t3 q
  · exact k _ _ _ (s3.new hp) (((x1.trans' x2).trans' x3).trans' (ExM.new hp)) (.tup upd_same (s3.fresh hp) ((cut_dt g3).mono (ExM.new hp))) q
theorem wl_slL {lo hi : Option Expr} {p2 : Pos} {Ψ : List D → Prop} (h : W F X a es fun x => WP F X lo es fun i => WP F X hi es fun j => ∃ ds, x = .list ds ∧ Ψ (cutD ds i j)) : WL F X (.Subscript a (.Slice lo hi none p2) pos) es Ψ := fun σ H s Q k => by
  refine ⟨_, pe_slice sl_list can_e can_p can_p, ?_⟩
  refine h σ H s _ fun v x H1 s1 x1 t1 hb => ?_
  refine hb σ H1 s1 _ fun i H2 s2 x2 hc => ?_
  refine hc σ H2 s2 _ fun j H3 s3 x3 ⟨ds, e, q⟩ => ?_
  subst e
  have t3 := (t1.mono (x2.mx)).mono (x3.mx)
  obtain ⟨p, vs, rfl, g1, g2, g3⟩ := id t3.lst_inv
  refine ⟨p, vs, rfl, SqL.of g1, fun p' hp => ?_⟩
  have x' := (x1.trans' x2).trans' x3
  exact k p' _ _ _ (s3.new hp) (x'.trans' (ExM.new hp)) (fresh_ex s3 x' hp) upd_same ((cut_dt g3).plus1 hp) q
/-! ### calls of built-ins -/
theorem w_callB {x : Str} {id : String} {r : List Expr} (hg : Gl X x) (hm : X.mg x = none) (hv : bootBuiltins x = some (.builtin id)) (h : WA F X (a :: r) es fun ds => ∃ z, CallD X (.builtin id) ds z ∧ Φ z)
    (hn : x ≠ "__name__" := by decide) (hdb : (x == ("__debug__" : Str)) = false := by decide)
    (he : starEach (a :: r) X.env = (false, eval a X.env) :: starEach r X.env := by rfl) (hpl : (backTo pos (starEach r X.env)).any (·.1) = false := by rfl) : W F X (.Call (.Name x p) (a :: r) [] pos) es Φ := fun σ H s Q k => by
  refine ⟨_, pe_callB can_c hg hm hv can_a hn hdb he hpl, ?_⟩
  refine h σ H s _ fun vs ds H1 s1 x1 t1 ⟨z, hc, q⟩ => ?_
  exact hc _ H1 vs s1.kn t1 Q (fin_op s1 x1 k q)
theorem w_callTy {x : Str} {id : String} {r : List Expr} (hg : Gl X x) (hm : X.mg x = none) (hv : bootBuiltins x = some (.type id)) (h : WA F X (a :: r) es fun ds => ∃ z, CallD X (.type id) ds z ∧ Φ z)
    (hn : x ≠ "__name__" := by decide) (hdb : (x == ("__debug__" : Str)) = false := by decide)
    (he : starEach (a :: r) X.env = (false, eval a X.env) :: starEach r X.env := by rfl) (hpl : (backTo pos (starEach r X.env)).any (·.1) = false := by rfl) : W F X (.Call (.Name x p) (a :: r) [] pos) es Φ := fun σ H s Q k => by
  refine ⟨_, pe_callTy can_c hg hm hv can_a hn hdb he hpl, ?_⟩
  refine h σ H s _ fun vs ds H1 s1 x1 t1 ⟨z, hc, q⟩ => ?_
  exact hc _ H1 vs s1.kn t1 Q (fin_op s1 x1 k q)
theorem dta1 {M : Addr → Prop} {H : Hp} {vs : List V} {d : D} (h : DtA M H vs [d]) : ∃ v, vs = [v] ∧ Dt M H v d := by
  cases h with
  | cons h1 h2 => cases h2; exact ⟨_, rfl, h1⟩
theorem dta2 {M : Addr → Prop} {H : Hp} {vs : List V} {d e : D} (h : DtA M H vs [d, e]) : ∃ v u, vs = [v, u] ∧ Dt M H v d ∧ Dt M H u e := by
  cases h with
  | cons h1 h2 =>
    obtain ⟨u, rfl, h3⟩ := dta1 h2
    exact ⟨_, u, rfl, h1, h3⟩
theorem cd_len_t {ds : List D} : CallD X (.builtin "len") [.tuple ds] (.int ds.length) := fun M H vs kn h Q q => by
  obtain ⟨v, rfl, t⟩ := dta1 h
  obtain ⟨a, xs, rfl, g1, g2, g3⟩ := id t.tup_inv
  refine ⟨_, call_len_seq, a, xs, rfl, .inr (SqT.of g1), q _ H same0 ?_⟩
  rw [g3.length]
  exact .int _
theorem cd_len_l {ds : List D} : CallD X (.builtin "len") [.list ds] (.int ds.length) := fun M H vs kn h Q q => by
  obtain ⟨v, rfl, t⟩ := dta1 h
  obtain ⟨a, xs, rfl, g1, g2, g3⟩ := id t.lst_inv
  refine ⟨_, call_len_seq, a, xs, rfl, .inl (SqL.of g1), q _ H same0 ?_⟩
  rw [g3.length]
  exact .int _
theorem cd_abs {i : Int} : CallD X (.builtin "abs") [.int i] (.int (if i < 0 then -i else i)) := fun M H vs kn h Q q => by
  obtain ⟨v, rfl, t⟩ := dta1 h
  exact ⟨_, call_abs, i, by rw [t.int_inv], q _ H same0 (.int _)⟩
theorem cd_max2 (hc : X.calm = true) {i j : Int} : CallD X (.builtin "max") [.int i, .int j] (.int (if j > i then j else i)) := fun M H vs kn h Q q => by
  obtain ⟨v, u, rfl, t, t'⟩ := dta2 h
  exact ⟨_, call_max2 hc, i, j, by rw [t.int_inv, t'.int_inv], q _ H same0 (.int _)⟩
theorem cd_min2 (hc : X.calm = true) {i j : Int} : CallD X (.builtin "min") [.int i, .int j] (.int (if j < i then j else i)) := fun M H vs kn h Q q => by
  obtain ⟨v, u, rfl, t, t'⟩ := dta2 h
  exact ⟨_, call_min2 hc, i, j, by rw [t.int_inv, t'.int_inv], q _ H same0 (.int _)⟩
theorem cd_int {i : Int} : CallD X (.type "int") [.int i] (.int i) := fun M H vs kn h Q q => by
  obtain ⟨v, rfl, t⟩ := dta1 h
  exact ⟨_, call_int1, .inl ⟨i, by rw [t.int_inv], q _ H same0 (.int _)⟩⟩
theorem cd_intB {i : Bool} : CallD X (.type "int") [.bool i] (.int (if i then 1 else 0)) := fun M H vs kn h Q q => by
  obtain ⟨v, rfl, t⟩ := dta1 h
  exact ⟨_, call_int1, .inr ⟨i, by rw [t.bl_inv], q _ H same0 (.int _)⟩⟩
theorem cd_tuple_l {ds : List D} : CallD X (.type "tuple") [.list ds] (.tuple ds) := fun M H vs kn h Q q => by
  obtain ⟨v, rfl, t⟩ := dta1 h
  obtain ⟨a, xs, rfl, g1, g2, g3⟩ := id t.lst_inv
  exact ⟨_, call_tuple_of, a, xs, rfl, .inl ⟨SqL.of g1, fun l hl => q _ _ (grow hl) (.tup upd_same (nm kn hl) (g3.mono (ExM.of (grow hl))))⟩⟩
theorem cd_tuple_t {ds : List D} : CallD X (.type "tuple") [.tuple ds] (.tuple ds) := fun M H vs kn h Q q => by
  obtain ⟨v, rfl, t⟩ := dta1 h
  obtain ⟨a, xs, rfl, g1, g2, g3⟩ := id t.tup_inv
  exact ⟨_, call_tuple_of, a, xs, rfl, .inr ⟨SqT.of g1, q _ H same0 t⟩⟩
theorem cd_all (hc : X.calm = true) {bs : List Bool} : CallD X (.builtin "all") [.list (bs.map PyData.bool)] (.bool (bs.all id)) := fun M H vs kn h Q q => by
  obtain ⟨v, rfl, t⟩ := dta1 h
  obtain ⟨a, xs, rfl, g1, g2, g3⟩ := id t.lst_inv
  rw [g3.bools] at g1
  exact ⟨_, cr_all hc, a, bs, rfl, SqL.of g1, q _ H same0 (.bl _)⟩
theorem cd_sum (hc : X.calm = true) {ns : List Int} : CallD X (.builtin "sum") [.list (ns.map PyData.int)] (.int ns.sum) := fun M H vs kn h Q q => by
  obtain ⟨v, rfl, t⟩ := dta1 h
  obtain ⟨a, xs, rfl, g1, g2, g3⟩ := id t.lst_inv
  rw [g3.ints] at g1
  exact ⟨_, cr_sum hc, a, ns, rfl, SqL.of g1, q _ H same0 (.int _)⟩
/-- list(x): new -/
theorem wl_list {x : Str} (hg : Gl X x) (hm : X.mg x = none) (hv : bootBuiltins x = some (.type "list")) {Ψ : List D → Prop} (h : W F X a es fun d => ∃ ds, (d = .list ds ∨ d = .tuple ds) ∧ Ψ ds)
    (hn : x ≠ "__name__" := by decide) (hdb : (x == ("__debug__" : Str)) = false := by decide)
    (he : starEach [a] X.env = (false, eval a X.env) :: starEach [] X.env := by rfl) (hpl : (backTo pos (starEach [] X.env)).any (·.1) = false := by rfl) : WL F X (.Call (.Name x p) [a] [] pos) es Ψ := fun σ H s Q k => by
  refine ⟨_, pe_callTy call_list_of hg hm hv (pa_cons can_e pa_nil he) hn hdb he hpl, ?_⟩
  refine h σ H s _ fun v d H1 s1 x1 t1 ⟨ds, e, q⟩ => ?_
  rcases e with e | e
  · subst e
    obtain ⟨p, vs, rfl, g1, g2, g3⟩ := id t1.lst_inv
    exact ⟨p, vs, rfl, .inl (SqL.of g1), fun l hl => k l _ _ _ (s1.new hl) (x1.trans' (ExM.new hl)) (fresh_ex s1 x1 hl) upd_same (g3.plus1 hl) q⟩
  · subst e
    obtain ⟨p, vs, rfl, g1, g2, g3⟩ := id t1.tup_inv
    exact ⟨p, vs, rfl, .inr (SqT.of g1), fun l hl => k l _ _ _ (s1.new hl) (x1.trans' (ExM.new hl)) (fresh_ex s1 x1 hl) upd_same (g3.plus1 hl) q⟩
/-- isinstance(x, T) -/
def tyD : D → String
  | .none => "NoneType"
  | .bool _ => "bool"
  | .int _ => "int"
  | .str _ => "str"
  | .list _ => "list"
  | .tuple _ => "tuple"
  | .dict [] => "dict"
  | .dict (_ :: _) => "?"
theorem ty_of {K : PySem.W.Frag} {M : Addr → Prop} {H : Hp} {v : V} {d : D} (hn : tyD d ≠ "?") (h : Dt M H v d) : TyX K H v (.type (tyD d)) := by
  cases h with
  | non => exact .base .non
  | bl b => exact .base (.bl b)
  | int b => exact .base (.int b)
  | str b => exact .base (.str b)
  | lst h1 _ _ => exact .base (.lst h1)
  | tup h1 _ _ => exact .base (.tup h1)
  | @dct a o h1 _ h3 =>
    cases o with
    | dK kvs => exact .base (.dK h1)
    | dT kvs => exact .base (.dT h1)
    | _ => exact h3.elim
  | ins h1 _ => exact (hn rfl).elim
theorem kit_q {n : String} {k : Bool} (hn : n ≠ "?") (d : D) (e : kitB (tyD d) n = some k) : tyD d ≠ "?" := fun z => by
  rw [z] at e
  unfold kitB at e
  have h1 : (Value.type "?" == Value.type n) = false := by
    rw [beq_eq_false_iff_ne]
    intro z; injection z with z; exact hn z.symm
  rw [h1, if_neg Bool.false_ne_true] at e
  have h2 : PySem.fastBuiltinMro "?" = none := by decide +kernel
  rw [h2] at e
  split at e <;> simp at e
theorem w_isi {x y : Str} {p2 : Pos} {n : String} (hg : Gl X x) (hm : X.mg x = none) (hv : bootBuiltins x = some (.builtin "isinstance")) (hg2 : Gl X y) (hm2 : X.mg y = none) (hv2 : bootBuiltins y = some (.type n))
    (h : W F X a es fun d => ∃ k, kitB (tyD d) n = some k ∧ Φ (.bool k)) (hnq : n ≠ "?" := by decide) (hn : x ≠ "__name__" := by decide) (hdb : (x == ("__debug__" : Str)) = false := by decide) (hn2 : y ≠ "__name__" := by decide) (hdb2 : (y == ("__debug__" : Str)) = false := by decide)
    (he : starEach [a, .Name y p2] X.env = (false, eval a X.env) :: starEach [.Name y p2] X.env := by rfl) (he2 : starEach [.Name y p2] X.env = (false, eval (.Name y p2) X.env) :: starEach [] X.env := by rfl) (hpl : (backTo pos (starEach [.Name y p2] X.env)).any (·.1) = false := by rfl) :
    W F X (.Call (.Name x p) [a, .Name y p2] [] pos) es Φ := fun σ H s Q k => by
  refine ⟨_, pe_callB call_isi hg hm hv (pa_cons can_e (pa_cons (pe_bltn (v := .ty n) hg2 hm2 hv2 rfl hn2 hdb2) pa_nil he2) he) hn hdb he hpl, ?_⟩
  refine h σ H s _ fun v d H1 s1 x1 t1 ⟨kk, e, q⟩ => ?_
  exact ⟨v, .ty n, _, _, kk, rfl, .ty n, ty_of (kit_q hnq d e) t1, kit_ty e, k _ _ H1 s1 x1 (.bl kk) q⟩
end
end DW
namespace DW
open PySem L2 RZ PyProof.Rows
/-! ### defs under no guard: as FnOk, and nothing is being shown around them -/
structure Rm (k : Nat) (A : Around) : Prop where
  ro : Room k A
  gu : A.guards = some []
theorem Rm.mono {j k : Nat} {A : Around} (r : Rm k A) (h : j ≤ k) : Rm j A := ⟨r.ro.mono h, r.gu⟩
theorem Rm.deeper {k : Nat} {A : Around} (r : Rm (k + 1) A) (env : Env) : Rm k (A.deeper env) := ⟨r.ro.deeper env, r.gu⟩
structure FnG (P : Program) (w : World) (K : PySem.W.Frag) (mg : Str → Option Value) (base : Heap) (k : Nat) (f : Addr) (fd : FuncData) (ps : List Str) (sp : Sp) : Prop where
  ln : ∀ vs H Q E, sp vs H Q E → vs.length = ps.length
  go : ∀ (A : Around) (stk : List Env) (s : Shared) (H : Hp) (gs : Args) (us : List Value) (vs : List V) (Q : VK) (E : XK), Rm k A → Env0 P w K mg base A stk s H → BindsTo s fd gs (ps.zip us) → Vals vs us →
    sp vs H Q E → codeAny (model P w) A (.call (.ref f) gs) (CR CX0 stk P w H s Q E) s
theorem FnG.mono {P : Program} {w : World} {K : PySem.W.Frag} {mg : Str → Option Value} {base : Heap} {j k : Nat} {f : Addr} {fd : FuncData} {ps : List Str} {sp : Sp} (F : FnG P w K mg base j f fd ps sp) (h : j ≤ k) : FnG P w K mg base k f fd ps sp :=
  ⟨F.ln, fun A o s H g us vs Q E hr => F.go A o s H g us vs Q E (hr.mono h)⟩
section
variable {P : Program} {w : World} {K : PySem.W.Frag} {mg : Str → Option Value} {base : Heap} {x qual : Str} {st : Stmt} {f : Addr} {fd : FuncData} {N ps : List Str} {k : Nat} {sp : Sp}
theorem ok_g (F : Fun K x qual st f fd) (S : FnScope N ps (defScope st)) (ln : ∀ vs H Q E, sp vs H Q E → vs.length = ps.length)
    (hb : ∀ (cv : Value) (A : Around) (stk : List Env) (s : Shared) (H : Hp) (vs : List V) (Q : VK) (E : XK), Rm k (A.deeper (envOfC qual (defScope st) s.heap.objs.size f cv)) → sp vs H Q E →
      ∃ t, PSs (cxOf CX0 P w K mg base N qual (defScope st) f cv A stk s H E).nox (defBody st) t ∧ t { nx := fun _ H' => Q .non H', rt := Q } (L2.start N vs) H) : FnG P w K mg base (k + 1) f fd ps sp := by
  obtain ⟨c1, c2, c3, c4, c5, c6, cv, c7, c8, rfl, hK, hC⟩ := F.ex
  refine ⟨ln, fun A stk s H gs us vs Q E room env bind rel want => ?_⟩
  have inK : K.In s.heap := env.mod.kin.keeps fun b o q => (env.bs b o q).1
  refine codeAny_call_function room.ro.depth (inK _ _ hK) rfl S.co S.gen rfl (PySem.W.codeRec_of inK hC) (bind _ _ _ _ (wpAny_newFunctionEnv_cells S.kind (fun ⟨n, v⟩ hz => ?_) fun env' he s1 x1 => ?_))
  · rcases S.par n (List.of_mem_zip hz).1 with q | q
    · exact Or.inl q
    · exact Or.inr ⟨q, PySem.W.cellsFrom_some _ _ _ (Or.inl q)⟩
  subst he
  refine ⟨Heap.NoLimit.keeps env.mod.nolimit fun b o q => x1.toInCall.keep b o (env.bs b o q).1, codeAny_func ?_⟩
  obtain ⟨t, h1, h2⟩ := hb cv A stk s H vs Q E (room.deeper _) want
  have I0 := inv_start (CX := CX0) (P := P) (w := w) (mg := mg) (E := E) S room.ro.hd env (ln _ _ _ _ want) rel x1
  refine wpAny_mono (h1.nox.run [] s1 (L2.start N vs) H _ I0 h2) (fun fl s2 e => ?_) fun _ _ e => e
  cases fl with
  | ret u =>
    obtain ⟨v, _, H2, J, rv, q⟩ := e
    exact ⟨v, H2, J.os, J.bare, J.base, J.hok, rv, q⟩
  | next =>
    obtain ⟨_, H2, J, q⟩ := e
    exact ⟨.non, H2, J.os, J.bare, J.base, J.hok, rfl, q⟩
  | brk => obtain ⟨_, _, _, q⟩ := e; exact q.elim
  | cont => obtain ⟨_, _, _, q⟩ := e; exact q.elim
end
section
variable {X : Cx} {k : Nat} {f : Addr} {fd : FuncData} {ps : List Str} {sp : Sp} {x : Str} {p pos : Pos} {e : Expr} {es : List Expr} {t : TA}
theorem run_g {pins : List (Addr × Obj)} {σ : L2.St} {H : Hp} {s : Shared} {Q : VK} {ws : List Value} {vs : List V} {gs : Args} (F : FnG X.prog X.w X.K X.mg X.base k f fd ps sp) (hr : Rm k X.A) (hb : BindsTo s fd gs (ps.zip ws))
    (I : L2.Inv X pins σ H s) (r : Vals vs ws) (h : sp vs H Q E0) : codeAny (model X.prog X.w) X.A (.call (.ref f) gs) (fun r s' => match r with
      | .ok (.ret u) => EP X pins σ Q u s'
      | _ => False) s := by
  refine codeAny_mono (F.go X.A X.stack s H gs ws vs Q E0 hr I.env0 hb r h) fun r s2 hq => ?_
  cases r with
  | error e => exact hq.elim
  | ok fl =>
    cases fl with
    | ret u => exact I.after hq
    | next => exact hq.elim
    | brk => exact hq.elim
    | cont => exact hq.elim
theorem end_g {pins : List (Addr × Obj)} {σ : L2.St} {s : Shared} {Q : VK} {gs : Args} (h : codeAny (model X.prog X.w) X.A (.call (.ref f) gs) (fun r s' => match r with
      | .ok (.ret u) => EP X pins σ Q u s'
      | _ => False) s) : codeAny (model X.prog X.w) X.A (.call (.ref f) gs) (fun r s' => match r with
      | .ok (.ret u) => EP X pins σ Q u s'
      | .ok _ => False
      | .error e => X.xe e s') s := by
  refine codeAny_mono h fun r s2 hq => ?_
  cases r with
  | error e => exact hq.elim
  | ok fl => cases fl <;> exact hq
/-- f(e, ..), f a def of the module -/
theorem pe_callG (F : FnG X.prog X.w X.K X.mg X.base k f fd ps sp) (hr : Rm k X.A) (hg : Gl X x) (hm : X.mg x = some (.ref f)) (hk : PySem.W.keepIn X.K (.ref f) = true) (hb : Binds X.K fd ps []) (ha : PA X (e :: es) t)
    (hdb : (x == ("__debug__" : Str)) = false := by decide) (he : starEach (e :: es) X.env = (false, eval e X.env) :: starEach es X.env := by rfl) (hpl : (backTo pos (starEach es X.env)).any (·.1) = false := by rfl) :
    PE X (.Call (.Name x p) (e :: es) [] pos) (tCall sp [] E0 t) := by
  refine ⟨fun pins s σ H Q I h => wpAny_Call_Name_kw (ld_glob I hg hm ?_ hdb)⟩
  refine PySem.W.callWith_K (h₀ := X.base) I.ok.mod.kin hk (thn (ha.run pos pins s σ H _ I h) fun us s1 ⟨vs, H1, I1, r, q⟩ => ⟨I1.kIn, wpAny_call ?_⟩) he hpl
  have q : sp (vs ++ []) H1 Q E0 := q
  rw [List.append_nil] at q
  have hl : (us ++ []).length = ps.length := by rw [List.append_nil, ← r.length]; exact F.ln _ _ _ _ q
  have hbb := hb s1 us I1.kIn hl
  rw [List.append_nil] at hbb
  exact end_g (run_g F hr hbb I1 r q)
end
end DW
namespace DW
open PySem L2 RZ PyProof.Rows
/-! ### the law's end -/
/-- the heap that tracks the script alone, or nothing where the script is the module's own -/
def HScr (K : PySem.W.Frag) (a : Addr) (vs : List Value) (ns : List Int) : Hp := fun b => if b = a ∧ K.lookup a = none then some (.frz (seqObj "list" vs.toArray 0) (.lst (ns.map V.int))) else none
theorem hscr_some {K : PySem.W.Frag} {a b : Addr} {vs : List Value} {ns : List Int} {o : HO} (h : HScr K a vs ns b = some o) : b = a ∧ K.lookup a = none ∧ o = .frz (seqObj "list" vs.toArray 0) (.lst (ns.map V.int)) := by
  unfold HScr at h
  split at h
  · rename_i q; exact ⟨q.1, q.2, (Option.some.inj h).symm⟩
  · cases h
theorem law_g {P : Program} {w : World} {K : PySem.W.Frag} {mg mb : Str → Option Value} {k : Nat} {fa a : Addr} {fd : FuncData} {x : Str} {sp : Sp} {s : Shared} {vs : List Value} {ns : List Int} (inK : K.In s.heap) (gl : s.heap.Ns mainGlobals mg)
    (bl : s.heap.Ns builtinsNs mb) (bb : ∀ x : Str, x ≠ "__name__" → mb x = bootBuiltins x) (lim : s.heap.NoLimit) (gn : s.gens = #[]) (ha : s.heap.get? a = some (seqObj "list" vs.toArray 0)) (hi : IntsAre vs ns) (hl : ns.length ≤ sizeLine) (hr : Rm k callerA)
    (F : ∀ base : Heap, K.In base → base.Ns mainGlobals mg → FnG P w K mg base k fa fd [x] sp) (bind : ∀ (s : Shared) (u : Value), BindsTo s fd ⟨[u], []⟩ [(x, u)])
    (want : ∀ H : Hp, Only H → SqL K H a (ns.map V.int) → sp [.ref a] H (fun v _ => v = .bl true) E0) :
    codeAny (model P w) callerA (.call (.ref fa) ⟨[.ref a], []⟩) (fun r s' => r = .ok (.ret (.bool true)) ∧ OldK s.heap s'.heap ∧ s'.os = s.os ∧ AllBare s'.gens) s := by
  have rel := vals_ints hi
  have len := hi.length
  have keepN : ∀ {b : Addr} {o : Obj} {es : Array DictEntry} {ep : Nat}, s.heap.get? b = some o → o.data = .dict es ep → HScr K a vs ns b = none := fun {b o es ep} q d => by
    cases z : HScr K a vs ns b with
    | none => rfl
    | some y =>
      obtain ⟨rfl, _, _⟩ := hscr_some z
      rw [ha] at q
      cases q
      cases d
  have nsB : ∀ {b : Addr} {m : Str → Option Value}, s.heap.Ns b m → (hidT s.heap (HScr K a vs ns)).Ns b m := fun ⟨o, es, ep, q, d, r⟩ => ⟨o, es, ep, hidT_get q (keepN q d), d, r⟩
  have inB : K.In (hidT s.heap (HScr K a vs ns)) := fun b o q => hidT_get (inK b o q) (by
    cases z : HScr K a vs ns b with
    | none => rfl
    | some y =>
      obtain ⟨rfl, n, _⟩ := hscr_some z
      rw [n] at q
      cases q)
  have hM : Mod K mg (hidT s.heap (HScr K a vs ns)) := ⟨inB, nsB gl, ⟨mb, nsB bl, bb⟩, let ⟨mc, h1, h2⟩ := lim; ⟨mc, nsB h1, h2⟩⟩
  have hok : HOk P w (HScr K a vs ns) s.heap := fun b o z => by
    obtain ⟨rfl, _, rfl⟩ := hscr_some z
    exact ⟨ha, by rw [List.length_map]; exact hl, vs, 0, rel, ha⟩
  have e0 : Env0 P w K mg (hidT s.heap (HScr K a vs ns)) callerA [] s (HScr K a vs ns) := ⟨rfl, hM, fun b o q => of_hidT q, Nat.le_of_eq (hidT_size _ _), trivial, fun b hb => absurd hb List.not_mem_nil, hok, .of_eq gn⟩
  have only : Only (HScr K a vs ns) := fun b => by
    cases z : HScr K a vs ns b with
    | none => exact .inl rfl
    | some y =>
      obtain ⟨_, _, rfl⟩ := hscr_some z
      exact .inr ⟨_, _, rfl⟩
  have sq : SqL K (HScr K a vs ns) a (ns.map V.int) := by
    cases hk : K.lookup a with
    | none => exact .inl (.inr ⟨seqObj "list" vs.toArray 0, if_pos ⟨rfl, hk⟩⟩)
    | some o =>
      have q := inK a o hk
      rw [ha] at q
      cases q
      exact .inr ⟨_, vs.toArray, 0, hk, rfl, rfl, rfl, by rw [List.size_toArray, len]; exact hl, by simpa using rel⟩
  refine codeAny_mono ((F _ inB (nsB gl)).go callerA [] s _ ⟨[.ref a], []⟩ [.ref a] [.ref a] _ _ hr e0 (bind s (.ref a)) (.cons rfl .nil) (want _ only sq)) fun r s2 h => ?_
  cases r with
  | error e => exact h.elim
  | ok fl =>
    cases fl with
    | next => exact h.elim
    | brk => exact h.elim
    | cont => exact h.elim
    | ret u =>
      obtain ⟨v, H2, os, bare, un, hok2, rv, q⟩ := h
      have q : v = .bl true := q
      subst q
      cases (show u = Value.bool true from rv)
      refine ⟨rfl, OldK.of_keep fun b o q => ?_, os, bare⟩
      cases z : HScr K a vs ns b with
      | none => exact un.keep b o q z (fun y => absurd y List.not_mem_nil) List.not_mem_nil
      | some y =>
        obtain ⟨rfl, _, rfl⟩ := hscr_some z
        rw [ha] at q
        cases q
        exact (hok2 b _ (un.frzs b _ _ z)).1
theorem walk_g {l : PySem.W.OpenLaw} {n k : Nat} {q : Program} {loose : List Str} {XP : (Str → Option Value) → Heap → Prop} {YP : World → Heap → Prop} {d : DefRec} {K : Params → PySem.W.Frag} {sp : PySem.W.Frag → Sp} {x : Str}
    (hn : l.most = some n) (hn2 : n ≤ sizeLine) (hd : d.params.defaults = []) (hr : Rm k callerA) (hY : ∀ (w : World) (h : Heap), YP w h → (K w.params).In h)
    (F : ∀ (w : World) (mg : Str → Option Value) (fa : Addr) (h : Heap), (K w.params).In h → h.Ns mainGlobals mg → mg d.name = some (.ref fa) →
      ∃ fd : FuncData, (∀ (s : Shared) (u : Value), BindsTo s fd ⟨[u], []⟩ [(x, u)]) ∧ ∀ base : Heap, (K w.params).In base → base.Ns mainGlobals mg → FnG l.prog w (K w.params) mg base k fa fd [x] (sp (K w.params)))
    (want : ∀ (K : PySem.W.Frag) (H : Hp) (a : Addr) (ns : List Int), ns.length ≤ n → Only H → SqL K H a (ns.map V.int) → sp K [.ref a] H (fun v _ => v = .bl true) E0) :
    PySem.W.WalkO q loose XP YP l.row.toRowW d [] (fun f vs => PySem.call f vs) := by
  refine Att.attach_call hn hd fun w s₀ s₁ mg mb fa o pm cd doc a vs ns G Y ho h1 h2 hmg hobj hints hlen hg => ?_
  have inK := hY w _ Y
  obtain ⟨fd, hb, hF⟩ := F w mg fa _ inK G.T.g hmg
  exact law_g inK G.T.g G.T.b G.T.builtins G.T.nolimit hg hobj hints (Nat.le_trans hlen hn2) hr hF hb fun H h3 h4 => want _ H a ns hlen h3 h4
end DW
namespace DW
open PySem PySem.Spec PyProof.Rows L2
theorem walk_gE {l : PySem.W.OpenLaw} {n k : Nat} {q : Program} {loose : List Str} {XP : (Str → Option Value) → Heap → Prop} {YP : World → Heap → Prop} {d : DefRec} {x : Str}
    (hn : l.most = some n) (hn2 : n ≤ sizeLine) (hdf : d.params.defaults = []) (hr : Rm k callerA)
    (F : ∀ (w : World) (mg : Str → Option Value) (fa : Addr) (h : Heap), YP w h → h.Ns mainGlobals mg → mg d.name = some (.ref fa) →
      ∃ (K : PySem.W.Frag) (fd : FuncData) (sp : Sp), K.In h ∧ (∀ (s : Shared) (u : Value), BindsTo s fd ⟨[u], []⟩ [(x, u)]) ∧
        (∀ (H : Hp) (a : Addr) (ns : List Int), ns.length ≤ n → Only H → SqL K H a (ns.map V.int) → sp [.ref a] H (fun v _ => v = .bl true) E0) ∧
        ∀ base : Heap, K.In base → base.Ns mainGlobals mg → FnG l.prog w K mg base k fa fd [x] sp) :
    PySem.W.WalkO q loose XP YP l.row.toRowW d [] (fun f vs => PySem.call f vs) := by
  refine Att.attach_call hn hdf fun w s₀ s₁ mg mb fa o pm cd doc a vs ns G Y ho hd hcd hmg hobj hints hlen hg => ?_
  obtain ⟨K, fd, sp, KX, hb, hsp, hF⟩ := F w mg fa _ Y G.T.g hmg
  exact law_g KX G.T.g G.T.b G.T.builtins G.T.nolimit hg hobj hints (Nat.le_trans hlen hn2) hr hF hb fun H h3 h4 => hsp H a ns hlen h3 h4
theorem dfl_none {K : PySem.W.Frag} {dV : Value} (h : DflV K dV []) : dV = .none := by
  rcases h with ⟨_, h⟩ | ⟨h, _⟩
  · exact h
  · exact (h rfl).elim
end DW
namespace DW
open PySem L2 RZ PyProof.Rows
/-! ### promises told of data -/
/-- a def that changes nothing -/
def Pu (Pre : List D → Prop) (Post : List D → D → Prop) : Sp := fun vs H Q _ => ∃ (M : Addr → Prop) (ds : List D), (∀ b, M b → ∃ o, H b = some o) ∧ DtA M H vs ds ∧ Pre ds ∧
  ∀ v d H', (∀ b o, H b = some o → H' b = some o) → Dt M H' v d → Post ds d → Q v H'
/-- a def that draws: its first argument is the deck -/
def Dr (Pre : List D → Prop) (Post : List D → D → Prop) : Sp := fun vs H Q _ => ∃ (M : Addr → Prop) (a c : Addr) (us : List V) (ds : List D), vs = .ref a :: us ∧ (M a ∧ M c ∧ a ≠ c) ∧ (∀ b, M b → ∃ o, H b = some o) ∧ Dk a c H ∧ DtA M H us ds ∧ Pre ds ∧
  ∀ v d H', (∀ b o, H b = some o → b ≠ a → b ≠ c → H' b = some o) → Dk a c H' → Dt M H' v d → Post ds d → Q v H'
structure Kn (P : Program) (w : World) (K : PySem.W.Frag) (mg : Str → Option Value) (base : Heap) (x qual : Str) (st : Stmt) (k : Nat) (ps : List Str) (sp : Sp) : Prop where
  ex : ∃ f fd, FnG P w K mg base k f fd ps sp ∧ mg x = some (.ref f) ∧ Fun K x qual st f fd ∧ Binds K fd ps []
theorem Kn.up {P : Program} {w : World} {K : PySem.W.Frag} {mg : Str → Option Value} {base : Heap} {x qual : Str} {st : Stmt} {k j : Nat} {ps : List Str} {sp : Sp} (h : Kn P w K mg base x qual st k ps sp) (l : k ≤ j) : Kn P w K mg base x qual st j ps sp := by
  obtain ⟨f, fd, q1, q2, q3, q4⟩ := h.ex
  exact ⟨f, fd, q1.mono l, q2, q3, q4⟩
abbrev Xf (P : Program) (w : World) (K : PySem.W.Frag) (mg : Str → Option Value) (base : Heap) (N : List Str) (q : Str) (st : Stmt) (f : Addr) (cdv : Value) (A : Around) (outer : List Env) (s : Shared) (H : Hp) (E : XK) : Cx :=
  (cxOf CX0 P w K mg base N q (defScope st) f cdv A outer s H E).nox
def es0 (N : List Str) (ds : List D) : List Sl := ds.map Sl.d ++ List.replicate (N.length - ds.length) .no
def es0k (N : List Str) (ds : List D) : List Sl := .dk :: (ds.map Sl.d ++ List.replicate (N.length - (ds.length + 1)) .no)
section
variable {F : Fc} {X : Cx} {e a b c : Expr} {es : List Sl} {Φ : D → Prop} {K : Ek} {pos p : Pos} {s : Stmt} {ss : List Stmt} {H H' : Hp} {σ : L2.St}
/-- the deck is drawn from: the rest stands -/
theorem Sg.deck (s : Sg F H σ es) {a c : Addr} (hd : F.dk = some (a, c)) (e : ∀ b o, H b = some o → b ≠ a → b ≠ c → H' b = some o) (k : Dk a c H') : Sg F H' σ es ∧ ExM F.M0 H H' := by
  obtain ⟨m1, m2, m3⟩ := F.dkM a c hd
  have ex : ExM F.M0 H H' := fun b o q n => e b o q (fun z => n (by rw [z]; exact m1)) (fun z => n (by rw [z]; exact m2))
  refine ⟨⟨s.len, fun b o q n => ?_, F.dkS a c hd H H' s.ok (fun b o _ q h1 h2 => e b o q h1 h2) k, fun i x q => ?_, fun i x q z => ?_, s.inj, s.dk, fun i kvs q => ?_⟩, ex⟩
  · exact e b o (s.ext b o q n) (fun z => n (by rw [z]; exact m1)) (fun z => n (by rw [z]; exact m2))
  · obtain ⟨v, r1, r2⟩ := s.dat i x q
    exact ⟨v, r1, r2.mono ex.mx⟩
  · obtain ⟨l, r1, r2, ⟨u, r4⟩, r5⟩ := s.own i x q z
    have l1 : l ≠ a := fun y => r2.2 (by rw [y]; exact m1)
    have l2 : l ≠ c := fun y => r2.2 (by rw [y]; exact m2)
    exact ⟨l, r1, r2, ⟨u, e _ _ r4 l1 l2⟩, r5.mono ex.mx fun o q => e _ o q l1 l2⟩
  · obtain ⟨l, od, xs, q1, q2, q4, q3⟩ := s.fd i kvs q
    exact ⟨l, od, xs, q1, ex.mx l _ q2 q4, q4, KvOk.move (fun b o q n => ⟨ex.mx b o q n, n⟩) q3⟩
/-! ### calls of defs -/
theorem w_call {x qual : Str} {st : Stmt} {k : Nat} {ps : List Str} {Pre : List D → Prop} {Post : List D → D → Prop} {r : List Expr} (hk : Kn X.prog X.w X.K X.mg X.base x qual st k ps (Pu Pre Post)) (hr : Rm k X.A) (hg : Gl X x)
    (h : WA F X (a :: r) es fun ds => Pre ds ∧ ∀ d, Post ds d → Φ d) (hdb : (x == ("__debug__" : Str)) = false := by decide)
    (he : starEach (a :: r) X.env = (false, eval a X.env) :: starEach r X.env := by rfl) (hpl : (backTo pos (starEach r X.env)).any (·.1) = false := by rfl) : W F X (.Call (.Name x p) (a :: r) [] pos) es Φ := fun σ H s Q k' => by
  obtain ⟨f, fd, hF, hm, hf, hb⟩ := hk.ex
  refine ⟨_, pe_callG hF hr hg hm hf.kp hb can_a hdb he hpl, ?_⟩
  refine h σ H s _ fun vs ds H1 s1 x1 t1 ⟨hp, q⟩ => ?_
  refine ⟨Mx F σ es, ds, s1.kn, by rw [List.append_nil]; exact t1, hp, fun v d H' e t po => ?_⟩
  exact k' v d H' (s1.grow e) (x1.trans' (ExM.of e)) t (q d po)
theorem w_callk {x qual y : Str} {st : Stmt} {k i : Nat} {p2 : Pos} {ps : List Str} {Pre : List D → Prop} {Post : List D → D → Prop} {r : List Expr} (hk : Kn X.prog X.w X.K X.mg X.base x qual st k ps (Dr Pre Post)) (hr : Rm k X.A) (hg : Gl X x)
    (hd : es[i]? = some .dk) (hN : X.N[i]? = some y := by rfl) (hv : Vis X.env.scope y := by first | exact Or.inl rfl | exact Or.inr (Or.inl rfl) | exact Or.inr (Or.inr rfl))
    (h : WA F X r es fun ds => Pre ds ∧ ∀ d, Post ds d → Φ d) (hdb : (x == ("__debug__" : Str)) = false := by decide) (hdy : (y == ("__debug__" : Str)) = false := by decide) (hcy : (y == ("__classdict__" : Str)) = false := by decide)
    (he : starEach (.Name y p2 :: r) X.env = (false, eval (.Name y p2) X.env) :: starEach r X.env := by rfl) (hpl : (backTo pos (starEach r X.env)).any (·.1) = false := by rfl) : W F X (.Call (.Name x p) (.Name y p2 :: r) [] pos) es Φ := fun σ H s Q k' => by
  obtain ⟨f, fd, hF, hm, hf, hb⟩ := hk.ex
  refine ⟨_, pe_callG hF hr hg hm hf.kp hb (pa_cons (pv i hN hv hdy hcy) can_a he) hdb he hpl, ?_⟩
  obtain ⟨da, dc, hdk, hs⟩ := s.dk i hd
  refine ⟨.ref da, hs, ?_⟩
  refine h σ H s _ fun vs ds H1 s1 x1 t1 ⟨hp, q⟩ => ?_
  refine ⟨Mx F σ es, da, dc, vs, ds, by rw [List.append_nil], ?_, s1.kn, F.dkH da dc hdk H1 s1.ok, t1, hp, fun v d H' e kk t po => ?_⟩
  · obtain ⟨m1, m2, m3⟩ := F.dkM da dc hdk
    exact ⟨.inl m1, .inl m2, m3⟩
  · obtain ⟨s2, x2⟩ := s1.deck hdk e kk
    exact k' v d H' s2 (x1.trans' x2) t (q d po)
end
/-! ### the body of a def -/
section
variable {P : Program} {w : World} {K : PySem.W.Frag} {mg : Str → Option Value} {base : Heap} {x qual : Str} {st : Stmt} {f : Addr} {fd : FuncData} {N ps : List Str} {k : Nat} {Pre : List D → Prop} {Post : List D → D → Prop}
theorem get_map_d {ds : List D} {n i : Nat} {y : D} (h : (ds.map Sl.d ++ List.replicate n Sl.no)[i]? = some (.d y)) : ds[i]? = some y := by
  by_cases hi : i < ds.length
  · rw [List.getElem?_append_left (by rw [List.length_map]; exact hi), List.getElem?_map] at h
    cases e : ds[i]? with
    | none => rw [e] at h; cases h
    | some z => rw [e] at h; cases h; rfl
  · rw [List.getElem?_append_right (by rw [List.length_map]; omega), List.getElem?_replicate] at h
    split at h <;> cases h
theorem no_own_d {ds : List D} {n i : Nat} {e : Sl} (h : (ds.map Sl.d ++ List.replicate n Sl.no)[i]? = some e) : isOwn e = false ∧ e ≠ .dk ∧ ∀ kvs, e ≠ .fd kvs := by
  by_cases hi : i < ds.length
  · rw [List.getElem?_append_left (by rw [List.length_map]; exact hi), List.getElem?_map] at h
    cases q : ds[i]? with
    | none => rw [q] at h; cases h
    | some z => rw [q] at h; cases h; exact ⟨rfl, (fun z => nomatch z), fun _ z => nomatch z⟩
  · rw [List.getElem?_append_right (by rw [List.length_map]; omega), List.getElem?_replicate] at h
    split at h
    · cases h; exact ⟨rfl, (fun z => nomatch z), fun _ z => nomatch z⟩
    · cases h
theorem start_at {N : List Str} {vs : List V} {i : Nat} {v : V} (h : vs[i]? = some v) : (L2.start N vs)[i]? = some (some v) := by
  unfold L2.start
  have hi : i < vs.length := (List.getElem?_eq_some_iff.mp h).1
  rw [List.getElem?_append_left (by rw [List.length_map]; exact hi), List.getElem?_map, h]
  rfl
theorem no_own {σ : L2.St} {es : List Sl} (h : ∀ (i : Nat) e, es[i]? = some e → isOwn e = false) : ∀ b, ¬ Own σ es b := fun b ⟨i, e, h1, h2, _⟩ => by
  rw [h i e h1] at h2
  cases h2
theorem mx_none {F : Fc} {σ : L2.St} {es : List Sl} (h : ∀ (i : Nat) e, es[i]? = some e → isOwn e = false) : ∀ b, Mx F σ es b → F.M0 b := fun b z => z.elim id fun z => (no_own h b z).elim
def FcP (w : World) (M : Addr → Prop) (H : Hp) (kn : ∀ b, M b → ∃ o, H b = some o) : Fc where
  H0 := H
  M0 := M
  dk := none
  w := w
  ok := fun H' => ∀ b o, M b → H b = some o → H' b = some o
  okx := fun H1 H2 h e b o hb q => e b o hb (h b o hb q)
  kn := fun H1 h b hb => let ⟨o, q⟩ := kn b hb; ⟨o, h b o hb q⟩
  dkM := fun _ _ h => nomatch h
  dkH := fun _ _ h => nomatch h
  dkS := fun _ _ h => nomatch h
def FcD (w : World) (M : Addr → Prop) (H : Hp) (kn : ∀ b, M b → ∃ o, H b = some o) (a c : Addr) (hm : M a ∧ M c ∧ a ≠ c) : Fc where
  H0 := H
  M0 := M
  dk := some (a, c)
  w := w
  ok := fun H' => (∀ b o, M b → H b = some o → b ≠ a → b ≠ c → H' b = some o) ∧ Dk a c H'
  okx := fun H1 H2 h e => ⟨fun b o hb q n1 n2 => e b o hb (h.1 b o hb q n1 n2), by
    obtain ⟨ns, m, k, q1, q2, q3⟩ := h.2
    exact ⟨ns, m, k, e a _ hm.1 q1, e c _ hm.2.1 q2, q3⟩⟩
  kn := fun H1 h b hb => by
    obtain ⟨ns, m, k, q1, q2, q3⟩ := h.2
    by_cases n1 : b = a
    · exact ⟨_, by rw [n1]; exact q1⟩
    · by_cases n2 : b = c
      · exact ⟨_, by rw [n2]; exact q2⟩
      · obtain ⟨o, q⟩ := kn b hb
        exact ⟨o, h.1 b o hb q n1 n2⟩
  dkM := fun a' c' h => by cases h; exact hm
  dkH := fun a' c' h H1 h1 => by cases h; exact h1.2
  dkS := fun a' c' h H1 H2 h1 e q => by
    cases h
    exact ⟨fun b o hb r n1 n2 => e b o hb (h1.1 b o hb r n1 n2) n1 n2, q⟩
theorem ok_pu (F : Fun K x qual st f fd) (S : FnScope N ps (defScope st)) (len : ∀ ds, Pre ds → ds.length = ps.length) (hN : ps.length ≤ N.length := by decide)
    (h : ∀ (cdv : Value) (A : Around) (outer : List Env) (s : Shared) (H : Hp) (E : XK), Rm k (A.deeper (envOfC qual (defScope st) s.heap.objs.size f cdv)) → ∀ (F : Fc) (ds : List D), F.w = w → Pre ds →
      WB F (Xf P w K mg base N qual st f cdv A outer s H E) (defBody st) (es0 N ds) { nx := fun _ => Post ds .none, rt := Post ds }) : FnG P w K mg base (k + 1) f fd ps (Pu Pre Post) := by
  refine ok_g F S (fun vs H Q E hs => ?_) (fun cdv A outer s H vs Q E hr hs => ⟨_, can_b, ?_⟩)
  · obtain ⟨M, ds, _, t, hp, _⟩ := hs
    rw [t.length]
    exact len ds hp
  · obtain ⟨M, ds, kn, t, hp, q⟩ := hs
    have hl := len ds hp
    have no : ∀ (i : Nat) e, (es0 N ds)[i]? = some e → isOwn e = false := fun i e h => (no_own_d h).1
    have sg : Sg (FcP w M H kn) H (L2.start N vs) (es0 N ds) := by
      refine ⟨?_, ExM.refl, fun _ _ _ q => q, fun i y hi => ?_, fun i e hi z => ?_, fun i j e e' l h1 _ z => ?_, fun i hi => ?_, fun i kvs hi => ?_⟩
      · unfold es0 L2.start
        rw [List.length_append, List.length_append, List.length_map, List.length_map, List.length_replicate, List.length_replicate, t.length]
      · obtain ⟨v, e1, t1⟩ := t.get (get_map_d hi)
        exact ⟨v, start_at e1, t1.weak (mx_none (F := FcP w M H kn) no)⟩
      · rw [no i e hi] at z; cases z
      · rw [no i e h1] at z; cases z
      · exact absurd rfl (no_own_d hi).2.1
      · exact absurd rfl ((no_own_d hi).2.2 _)
    have fin : ∀ v d H', ExM M H H' → (FcP w M H kn).ok H' → Dt M H' v d → Post ds d → Q v H' := fun v d H' x ok t po => q v d H' (fun b o e => by
      by_cases hm : M b
      · exact ok b o hm e
      · exact x b o e hm) t po
    refine h cdv A outer s H E hr (FcP w M H kn) ds rfl hp (L2.start N vs) H _ sg ⟨fun σ' H' es' s' _ po => ?_, fun v d H' x ok t po => fin v d H' x ok t po, fun _ _ _ _ _ z => z.elim, fun _ _ _ _ _ z => z.elim⟩
    exact fin .non .none H' s'.ext s'.ok .non po
theorem ok_dr (F : Fun K x qual st f fd) (S : FnScope N ps (defScope st)) (len : ∀ ds, Pre ds → ds.length + 1 = ps.length) (hN : ps.length ≤ N.length := by decide)
    (h : ∀ (cdv : Value) (A : Around) (outer : List Env) (s : Shared) (H : Hp) (E : XK), Rm k (A.deeper (envOfC qual (defScope st) s.heap.objs.size f cdv)) → ∀ (F : Fc) (ds : List D), F.w = w → Pre ds →
      WB F (Xf P w K mg base N qual st f cdv A outer s H E) (defBody st) (es0k N ds) { nx := fun _ => Post ds .none, rt := Post ds }) : FnG P w K mg base (k + 1) f fd ps (Dr Pre Post) := by
  refine ok_g F S (fun vs H Q E hs => ?_) (fun cdv A outer s H vs Q E hr hs => ⟨_, can_b, ?_⟩)
  · obtain ⟨M, a, c, us, ds, rfl, _, _, _, t, hp, _⟩ := hs
    rw [List.length_cons, t.length]
    exact len ds hp
  · obtain ⟨M, a, c, us, ds, rfl, hm, kn, dk, t, hp, q⟩ := hs
    have hl := len ds hp
    have no : ∀ (i : Nat) e, (es0k N ds)[i]? = some e → isOwn e = false := fun i e h => by
      cases i with
      | zero => cases h; rfl
      | succ i => exact (no_own_d h).1
    have sg : Sg (FcD w M H kn a c hm) H (L2.start N (.ref a :: us)) (es0k N ds) := by
      refine ⟨?_, ExM.refl, ⟨fun _ _ _ q _ _ => q, dk⟩, fun i y hi => ?_, fun i e hi z => ?_, fun i j e e' l h1 _ z => ?_, fun i hi => ?_, fun i kvs hi => ?_⟩
      · unfold es0k L2.start
        rw [List.length_cons, List.length_append, List.length_append, List.length_map, List.length_map, List.length_replicate, List.length_replicate, List.length_cons, t.length]
        omega
      · cases i with
        | zero => cases hi
        | succ i =>
          obtain ⟨v, e1, t1⟩ := t.get (get_map_d hi)
          exact ⟨v, start_at (by rw [List.getElem?_cons_succ]; exact e1), t1.weak (mx_none (F := FcD w M H kn a c hm) no)⟩
      · rw [no i e hi] at z; cases z
      · rw [no i e h1] at z; cases z
      · cases i with
        | zero => exact ⟨a, c, rfl, start_at rfl⟩
        | succ i => exact absurd rfl (no_own_d hi).2.1
      · cases i with
        | zero => cases hi
        | succ i => exact absurd rfl ((no_own_d hi).2.2 _)
    have fin : ∀ v d H', ExM M H H' → (FcD w M H kn a c hm).ok H' → Dt M H' v d → Post ds d → Q v H' := fun v d H' x ok t po => q v d H' (fun b o e n1 n2 => by
      by_cases hm : M b
      · exact ok.1 b o hm e n1 n2
      · exact x b o e hm) ok.2 t po
    refine h cdv A outer s H E hr (FcD w M H kn a c hm) ds rfl hp (L2.start N (.ref a :: us)) H _ sg ⟨fun σ' H' es' s' _ po => ?_, fun v d H' x ok t po => fin v d H' x ok t po, fun _ _ _ _ _ z => z.elim, fun _ _ _ _ _ z => z.elim⟩
    exact fin .non .none H' s'.ext s'.ok .non po
end
end DW
namespace DW
open PySem L2 RZ PyProof.Rows
/-! ### dicts with nested keys: the raw rules over the hand layer -/
def storedN (xs : List NKV) (k : NestedKey) (b : Addr) (v : V) : List NKV := if (xs.any fun x => decide (x.1 = k)) = true then xs.map (fun x => if x.1 = k then (x.1, x.2.1, v) else x) else xs ++ [(k, b, v)]
def valN (xs : List NKV) (k : NestedKey) : Option V := (xs.find? fun x => decide (x.1 = k)).map (·.2.2)
abbrev YR : NKV → NestedKey × Addr × Value → Prop := fun p q => p.1 = q.1 ∧ p.2.1 = q.2.1 ∧ RelV p.2.2 q.2.2
theorem yr_any {k : NestedKey} : ∀ {xs : List NKV} {ys : List (NestedKey × Addr × Value)}, Paired YR xs ys → (xs.any fun x => decide (x.1 = k)) = (atKey ys k).isSome
  | _, _, .nil => rfl
  | x :: xs, y :: ys, .cons r t => by
    have ih := yr_any (k := k) t
    by_cases h : y.1 = k
    · have h' : x.1 = k := r.1.trans h
      simp [atKey, h, h']
    · have h' : ¬ x.1 = k := fun e => h (r.1.symm.trans e)
      simp only [atKey] at ih
      simp [atKey, h, h', ih]
theorem yr_map {k : NestedKey} {v : V} {u : Value} (rv : RelV v u) : ∀ {xs : List NKV} {ys : List (NestedKey × Addr × Value)}, Paired YR xs ys → Paired YR (xs.map fun x => if x.1 = k then (x.1, x.2.1, v) else x) (ys.map (putAt k u))
  | _, _, .nil => .nil
  | x :: xs, y :: ys, .cons r t => by
    rw [List.map_cons, List.map_cons]
    refine .cons ?_ (yr_map rv t)
    unfold putAt
    by_cases h : y.1 = k
    · rw [if_pos h, if_pos (r.1.trans h)]
      exact ⟨r.1, r.2.1, rv⟩
    · rw [if_neg h, if_neg fun e => h (r.1.symm.trans e)]
      exact r
theorem yr_app : ∀ {xs : List NKV} {ys : List (NestedKey × Addr × Value)} {p : NKV} {q : NestedKey × Addr × Value}, Paired YR xs ys → YR p q → Paired YR (xs ++ [p]) (ys ++ [q])
  | _, _, _, _, .nil, r => .cons r .nil
  | _, _, _, _, .cons r t, q => .cons r (yr_app t q)
theorem yr_stored {k : NestedKey} {b : Addr} {v : V} {u : Value} (rv : RelV v u) {xs : List NKV} {ys : List (NestedKey × Addr × Value)} (h : Paired YR xs ys) : Paired YR (storedN xs k b v) (storedH ys k b u) := by
  unfold storedN storedH
  rw [yr_any h]
  split
  · exact yr_map rv h
  · exact yr_app h ⟨rfl, rfl, rv⟩
theorem yr_val {k : NestedKey} : ∀ {xs : List NKV} {ys : List (NestedKey × Addr × Value)}, Paired YR xs ys → RelO (valN xs k) ((atKey ys k).map (·.2))
  | _, _, .nil => trivial
  | x :: xs, y :: ys, .cons r t => by
    have ih := yr_val (k := k) t
    unfold valN atKey at ih ⊢
    by_cases h : y.1 = k
    · have h' : x.1 = k := r.1.trans h
      simp only [List.find?_cons, h, h', decide_true, Option.map_some]
      exact r.2.2
    · have h' : ¬ x.1 = k := fun e => h (r.1.symm.trans e)
      simp only [List.find?_cons, h, h', decide_false]
      exact ih
theorem storedN_len (xs : List NKV) (k : NestedKey) (b : Addr) (v : V) : (storedN xs k b v).length ≤ xs.length + 1 := by
  unfold storedN
  split
  · rw [List.length_map]; omega
  · rw [List.length_append]; exact Nat.le_refl _
theorem storedN_keys (xs : List NKV) (k : NestedKey) (b : Addr) (v : V) (h : (xs.map (·.1)).Nodup) : ((storedN xs k b v).map (·.1)).Nodup := by
  unfold storedN
  split
  · rw [List.map_map]
    have e : ((fun x : NKV => x.1) ∘ fun x : NKV => if x.1 = k then (x.1, x.2.1, v) else x) = fun x : NKV => x.1 := by
      funext x
      show (if x.1 = k then (x.1, x.2.1, v) else x : NKV).1 = x.1
      split <;> rfl
    rw [e]
    exact h
  · rename_i hn
    rw [List.map_append]
    refine List.nodup_append.mpr ⟨h, by simp, fun x hx y hy e => ?_⟩
    obtain ⟨z, hz, rfl⟩ := List.mem_map.mp hx
    have hy' : y = k := by simpa using hy
    exact hn (List.any_eq_true.mpr ⟨z, hz, decide_eq_true (e.trans hy')⟩)
section
variable {X : Cx} {pins : List (Addr × Obj)} {σ : L2.St} {H : Hp} {s : Shared} {M : Addr → Prop}
mutual
theorem Dt.nested (I : Inv X pins σ H s) : ∀ (d : D) (v : V) (u : Value), Dt M H v d → keyable d = true → RelV v u → NestedIs s.heap (toKey d) u
  | .none, _, _, h, _, r => by cases h; cases r; exact .none
  | .bool b, _, _, h, _, r => by cases h; cases r; exact .bool rfl
  | .int i, _, _, h, _, r => by cases h; obtain ⟨t, rfl⟩ := r; exact .int i t
  | .str x, _, _, h, _, r => by cases h; obtain ⟨t, rfl⟩ := r; exact .text x t
  | .list _, _, _, _, k, _ => by cases k
  | .dict _, _, _, _, k, _ => by cases k
  | .tuple ds, _, _, h, k, r => by
    cases h with
    | tup h1 h2 h3 =>
      cases r
      obtain ⟨its, rv, ⟨o, ho, hc, n, hd⟩, _⟩ := I.tuple (SqT.of h1)
      exact .tup ho hc hd (DtA.nested I ds _ its h3 k rv)
theorem DtA.nested (I : Inv X pins σ H s) : ∀ (ds : List D) (vs : List V) (us : List Value), DtA M H vs ds → keyables ds = true → Vals vs us → NestedAll s.heap (toKeys ds) us
  | [], _, _, h, _, r => by cases h; cases r; exact .nil
  | d :: ds, _, _, h, k, r => by
    cases h with
    | cons h1 h2 =>
      cases r with
      | cons r1 r2 =>
        have k' := Bool.and_eq_true_iff.mp k
        exact .cons (Dt.nested I d _ _ h1 k'.1 r1) (DtA.nested I ds _ _ h2 k'.2 r2)
end
/-- at b stands the key k -/
def NKey (H : Hp) (b : Addr) (k : NestedKey) : Prop := ∃ (M : Addr → Prop) (d : D), Dt M H (.ref b) d ∧ keyable d = true ∧ toKey d = k ∧ k.depth ≤ 8
theorem NKey.is {w : World} {P : Program} {b : Addr} {k : NestedKey} (h : NKey H b k) (I : Inv X pins σ H s) : (nestedKind P w).is s.heap k b := by
  obtain ⟨M, d, h1, h2, rfl, h4⟩ := h
  exact ⟨Dt.nested I d _ _ h1 h2 rfl, h4⟩
theorem nd_obj {P : Program} {w w' : World} {h : Heap} {a : Addr} {xs : List NKV} (hd : (a == sysModules) = false) (hl : xs.length ≤ sizeLine) (hn : (xs.map (·.1)).Nodup) {ys : List (NestedKey × Addr × Value)} (r : Paired YR xs ys)
    (e : ∃ o es ep, h.get? a = some o ∧ o.ExactDict ∧ o.data = .dict es ep ∧ es.toList = ys.map fun y => (⟨y.1.hash w, .ref y.2.1, y.2.2⟩ : DictEntry)) : ObjOk P w' H h a (ND w a xs) := by
  obtain ⟨o, es, ep, h1, h2, h3, h4⟩ := e
  refine ⟨⟨hd, hl, hn, ys, r, o, es, ep, h1, h2, h3, h4⟩, ⟨o, h1⟩, fun g1 g2 q st => ?_⟩
  obtain ⟨q1, q2, q3, zs, q4, o', es', ep', q5, q6, q7, q8⟩ := q
  exact ⟨q1, q2, q3, zs, q4, o', es', ep', st _ q5, q6, q7, q8⟩
theorem yr_keys : ∀ {xs : List NKV} {ys : List (NestedKey × Addr × Value)}, Paired YR xs ys → xs.map (·.1) = ys.map (·.1)
  | _, _, .nil => rfl
  | _, _, .cons r t => by rw [List.map_cons, List.map_cons, r.1, yr_keys t]
theorem yr_mem : ∀ {xs : List NKV} {ys : List (NestedKey × Addr × Value)} {y : NestedKey × Addr × Value}, Paired YR xs ys → y ∈ ys → ∃ x ∈ xs, YR x y
  | _, _, _, .nil, h => by cases h
  | x :: _, _, _, .cons r t, h => by
    rcases List.mem_cons.mp h with e | h
    · exact ⟨x, List.mem_cons_self, by rw [e]; exact r⟩
    · obtain ⟨z, h1, h2⟩ := yr_mem t h
      exact ⟨z, List.mem_cons_of_mem _ h1, h2⟩
theorem nd_open (I : Inv X pins σ H s) {l : Addr} {xs : List NKV} (h : H l = some (ND X.w l xs)) (hk : ∀ x ∈ xs, NKey H x.2.1 x.1) : (l == sysModules) = false ∧ xs.length ≤ sizeLine ∧ (xs.map (·.1)).Nodup ∧ ∃ ys, Paired YR xs ys ∧ s.heap.DictOfH (nestedKind X.prog X.w) l ys := by
  obtain ⟨⟨h1, h2, h3, ys, h4, o, es, ep, h5, h6, h7, h8⟩, _, _⟩ := I.hok l _ h
  refine ⟨h1, h2, h3, ys, h4, o, es, ep, h5, h6, h7, h8, fun y hy => ?_, by rw [← yr_keys h4]; exact h3⟩
  obtain ⟨x, hx, r1, r2, _⟩ := yr_mem h4 hy
  rw [← r1, ← r2]
  exact (hk x hx).is I
end
section
variable {X : Cx} {e o i f value : Expr} {te to ti tv tf : TE} {pos pos' apos cpos : Pos}
theorem pe_newND : PE X (.Dict [] [] pos) (fun _ H Q => ∀ p, H p = none → Q (.ref p) (upd H p (ND X.w p []))) := ⟨fun pins s σ H Q I h =>
  wpAny_Dict_empty ⟨.ref s.heap.objs.size, _, I.laid (a := s.heap.objs.size) (o := ND X.w s.heap.objs.size []) (t' := s.toks) (fun _ _ q => Heap.get?_push_of_some _ q) (Nat.le_refl _)
    (nd_obj (beq_eq_false_iff_ne.mpr (Ne.symm (Nat.ne_of_lt I.big))) (Nat.zero_le _) List.nodup_nil .nil ⟨_, #[], 0, Heap.get?_push_size _ rfl, ⟨rfl, rfl, rfl⟩, rfl, rfl⟩), rfl, h _ (I.hok.fresh (Nat.le_refl _))⟩⟩
def sNDPut (w : World) (to ti tv : TE) : TS := fun D σ H => tv σ H fun v H1 => to σ H1 fun x H2 => ti σ H2 fun y H3 => ∃ (l b : Addr) (xs : List NKV) (k : NestedKey), x = .ref l ∧ y = .ref b ∧ H3 l = some (ND w l xs) ∧ xs.length < sizeLine ∧ NKey H3 b k ∧
  (∀ x ∈ xs, NKey H3 x.2.1 x.1) ∧ D.nx σ (upd H3 l (ND w l (storedN xs k b v)))
theorem ps_ndput (hu : X.A.units + 9 < cLine) (ho : PE X o to) (hi : PE X i ti) (hv : PE X value tv) (hs : swapsWith value (some (.Subscript o i pos')) pos.line X.env = pure false) :
    PS X (.Assign [.Subscript o i pos'] value pos) (sNDPut X.w to ti tv) := by
  refine ⟨fun pins s σ H D I h => ?_⟩
  refine wpAny_Assign_Subscript (thn (hv.run pins s σ H _ I h) fun r s1 ⟨v, H1, I1, rv, q1⟩ => thn (ho.run pins s1 σ H1 _ I1 q1) fun u s2 ⟨x, H2, I2, rx, q2⟩ => thn (hi.run pins s2 σ H2 _ I2 q2) fun iv s3 ⟨y, H3, I3, ry, l, b, xs, k, ex, ey, hl, hz, nk, hk, q3⟩ => ?_) hs
  subst ex ey
  obtain rfl : u = Value.ref l := rx
  obtain rfl : iv = Value.ref b := ry
  obtain ⟨hd, hz2, hn, ys, yr, hm⟩ := nd_open I3 hl hk
  have hlen : ys.length = xs.length := by
    have := congrArg List.length (yr_keys yr)
    rw [List.length_map, List.length_map] at this
    exact this.symm
  refine wpAny_setItem_heap (knd := nestedKind X.prog X.w) (show X.A.in1.units + 8 < cLine by show X.A.units + 1 + 8 < cLine; omega) (nk.is I3) hm (fun h' hm' sb => ?_) (by rw [hlen]; exact hz2)
  have mu : Mut (H3 l) := by rw [hl]; exact trivial
  obtain ⟨ob, es, ep, e1, e2, e3, e4, _, _⟩ := id hm'
  refine ⟨σ, upd H3 l (ND X.w l (storedN xs k b v)), I3.write (e := l) mu (.inl rfl) (fun c u hc e => (sb.2 c hc).trans e) ⟨ob, e1⟩ ?_, q3⟩
  exact nd_obj hd (Nat.le_trans (storedN_len xs k b v) hz) (storedN_keys xs k b v hn) (yr_stored rv yr) ⟨ob, es, ep, e1, e2, e3, e4⟩
def tNDGet2 (w : World) (to te tf : TE) : TE := fun σ H Q => to σ H fun x H1 => ∃ l : Addr, x = .ref l ∧ (∃ xs, H1 l = some (ND w l xs)) ∧ te σ H1 fun y H2 => tf σ H2 fun z H3 => ∃ (b : Addr) (xs : List NKV) (k : NestedKey), y = .ref b ∧ H3 l = some (ND w l xs) ∧ NKey H3 b k ∧
  (∀ x ∈ xs, NKey H3 x.2.1 x.1) ∧ Q ((valN xs k).getD z) H3
theorem pe_ndget2 (hu : X.A.units + 9 < cLine) (ho : PE X o to) (he : PE X e te) (hf : PE X f tf) (m : M2 X o "get" apos e f cpos) : PE X (.Call (.Attribute o "get" apos) [e, f] [] cpos) (tNDGet2 X.w to te tf) := by
  refine ⟨fun pins s σ H Q I h => ?_⟩
  refine wpAny_Call_method m.base m.few m.line PySem.F.plainAttrs_dict PySem.F.slot_dict_get PySem.F.type_dict_get (thn (ho.run pins s σ H _ I h) fun u s1 ⟨x, H1, I1, rx, l, ex, ⟨xs1, hx1⟩, q1⟩ => ?_)
  subst ex
  obtain rfl : u = Value.ref l := rx
  obtain ⟨⟨_, _, _, _, _, ob, _, _, t1, t2, _⟩, _, _⟩ := I1.hok l _ hx1
  refine ⟨⟨ob, t1, t2.1⟩, fun b q => by cases q; exact ⟨ob, t1, t2.2.1⟩, ?_⟩
  rw [m.trees]
  refine Calls.callWith_builtin rfl (Calls.evalArgs_plain (Calls.spliced_cons (thn (he.run pins s1 σ H1 _ I1 q1) fun iv s2 ⟨y, H2, I2, ry, q2⟩ =>
    Calls.spliced_cons (thn (hf.run pins s2 σ H2 _ I2 q2) fun fv s3 ⟨z, H3, I3, rz, b, xs, k, ey, hl, nk, hk, q3⟩ => Calls.spliced_nil ?_))))
  subst ey
  obtain rfl : iv = Value.ref b := ry
  obtain ⟨hd, hz2, hn, ys, yr, hm⟩ := nd_open I3 hl hk
  refine getOr_keyed (knd := nestedKind X.prog X.w) (kvs := pairsH ys) (show X.A.in1.units + 8 < cLine by show X.A.units + 1 + 8 < cLine; omega) (nk.is I3) hd ⟨ys, hm, rfl⟩ ?_
  rw [valueAt_pairsH]
  refine ⟨(valN xs k).getD z, H3, I3.tok _, ?_, q3⟩
  have q := yr_val (k := k) yr
  revert q
  cases valN xs k <;> cases (atKey ys k).map (·.2) <;> intro q
  · exact rz
  · exact q.elim
  · exact q.elim
  · exact q
def tNDItem (w : World) (to ti : TE) : TE := fun σ H Q => to σ H fun x H1 => ti σ H1 fun y H2 => ∃ (l b : Addr) (xs : List NKV) (k : NestedKey) (v : V), x = .ref l ∧ y = .ref b ∧ H2 l = some (ND w l xs) ∧ NKey H2 b k ∧ (∀ x ∈ xs, NKey H2 x.2.1 x.1) ∧ valN xs k = some v ∧ Q v H2
theorem pe_nditem (hu : X.A.units + 9 < cLine) (ho : PE X o to) (hi : PE X i ti) (hs : NoSl i) : PE X (.Subscript o i pos) (tNDItem X.w to ti) := by
  refine ⟨fun pins s σ H Q I h => ?_⟩
  refine subD_of PySem.F.slot_dict_getitem.lookup hs (thn (ho.run pins s σ H _ I h) fun u s1 ⟨x, H1, I1, rx, q1⟩ => thn (hi.run pins s1 σ H1 _ I1 q1) fun iv s2 ⟨y, H2, I2, ry, l, b, xs, k, v, ex, ey, hl, nk, hk, hv, q2⟩ => ?_)
  subst ex ey
  obtain rfl : u = Value.ref l := rx
  obtain rfl : iv = Value.ref b := ry
  obtain ⟨hd, hz2, hn, ys, yr, hm⟩ := nd_open I2 hl hk
  refine ⟨hm.typeIs, ?_⟩
  have q := yr_val (k := k) yr
  rw [hv] at q
  cases ea : atKey ys k with
  | none => rw [ea] at q; exact q.elim
  | some p =>
    rw [ea] at q
    exact wpAny_getItem_heap (knd := nestedKind X.prog X.w) (show X.A.in1.units + 8 < cLine by show X.A.units + 1 + 8 < cLine; omega) (nk.is I2) hm ea ⟨v, H2, I2.tok _, q, q2⟩
end
end DW
namespace DW
open PySem L2 RZ PyProof.Rows
section
variable {P : Program} {w : World} {K : PySem.W.Frag} {d : Addr} {o : Obj} {es : Array DictEntry} {ep : Nat}
/-- a locked dict with nested keys, as it stands -/
theorem nd_frz {X : Cx} {pins : List (Addr × Obj)} {σ : L2.St} {H : Hp} {s : Shared} (I : Inv X pins σ H s) {u : World} {xs : List NKV} (h : H d = some (.frz o (ND u d xs))) : (d == sysModules) = false ∧ s.heap.get? d = some o ∧ xs.length ≤ sizeLine ∧ (xs.map (·.1)).Nodup ∧
    ∃ es ep ys, o.data = .dict es ep ∧ s.heap.DictRaw d es ep ∧ Paired YR xs ys ∧ es.toList = ys.map (fun y => (⟨y.1.hash u, .ref y.2.1, y.2.2⟩ : DictEntry)) ∧ es.size = xs.length := by
  obtain ⟨h0, ⟨h1, h2, h3, ys, h4, o', es, ep, h5, h6, h7, h8⟩, _, _⟩ := I.hok d _ h
  rw [h0] at h5
  cases h5
  have hl : xs.length = ys.length := by
    have := congrArg List.length (yr_keys h4)
    rw [List.length_map, List.length_map] at this
    exact this
  exact ⟨h1, h0, h2, h3, es, ep, ys, h7, ⟨o, h0, h6, h7⟩, h4, h8, by rw [← Array.length_toList, h8, List.length_map, hl]⟩
theorem yr_get : ∀ {xs : List NKV} {ys : List (NestedKey × Addr × Value)} {i : Nat} {x : NKV}, Paired YR xs ys → xs[i]? = some x → ∃ y, ys[i]? = some y ∧ YR x y
  | _, _, _, _, .nil, h => by simp at h
  | _ :: _, _, 0, _, .cons r t, h => by simp at h; subst h; exact ⟨_, rfl, r⟩
  | _ :: _, _, i + 1, _, .cons r t, h => by
    obtain ⟨y, h1, h2⟩ := yr_get (i := i) t (by simpa using h)
    exact ⟨y, by simpa using h1, h2⟩
def ItN (u : World) (d : Addr) (o : Obj) (xs : List NKV) : It :=
  ⟨fun i H => H d = some (.frz o (ND u d xs)) ∧ i < xs.length, fun i H x H' => ∃ T e, xs[i]? = some e ∧ x = .ref T ∧ H T = none ∧ H' = upd H T (.tup [.ref e.2.1, e.2.2]), fun i H => H d = some (.frz o (ND u d xs)) ∧ xs.length ≤ i⟩
theorem turn_itN {u : World} {xs : List NKV} {elts : List Expr} {kk : Nat} {tpos : Pos} (it : Addr) (hod : o.data = .dict es ep) :
    Turn P w K (.Tuple elts kk tpos) (ItN u d o xs) [it] it (fun i h => ∃ ok ov, IsItemIter h it d i xs.length ep ok ov) where
  mem := by simp
  obj := fun i h st b hb => by
    rw [List.mem_singleton.mp hb]
    obtain ⟨ok, ov, e⟩ := st
    exact ⟨_, e, fun v z => nomatch z⟩
  keep := fun i h h' st k => let ⟨ok, ov, e⟩ := st; ⟨ok, ov, k it (by simp) _ e⟩
  item := by
    intro X hP hw hK hc i pins s σ H E I hf st hg
    subst hP hw hK
    obtain ⟨hd, hi⟩ := hg
    obtain ⟨h1, h2, h3, h4, es', ep', ys, h5, h6, h7, h8, h9⟩ := nd_frz I hd
    obtain ⟨e1, e2⟩ := dict_ep hod h5
    subst e1 e2
    obtain ⟨ok, ov, he⟩ := st
    rw [← h9] at he
    have hlt : it < s.heap.objs.size := Heap.lt_size he
    have hie : i < es'.size := by rw [h9]; exact hi
    obtain ⟨y, hy, r1, r2, r3⟩ := yr_get h7 (List.getElem?_eq_getElem hi)
    have ey : es'[i] = ⟨y.1.hash u, .ref y.2.1, y.2.2⟩ := by
      have q : es'.toList[i]? = some es'[i] := by simp [hie]
      rw [h8, List.getElem?_map, hy] at q
      exact (Option.some.inj q).symm
    refine wpAny_pyNext_items_item_raw he h6 hie fun h' ho hT hz hk => ?_
    refine ⟨_, rfl, wpAny_letOwnedTupleGo_items (s := { s with heap := h' }) ho fun h'' he' sb => ?_⟩
    have hT2 : h''.get? s.heap.objs.size = some { cls := .type "tuple", data := .seq #[.ref y.2.1, y.2.2] } := by
      rw [ey] at hT
      exact (sb.2 _ (Nat.ne_of_gt hlt)).trans hT
    have new : ObjOk X.prog X.w (upd H s.heap.objs.size (.tup [.ref xs[i].2.1, xs[i].2.2])) h'' s.heap.objs.size (.tup [.ref xs[i].2.1, xs[i].2.2]) :=
      ⟨by show 2 ≤ sizeLine; decide, [.ref y.2.1, y.2.2], .cons (by rw [r2]; rfl) (.cons r3 .nil), ⟨_, hT2, rfl, _, rfl⟩⟩
    have I1 : Inv X pins σ (upd H s.heap.objs.size (.tup [.ref xs[i].2.1, xs[i].2.2])) { s with heap := h'' } :=
      I.turnedNew (t' := s.toks) (ch := [it]) (fun b ob hb e => (sb.2 b (by simpa using hb)).trans (hk b ob (by simpa using hb) e)) hf (Nat.le_refl _) new
    refine ⟨.ref s.heap.objs.size, _, I1, rfl, ⟨_, xs[i], List.getElem?_eq_getElem hi, rfl, I.hok.fresh (Nat.le_refl _), rfl⟩, ⟨es'[i].key, es'[i].val, ?_⟩, fun b hb => ?_⟩
    · rw [← h9]; exact he'
    · rw [List.mem_singleton.mp hb, upd_ne (Nat.ne_of_lt hlt)]
      exact (hf it (by simp)).1
  done := by
    intro X hP hw hK hc i pins s σ H E I hf st hg
    subst hP hw hK
    obtain ⟨hd, hi⟩ := hg
    obtain ⟨f0, f1, f2, f3, f4, f5⟩ := hf it (by simp)
    obtain ⟨h1, h2, h3, h4, es', ep', ys, h5, h6, h7, h8, h9⟩ := nd_frz I hd
    obtain ⟨e1, e2⟩ := dict_ep hod h5
    subst e1 e2
    obtain ⟨ok, ov, he⟩ := st
    rw [← h9] at he
    exact wpAny_pyNext_items_end_raw (I.ok.hd hc) he h6 (by rw [h9]; exact hi) fun h' eb => ⟨rfl, I.turned (t' := s.toks) (fun b ob hb e => eb b ob hb e) f0 f1 f3 f4 f5⟩
  self := fun A i s Q E st h => let ⟨_, _, e⟩ := st; PySem.W.kcp_self e h
end
section
variable {X : Cx} {tg e : Expr} {td : TE} {apos cpos : Pos}
def iItN (u : World) (td : TE) : TI := fun σ H R => td σ H fun x H1 => ∃ d o xs, x = .ref d ∧ H1 d = some (.frz o (ND u d xs)) ∧ R (ItN u d o xs) H1
theorem pi_itN {u : World} {elts : List Expr} {kk : Nat} {tpos : Pos} (he : PE X e td) (hbase : attributeBase e "items" X.env (eval e X.env) = eval e X.env := by rfl) (hline : (apos.endLine == cpos.line) = true := by rfl) :
    PI X (.Tuple elts kk tpos) (.Call (.Attribute e "items" apos) [] [] cpos) (iItN u td) := by
  refine ⟨fun pins s σ H R I h => ?_⟩
  refine wpAny_Call_method (T := "dict") (id := "dict.items") hbase rfl hline F.plainAttrs_dict F.slot_dict_items F.type_dict_items (thn (he.run pins s σ H _ I h) fun u s1 ⟨x, H1, I1, rx, d, o, xs, ex, hd, q⟩ => ?_)
  subst ex
  obtain rfl : u = Value.ref d := rx
  obtain ⟨h1, h2, h3, h4, es, ep, ys, h5, h6, h7, h8, h9⟩ := nd_frz I1 hd
  obtain ⟨o', g1, g2, g3⟩ := id h6
  refine ⟨h6.typeIs, fun b q => by cases q; exact ⟨o', g1, g2.2.1⟩, ?_⟩
  have I2 : Inv X pins σ H1 { s1 with heap := s1.heap.push { cls := .type "dict_items", data := .fields #[.ref d] } } := I1.kept (t' := s1.toks) fun b ob q => Heap.get?_push_of_some _ q
  have fin : wpAny (model X.prog X.w) X.A (pyIter (.ref s1.heap.objs.size)) (PIE X pins σ (.Tuple elts kk tpos) R) X.xe { s1 with heap := s1.heap.push { cls := .type "dict_items", data := .fields #[.ref d] } } := by
    refine wpAny_pyIter_items_raw (d := d) ⟨_, Heap.get?_push_size _ rfl, rfl, rfl⟩ (h6.push _) (pi_one (tk := s1.toks) I2 _ (turn_itN _ h5) ⟨.none, .none, ?_⟩ q)
    rw [← h9]
    exact Heap.get?_push_size _ rfl
  show wpAny _ _ (callWith cpos (.builtin "dict.items") [.ref d] [] []) _ X.xe s1
  exact method_meetsIn F.slot_dict_items F.entry_dict_items rfl (PySem.evalArgs_none ⟨rfl, h6.typeIs, F.args_dict_items_1 _, _, meets_dict_items_raw d h1, ⟨es, ep, h6⟩, fin⟩)
end
end DW
namespace DW
open PySem L2 RZ PyProof.Rows
def sameK (k : D) (kv : D × D) : Bool := decide (toKey kv.1 = toKey k)
def storedD (kvs : List (D × D)) (k v : D) : List (D × D) := if kvs.any (sameK k) = true then kvs.map (fun kv => if sameK k kv = true then (kv.1, v) else kv) else kvs ++ [(k, v)]
def valD (kvs : List (D × D)) (k : D) : Option D := (kvs.find? (sameK k)).map (·.2)
section
variable {M : Addr → Prop} {H : Hp}
theorem kv_any {k : D} : ∀ {xs : List NKV} {kvs : List (D × D)}, Paired (KvOk M H) xs kvs → (xs.any fun x => decide (x.1 = toKey k)) = kvs.any (sameK k)
  | _, _, .nil => rfl
  | x :: xs, kv :: kvs, .cons r t => by
    rw [List.any_cons, List.any_cons, kv_any t]
    unfold sameK
    rw [r.1]
theorem kv_map {k v : D} {y : V} (tv : Dt M H y v) : ∀ {xs : List NKV} {kvs : List (D × D)}, Paired (KvOk M H) xs kvs → Paired (KvOk M H) (xs.map fun x => if x.1 = toKey k then (x.1, x.2.1, y) else x) (kvs.map fun kv => if sameK k kv = true then (kv.1, v) else kv)
  | _, _, .nil => .nil
  | x :: xs, kv :: kvs, .cons r t => by
    rw [List.map_cons, List.map_cons]
    refine .cons ?_ (kv_map tv t)
    by_cases h : x.1 = toKey k
    · rw [if_pos h, if_pos (show sameK k kv = true from decide_eq_true (r.1.symm.trans h))]
      exact ⟨r.1, r.2.1, r.2.2.1, r.2.2.2.1, tv⟩
    · rw [if_neg h, if_neg (show ¬ sameK k kv = true from fun z => h (r.1.trans (of_decide_eq_true z)))]
      exact r
theorem kv_app : ∀ {xs : List NKV} {kvs : List (D × D)} {p : NKV} {q : D × D}, Paired (KvOk M H) xs kvs → KvOk M H p q → Paired (KvOk M H) (xs ++ [p]) (kvs ++ [q])
  | _, _, _, _, .nil, r => .cons r .nil
  | _, _, _, _, .cons r t, q => .cons r (kv_app t q)
theorem kv_stored {k v : D} {b : Addr} {y : V} (hk : keyable k = true) (hd : (toKey k).depth ≤ 8) (tk : Dt M H (.ref b) k) (tv : Dt M H y v) {xs : List NKV} {kvs : List (D × D)} (h : Paired (KvOk M H) xs kvs) : Paired (KvOk M H) (storedN xs (toKey k) b y) (storedD kvs k v) := by
  unfold storedN storedD
  rw [kv_any h]
  split
  · exact kv_map tv h
  · exact kv_app h ⟨rfl, hk, hd, tk, tv⟩
theorem kv_val {k : D} : ∀ {xs : List NKV} {kvs : List (D × D)}, Paired (KvOk M H) xs kvs → (valN xs (toKey k) = none ∧ valD kvs k = none) ∨ ∃ v d, valN xs (toKey k) = some v ∧ valD kvs k = some d ∧ Dt M H v d
  | _, _, .nil => .inl ⟨rfl, rfl⟩
  | x :: xs, kv :: kvs, .cons r t => by
    have ih := kv_val (k := k) t
    unfold valN valD at ih ⊢
    by_cases h : x.1 = toKey k
    · have h' : sameK k kv = true := decide_eq_true (r.1.symm.trans h)
      refine .inr ⟨x.2.2, kv.2, ?_, ?_, r.2.2.2.2⟩
      · simp only [List.find?_cons, h, decide_true, Option.map_some]
      · simp only [List.find?_cons, h', Option.map_some]
    · have h' : sameK k kv = false := decide_eq_false fun z => h (r.1.trans z)
      simp only [List.find?_cons, h, h', decide_false]
      exact ih
theorem kv_len : ∀ {xs : List NKV} {kvs : List (D × D)}, Paired (KvOk M H) xs kvs → xs.length = kvs.length
  | _, _, .nil => rfl
  | _, _, .cons _ t => by rw [List.length_cons, List.length_cons, kv_len t]
theorem kv_nkey : ∀ {xs : List NKV} {kvs : List (D × D)}, Paired (KvOk M H) xs kvs → ∀ x ∈ xs, NKey H x.2.1 x.1
  | _, _, .nil, _, h => by cases h
  | y :: ys, kv :: kvs, .cons r t, x, h => by
    rcases List.mem_cons.mp h with e | h
    · rw [e]
      exact ⟨M, kv.1, r.2.2.2.1, r.2.1, r.1.symm, by rw [r.1]; exact r.2.2.1⟩
    · exact kv_nkey t x h
theorem key_ref {v : V} {ds : List D} (h : Dt M H v (.tuple ds)) : ∃ b, v = .ref b := by
  obtain ⟨a, _, rfl, _⟩ := h.tup_inv
  exact ⟨a, rfl⟩
end
section
variable {F : Fc} {X : Cx} {e a b c : Expr} {es : List Sl} {Φ : D → Prop} {K : Ek} {pos p pos' pn apos cpos : Pos} {s : Stmt} {ss : List Stmt} {H H' : Hp} {σ : L2.St}
/-! own objects: a new one in a slot, a changed one -/
theorem own_in_set {i : Nat} {e : Sl} {v : V} {l : Addr} (hi : i < es.length) (hs : i < σ.length) (h : Own (σ.set i (some v)) (es.set i e) l) : (isOwn e = true ∧ v = .ref l) ∨ Own σ es l := by
  obtain ⟨j, e', h1, h2, h3⟩ := h
  by_cases hij : i = j
  · subst hij
    rw [List.getElem?_set_self hi] at h1
    rw [List.getElem?_set_self hs] at h3
    cases h1
    cases h3
    exact .inl ⟨h2, rfl⟩
  · rw [List.getElem?_set_ne hij] at h1 h3
    exact .inr ⟨j, e', h1, h2, h3⟩
/-- a new object goes into a slot as one's own -/
theorem Sg.bear (s : Sg F H σ es) {i : Nat} {q : Addr} {o : HO} {x : Sl} (hi : i < es.length) (hx : isOwn x = true) (hn : H q = none)
    (hok : ∀ (M : Addr → Prop), (∀ b u, H b = some u → ¬ Mx F σ es b → ¬ M b) → OwnOk F.w M (upd H q o) q x) : Sg F (upd H q o) (σ.set i (some (.ref q))) (es.set i x) ∧ Tr F H σ es (upd H q o) (σ.set i (some (.ref q))) (es.set i x) := by
  have hs : i < σ.length := by rw [← s.len]; exact hi
  have hM : ∀ b, Mx F (σ.set i (some (.ref q))) (es.set i x) b → b = q ∨ Mx F σ es b := fun b z => by
    rcases z with z | z
    · exact .inr (.inl z)
    · rcases own_in_set hi hs z with ⟨_, e⟩ | z
      · cases e; exact .inl rfl
      · exact .inr (.inr z)
  have mv : ∀ b u, H b = some u → ¬ Mx F σ es b → upd H q o b = some u ∧ ¬ Mx F (σ.set i (some (.ref q))) (es.set i x) b := fun b u e n => by
    have hb : b ≠ q := ne_of_none e hn
    exact ⟨by rw [upd_ne hb]; exact e, fun z => (hM b z).elim hb n⟩
  refine ⟨⟨by rw [List.length_set, List.length_set, s.len], (s.new hn).ext, (s.new hn).ok, fun j y e => ?_, fun j y e z => ?_, fun j k e e' l h1 h2 z1 z2 h3 h4 => ?_, fun j e => ?_, fun j kvs e => ?_⟩, mv⟩
  · by_cases hij : i = j
    · subst hij
      rw [List.getElem?_set_self hi] at e
      cases e
      cases hx
    · rw [List.getElem?_set_ne hij] at e
      obtain ⟨v, r1, r2⟩ := s.dat j y e
      exact ⟨v, by rw [List.getElem?_set_ne hij]; exact r1, r2.move mv⟩
  · by_cases hij : i = j
    · subst hij
      rw [List.getElem?_set_self hi] at e
      cases e
      refine ⟨q, List.getElem?_set_self hs, ⟨s.fresh0 hn, fun z => s.fresh hn (.inl z)⟩, ⟨o, upd_same⟩, hok _ fun b u e n => (mv b u e n).2⟩
    · rw [List.getElem?_set_ne hij] at e
      obtain ⟨l, r1, r2, ⟨u, r3⟩, r4⟩ := s.own j y e z
      have hl : l ≠ q := ne_of_none r3 hn
      exact ⟨l, by rw [List.getElem?_set_ne hij]; exact r1, r2, ⟨u, by rw [upd_ne hl]; exact r3⟩, r4.move mv fun u e => by rw [upd_ne hl]; exact e⟩
  · have old : ∀ {m : Nat} {y : Sl}, (es.set i x)[m]? = some y → isOwn y = true → (σ.set i (some (.ref q)))[m]? = some (some (.ref l)) → i ≠ m → es[m]? = some y ∧ σ[m]? = some (some (.ref l)) ∧ l ≠ q := fun {m y} a b c n => by
      rw [List.getElem?_set_ne n] at a c
      obtain ⟨l', r1, _, ⟨u, r3⟩, _⟩ := s.own m y a b
      rw [c] at r1
      cases r1
      exact ⟨a, c, ne_of_none r3 hn⟩
    by_cases n1 : i = j
    · by_cases n2 : i = k
      · rw [← n1, ← n2]
      · subst n1
        rw [List.getElem?_set_self hs] at h3
        cases h3
        exact absurd rfl (old h2 z2 h4 n2).2.2
    · by_cases n2 : i = k
      · subst n2
        rw [List.getElem?_set_self hs] at h4
        cases h4
        exact absurd rfl (old h1 z1 h3 n1).2.2
      · obtain ⟨a1, a2, _⟩ := old h1 z1 h3 n1
        obtain ⟨b1, b2, _⟩ := old h2 z2 h4 n2
        exact s.inj j k e e' l a1 b1 z1 z2 a2 b2
  · by_cases hij : i = j
    · subst hij
      rw [List.getElem?_set_self hi] at e
      cases e
      cases hx
    · rw [List.getElem?_set_ne hij] at e ⊢
      exact s.dk j e
  · by_cases hij : i = j
    · subst hij
      rw [List.getElem?_set_self hi] at e
      cases e
      cases hx
    · rw [List.getElem?_set_ne hij] at e ⊢
      obtain ⟨l, od, xs, q1, q2, q4, q3⟩ := s.fd j kvs e
      exact ⟨l, od, xs, q1, (mv l _ q2 q4).1, (mv l _ q2 q4).2, KvOk.move mv q3⟩
/-- a new list that was made on the way -/
theorem Sg.bear2 (s0 : Sg F H σ es) (s : Sg F H' σ es) (ex : ExM F.M0 H H') (nf : ∀ (j : Nat) kvs, es[j]? ≠ some (.fd kvs)) {i : Nat} {q : Addr} {xs : List V} {ds : List D} (hi : i < es.length) (hn : H q = none) (hq : H' q = some (.lst xs)) (t : DtA (fun b => Mx F σ es b ∨ b = q) H' xs ds) :
    Sg F H' (σ.set i (some (.ref q))) (es.set i (.own ds)) ∧ Tr F H σ es H' (σ.set i (some (.ref q))) (es.set i (.own ds)) := by
  have hs : i < σ.length := by rw [← s.len]; exact hi
  have hM : ∀ b, Mx F (σ.set i (some (.ref q))) (es.set i (.own ds)) b → Mx F σ es b ∨ b = q := fun b z => by
    rcases z with z | z
    · exact .inl (.inl z)
    · rcases own_in_set hi hs z with ⟨_, e⟩ | z
      · cases e; exact .inr rfl
      · exact .inl (.inr z)
  have mv : ∀ b u, H b = some u → ¬ Mx F σ es b → H' b = some u ∧ ¬ Mx F (σ.set i (some (.ref q))) (es.set i (.own ds)) b := fun b u e n =>
    ⟨ex.mx b u e n, fun z => (hM b z).elim n (ne_of_none e hn)⟩
  refine ⟨⟨by rw [List.length_set, List.length_set, s.len], s.ext, s.ok, fun j y e => ?_, fun j y e z => ?_, fun j k e e' l h1 h2 z1 z2 h3 h4 => ?_, fun j e => ?_, fun j kvs e => ?_⟩, mv⟩
  · by_cases hij : i = j
    · subst hij
      rw [List.getElem?_set_self hi] at e
      cases e
    · rw [List.getElem?_set_ne hij] at e
      obtain ⟨v, r1, r2⟩ := s0.dat j y e
      exact ⟨v, by rw [List.getElem?_set_ne hij]; exact r1, r2.move mv⟩
  · by_cases hij : i = j
    · subst hij
      rw [List.getElem?_set_self hi] at e
      cases e
      exact ⟨q, List.getElem?_set_self hs, ⟨s0.fresh0 hn, fun z => s0.fresh hn (.inl z)⟩, ⟨_, hq⟩, xs, hq, t.weak hM⟩
    · rw [List.getElem?_set_ne hij] at e
      obtain ⟨l, r1, r2, ⟨u, r3⟩, r4⟩ := s0.own j y e z
      have hl : ¬ F.M0 l := r2.2
      exact ⟨l, by rw [List.getElem?_set_ne hij]; exact r1, r2, ⟨u, ex l u r3 hl⟩, r4.move mv fun o e => ex l o e hl⟩
  · have old : ∀ {m : Nat} {y : Sl}, (es.set i (.own ds))[m]? = some y → isOwn y = true → (σ.set i (some (.ref q)))[m]? = some (some (.ref l)) → i ≠ m → es[m]? = some y ∧ σ[m]? = some (some (.ref l)) ∧ l ≠ q := fun {m y} a b c n => by
      rw [List.getElem?_set_ne n] at a c
      obtain ⟨l', r1, _, ⟨u, r3⟩, _⟩ := s0.own m y a b
      rw [c] at r1
      cases r1
      exact ⟨a, c, ne_of_none r3 hn⟩
    by_cases n1 : i = j
    · by_cases n2 : i = k
      · rw [← n1, ← n2]
      · subst n1
        rw [List.getElem?_set_self hs] at h3
        cases h3
        exact absurd rfl (old h2 z2 h4 n2).2.2
    · by_cases n2 : i = k
      · subst n2
        rw [List.getElem?_set_self hs] at h4
        cases h4
        exact absurd rfl (old h1 z1 h3 n1).2.2
      · obtain ⟨a1, a2, _⟩ := old h1 z1 h3 n1
        obtain ⟨b1, b2, _⟩ := old h2 z2 h4 n2
        exact s0.inj j k e e' l a1 b1 z1 z2 a2 b2
  · by_cases hij : i = j
    · subst hij
      rw [List.getElem?_set_self hi] at e
      cases e
    · rw [List.getElem?_set_ne hij] at e ⊢
      exact s0.dk j e
  · by_cases hij : i = j
    · subst hij
      rw [List.getElem?_set_self hi] at e
      cases e
    · rw [List.getElem?_set_ne hij] at e
      exact absurd e (nf j kvs)
/-- one's own object is changed -/
theorem Sg.turn (s : Sg F H σ es) {i : Nat} {x y : Sl} {l : Addr} {o : HO} (he : es[i]? = some x) (hx : isOwn x = true) (hy : isOwn y = true) (hs : σ[i]? = some (some (.ref l))) (hf : ∀ od u, H l ≠ some (.frz od u))
    (hok : ∀ (M : Addr → Prop), (∀ b, M b ↔ Mx F σ es b) → OwnOk F.w M (upd H l o) l y) : Sg F (upd H l o) σ (es.set i y) ∧ Tr F H σ es (upd H l o) σ (es.set i y) := by
  have hi : i < es.length := (List.getElem?_eq_some_iff.mp he).1
  obtain ⟨l', r1, r2, ⟨u, r3⟩, r4⟩ := s.own i x he hx
  rw [hs] at r1
  cases r1
  have hOw : ∀ b, Own σ (es.set i y) b ↔ Own σ es b := fun b => by
    constructor
    · rintro ⟨j, e, h1, h2, h3⟩
      by_cases hij : i = j
      · subst hij; exact ⟨i, x, he, hx, h3⟩
      · rw [List.getElem?_set_ne hij] at h1; exact ⟨j, e, h1, h2, h3⟩
    · rintro ⟨j, e, h1, h2, h3⟩
      by_cases hij : i = j
      · subst hij; exact ⟨i, y, List.getElem?_set_self hi, hy, h3⟩
      · exact ⟨j, e, by rw [List.getElem?_set_ne hij]; exact h1, h2, h3⟩
  have hM : ∀ b, Mx F σ (es.set i y) b ↔ Mx F σ es b := fun b => or_congr Iff.rfl (hOw b)
  have hl : Mx F σ es l := .inr ⟨i, x, he, hx, hs⟩
  have mv : ∀ b u, H b = some u → ¬ Mx F σ es b → upd H l o b = some u ∧ ¬ Mx F σ (es.set i y) b := fun b u e n => ⟨by rw [upd_ne fun z => n (by rw [z]; exact hl)]; exact e, fun z => n ((hM b).mp z)⟩
  refine ⟨⟨by rw [List.length_set, s.len], fun b u e n => ?_, F.okx H _ s.ok fun b u hb e => ?_, fun j z e => ?_, fun j z e oz => ?_, fun j k e e' l h1 h2 z1 z2 h3 h4 => ?_, fun j e => ?_, fun j kvs e => ?_⟩, mv⟩
  · have hb : b ≠ l := fun z => by rw [z, r2.1] at e; cases e
    rw [upd_ne hb]
    exact s.ext b u e n
  · rw [upd_ne fun z => r2.2 (by rw [← z]; exact hb)]
    exact e
  · by_cases hij : i = j
    · subst hij
      rw [List.getElem?_set_self hi] at e
      cases e
      cases hy
    · rw [List.getElem?_set_ne hij] at e
      obtain ⟨v, q1, q2⟩ := s.dat j z e
      exact ⟨v, q1, q2.move mv⟩
  · by_cases hij : i = j
    · subst hij
      rw [List.getElem?_set_self hi] at e
      cases e
      exact ⟨l, hs, r2, ⟨o, upd_same⟩, hok _ hM⟩
    · rw [List.getElem?_set_ne hij] at e
      obtain ⟨l2, q1, q2, ⟨u2, q3⟩, q4⟩ := s.own j z e oz
      have hne : l2 ≠ l := fun w => hij (s.inj i j x z l he e hx oz hs (by rw [← w]; exact q1))
      exact ⟨l2, q1, q2, ⟨u2, by rw [upd_ne hne]; exact q3⟩, q4.move mv fun u e => by rw [upd_ne hne]; exact e⟩
  · have at_ : ∀ {m : Nat} {z : Sl}, (es.set i y)[m]? = some z → isOwn z = true → ∃ z', es[m]? = some z' ∧ isOwn z' = true := fun {m z} a b => by
      by_cases hij : i = m
      · subst hij; exact ⟨x, he, hx⟩
      · rw [List.getElem?_set_ne hij] at a; exact ⟨z, a, b⟩
    obtain ⟨a1, a2, a3⟩ := at_ h1 z1
    obtain ⟨b1, b2, b3⟩ := at_ h2 z2
    exact s.inj j k a1 b1 l a2 b2 a3 b3 h3 h4
  · by_cases hij : i = j
    · subst hij
      rw [List.getElem?_set_self hi] at e
      cases e
      cases hy
    · rw [List.getElem?_set_ne hij] at e
      exact s.dk j e
  · by_cases hij : i = j
    · subst hij
      rw [List.getElem?_set_self hi] at e
      cases e
      cases hy
    · rw [List.getElem?_set_ne hij] at e
      obtain ⟨l2, od, xs, q1, q2, q4, q3⟩ := s.fd j kvs e
      exact ⟨l2, od, xs, q1, (mv l2 _ q2 q4).1, (mv l2 _ q2 q4).2, KvOk.move mv q3⟩
end
end DW
namespace DW
open PySem L2 RZ PyProof.Rows
section
variable {F : Fc} {X : Cx} {e a b c : Expr} {es : List Sl} {Φ : D → Prop} {K : Ek} {pos p pos' pn apos cpos : Pos} {s : Stmt} {ss : List Stmt} {H H' : Hp} {σ : L2.St}
theorem w_l (h : WL F X e es fun ds => Φ (.list ds)) : W F X e es Φ := fun σ H s Q k => (WL.w h) σ H s Q fun v d H' s' x t ⟨ds, e, q⟩ => by
  subst e
  exact k v _ H' s' x t q
/-- an owned new object is taken into a slot -/
theorem Sg.adopt {q : Addr} {o : HO} {hp : ¬ F.M0 q} (s : Sg (F.plus q o hp) H σ es) (h0 : F.H0 q = none) {i : Nat} {x : Sl} (hi : i < es.length) (hx : isOwn x = true) (hok : OwnOk F.w (Mx (F.plus q o hp) σ es) H q x) :
    Sg F H (σ.set i (some (.ref q))) (es.set i x) ∧ ∀ b, ¬ Mx (F.plus q o hp) σ es b → ¬ Mx F (σ.set i (some (.ref q))) (es.set i x) b := by
  have hs : i < σ.length := by rw [← s.len]; exact hi
  have hM : ∀ b, Mx F (σ.set i (some (.ref q))) (es.set i x) b → Mx (F.plus q o hp) σ es b := fun b z => by
    rcases z with z | z
    · exact .inl (.inl z)
    · rcases own_in_set hi hs z with ⟨_, e⟩ | z
      · cases e; exact .inl (.inr rfl)
      · exact .inr z
  refine ⟨⟨by rw [List.length_set, List.length_set, s.len], fun b u e n => s.ext b u e fun z => z.elim n fun z => ?_, s.ok.1, fun j y e => ?_, fun j y e z => ?_, fun j k e e' l h1 h2 z1 z2 h3 h4 => ?_, fun j e => ?_, fun j kvs e => ?_⟩, fun b n z => n (hM b z)⟩
  · rw [z, h0] at e
    cases e
  · by_cases hij : i = j
    · subst hij
      rw [List.getElem?_set_self hi] at e
      cases e
      cases hx
    · rw [List.getElem?_set_ne hij] at e
      obtain ⟨v, r1, r2⟩ := s.dat j y e
      exact ⟨v, by rw [List.getElem?_set_ne hij]; exact r1, r2.weak hM⟩
  · by_cases hij : i = j
    · subst hij
      rw [List.getElem?_set_self hi] at e
      cases e
      exact ⟨q, List.getElem?_set_self hs, ⟨h0, hp⟩, ⟨o, s.ok.2⟩, hok.weak hM⟩
    · rw [List.getElem?_set_ne hij] at e
      obtain ⟨l, r1, r2, r3, r4⟩ := s.own j y e z
      exact ⟨l, by rw [List.getElem?_set_ne hij]; exact r1, ⟨r2.1, fun z => r2.2 (.inl z)⟩, r3, r4.weak hM⟩
  · have old : ∀ {m : Nat} {y : Sl}, (es.set i x)[m]? = some y → isOwn y = true → (σ.set i (some (.ref q)))[m]? = some (some (.ref l)) → i ≠ m → es[m]? = some y ∧ σ[m]? = some (some (.ref l)) ∧ l ≠ q := fun {m y} a b c n => by
      rw [List.getElem?_set_ne n] at a c
      obtain ⟨l', r1, r2, _, _⟩ := s.own m y a b
      rw [c] at r1
      cases r1
      exact ⟨a, c, fun z => r2.2 (.inr z)⟩
    by_cases n1 : i = j
    · by_cases n2 : i = k
      · rw [← n1, ← n2]
      · subst n1
        rw [List.getElem?_set_self hs] at h3
        cases h3
        exact absurd rfl (old h2 z2 h4 n2).2.2
    · by_cases n2 : i = k
      · subst n2
        rw [List.getElem?_set_self hs] at h4
        cases h4
        exact absurd rfl (old h1 z1 h3 n1).2.2
      · obtain ⟨a1, a2, _⟩ := old h1 z1 h3 n1
        obtain ⟨b1, b2, _⟩ := old h2 z2 h4 n2
        exact s.inj j k e e' l a1 b1 z1 z2 a2 b2
  · by_cases hij : i = j
    · subst hij
      rw [List.getElem?_set_self hi] at e
      cases e
      cases hx
    · rw [List.getElem?_set_ne hij] at e ⊢
      exact s.dk j e
  · by_cases hij : i = j
    · subst hij
      rw [List.getElem?_set_self hi] at e
      cases e
      cases hx
    · rw [List.getElem?_set_ne hij] at e ⊢
      obtain ⟨l, od, xs, q1, q2, q4, q3⟩ := s.fd j kvs e
      exact ⟨l, od, xs, q1, q2, fun z => q4 (hM l z), KvOk.move (fun b o q n => ⟨q, fun z => n (hM b z)⟩) q3⟩
/-- transport into the owned -/
theorem Sg.into (s : Sg F H σ es) {q : Addr} {o : HO} (h : H q = none) : ∀ b u, H b = some u → ¬ Mx F σ es b → upd H q o b = some u ∧ ¬ Mx (F.plus q o fun z => s.fresh h (.inl z)) σ es b := fun b u e n => by
    have hb : b ≠ q := ne_of_none e h
    refine ⟨by rw [upd_ne hb]; exact e, fun z => ?_⟩
    rcases z with (z | z) | z
    · exact n (.inl z)
    · exact hb z
    · exact n (.inr z)
/-! x = {} -/
theorem ws_newD {i : Nat} {x : Str} (hw : F.w = X.w) (hN : X.N.Nodup) (hi : X.N[i]? = some x) (hx : Loc X.env.scope x) (hl : i < es.length) (q : K.nx (es.set i (.od [])))
    (hs : swapsWith (.Dict [] [] p) (some (.Name x pos')) pos.line X.env = pure false := by rfl) (hf : X.fn x = true ∨ X.env.scope.names.lookup x = some .local := by first | exact .inl rfl | exact .inr rfl | assumption) :
    WS F X (.Assign [.Name x pos'] (.Dict [] [] p) pos) es K := fun σ H D s g => by
  refine ⟨_, ps_set hN hi hx pe_newND hs hf, fun l hl' => ?_⟩
  obtain ⟨s1, t1⟩ := (s.plus (ND X.w l []) hl').adopt (s.fresh0 hl') (x := .od []) hl rfl ⟨[], by rw [hw]; exact upd_same, .nil⟩
  exact g.nx _ _ _ s1 (fun b u e n => ⟨(s.into hl' b u e n).1, t1 b (s.into hl' b u e n).2⟩) q
/-! x = a new list -/
theorem ws_own {i : Nat} {x : Str} (nf : ∀ (j : Nat) kvs, es[j]? ≠ some (.fd kvs)) (hN : X.N.Nodup) (hi : X.N[i]? = some x) (hx : Loc X.env.scope x) (hl : i < es.length) (h : WL F X e es fun ds => K.nx (es.set i (.own ds)))
    (hs : swapsWith e (some (.Name x pos')) pos.line X.env = pure false := by rfl) (hf : X.fn x = true ∨ X.env.scope.names.lookup x = some .local := by first | exact .inl rfl | exact .inr rfl | assumption) :
    WS F X (.Assign [.Name x pos'] e pos) es K := fun σ H D s g => by
  refine ⟨_, ps_set hN hi hx can_e hs hf, ?_⟩
  refine h σ H s _ fun q xs ds H' s' ex hn hq t po => ?_
  obtain ⟨s1, t1⟩ := s.bear2 s' ex nf hl hn hq t
  exact g.nx _ _ _ s1 t1 po
/-- a comprehension on one line with its name -/
theorem ws_ownLc {i : Nat} {y : Str} {py spos : Pos} {elt tg iter : Expr} {ifs : List Expr} {scope : Scope} (own : List (Str × Nat)) {L : List Nat} (nf : ∀ (j : Nat) kvs, es[j]? ≠ some (.fd kvs)) (hc : X.calm = true) (hN : X.N.Nodup) (hy : X.N[i]? = some y) (hyl : X.env.scope.names.lookup y = some .local) (hl : i < es.length)
    (hsw : swapsWith (.ListComp elt [⟨tg, iter, ifs, 0⟩] scope pos) (some (.Name y py)) spos.line X.env = pure true) (ok : BlkOk X.N X.env.scope scope own) (hL : ∀ j ∈ L, j ∈ own.map (·.2))
    (hz : noOwn es (own.map (·.2)) = true) (h : LcW F X elt tg iter ifs scope (own.map (·.2)) L es fun ds => K.nx (es.set i (.own ds))) (hs : ∀ x, foldedSetIterable iter X.env x = pure x := by intro _; rfl) :
    WS F X (.Assign [.Name y py] (.ListComp elt [⟨tg, iter, ifs, 0⟩] scope pos) spos) es K := fun σ H D s g => by
  refine ⟨_, ps_setLc hc hN hy hyl hsw can_i ok g_all tt_all te_all hs, ?_⟩
  refine lc_rd hL hz h s _ fun q xs ds H' s' ex hn hq t po => ?_
  obtain ⟨s1, t1⟩ := s.bear2 s' ex nf hl hn hq t
  exact g.nx _ _ _ s1 t1 po
theorem ws_setLc {i : Nat} {y : Str} {py spos : Pos} {elt tg iter : Expr} {ifs : List Expr} {scope : Scope} (own : List (Str × Nat)) {L : List Nat} (hc : X.calm = true) (hN : X.N.Nodup) (hy : X.N[i]? = some y) (hyl : X.env.scope.names.lookup y = some .local) (hl : i < es.length)
    (hsw : swapsWith (.ListComp elt [⟨tg, iter, ifs, 0⟩] scope pos) (some (.Name y py)) spos.line X.env = pure true) (ok : BlkOk X.N X.env.scope scope own) (hL : ∀ j ∈ L, j ∈ own.map (·.2))
    (hz : noOwn es (own.map (·.2)) = true) (h : LcW F X elt tg iter ifs scope (own.map (·.2)) L es fun ds => K.nx (es.set i (.d (.list ds)))) (hs : ∀ x, foldedSetIterable iter X.env x = pure x := by intro _; rfl) :
    WS F X (.Assign [.Name y py] (.ListComp elt [⟨tg, iter, ifs, 0⟩] scope pos) spos) es K := fun σ H D s g => by
  refine ⟨_, ps_setLc hc hN hy hyl hsw can_i ok g_all tt_all te_all hs, ?_⟩
  refine lc_rd hL hz h s _ fun q xs ds H' s' ex hn hq t po => ?_
  have td : Dt (Mx F σ es) H' (.ref q) (.list ds) := .lst hq (fun z => by
    obtain ⟨o, e⟩ := s.kn q z
    rw [hn] at e
    cases e) (t.weak fun b z => .inl z)
  exact g.nx _ H' _ (s'.set hl td) ((Tr.of ex.mx).trans Tr.set) po
/-- from now on it is read alone -/
theorem wb_freeze {i : Nat} {ds : List D} (he : es[i]? = some (.own ds)) (h : WB F X ss (es.set i (.d (.list ds))) K) : WB F X ss es K := fun σ H D s g => by
  have hi : i < es.length := (List.getElem?_eq_some_iff.mp he).1
  obtain ⟨l, q1, q0, _, xs, q2, q3⟩ := s.own i _ he rfl
  have ow : ∀ b, Own σ (es.set i (.d (.list ds))) b → Own σ es b ∧ b ≠ l := fun b ⟨j, e, h1, h2, h3⟩ => by
    by_cases hij : i = j
    · subst hij
      rw [List.getElem?_set_self hi] at h1
      cases h1
      cases h2
    · rw [List.getElem?_set_ne hij] at h1
      refine ⟨⟨j, e, h1, h2, h3⟩, fun z => hij ?_⟩
      subst z
      exact s.inj i j _ e b he h1 rfl h2 q1 h3
  have hM : ∀ b, Mx F σ (es.set i (.d (.list ds))) b → Mx F σ es b := fun b z => z.elim .inl fun z => .inr (ow b z).1
  have hl : ¬ Mx F σ (es.set i (.d (.list ds))) l := fun z => z.elim q0.2 fun z => (ow l z).2 rfl
  have s' : Sg F H σ (es.set i (.d (.list ds))) := by
    refine ⟨by rw [List.length_set, s.len], s.ext, s.ok, fun j y e => ?_, fun j y e z => ?_, fun j k e e' l h1 h2 z1 z2 h3 h4 => ?_, fun j e => ?_, fun j kvs e => ?_⟩
    · by_cases hij : i = j
      · subst hij
        rw [List.getElem?_set_self hi] at e
        cases e
        exact ⟨_, q1, .lst q2 hl (q3.weak hM)⟩
      · rw [List.getElem?_set_ne hij] at e
        obtain ⟨v, r1, r2⟩ := s.dat j y e
        exact ⟨v, r1, r2.weak hM⟩
    · by_cases hij : i = j
      · subst hij
        rw [List.getElem?_set_self hi] at e
        cases e
        cases z
      · rw [List.getElem?_set_ne hij] at e
        obtain ⟨l, r1, r2, r3, r4⟩ := s.own j y e z
        exact ⟨l, r1, r2, r3, r4.weak hM⟩
    · have ne : ∀ {m : Nat} {y : Sl}, (es.set i (.d (.list ds)))[m]? = some y → isOwn y = true → es[m]? = some y := fun {m y} a b => by
        by_cases hij : i = m
        · subst hij
          rw [List.getElem?_set_self hi] at a
          cases a
          cases b
        · rw [List.getElem?_set_ne hij] at a
          exact a
      exact s.inj j k e e' l (ne h1 z1) (ne h2 z2) z1 z2 h3 h4
    · by_cases hij : i = j
      · subst hij
        rw [List.getElem?_set_self hi] at e
        cases e
      · rw [List.getElem?_set_ne hij] at e
        exact s.dk j e
    · by_cases hij : i = j
      · subst hij
        rw [List.getElem?_set_self hi] at e
        cases e
      · rw [List.getElem?_set_ne hij] at e
        obtain ⟨l, od, xs, r1, r2, r4, r3⟩ := s.fd j kvs e
        exact ⟨l, od, xs, r1, r2, fun z => r4 (hM l z), KvOk.move (fun b o q n => ⟨q, fun z => n (hM b z)⟩) r3⟩
  exact h σ H D s' (g.from fun b o e n => ⟨e, fun z => n (hM b z)⟩)
/-! x.append(e) -/
theorem ws_append {i : Nat} {x : Str} {ds : List D} (he : es[i]? = some (.own ds)) (hN : X.N[i]? = some x := by rfl) (hv : Vis X.env.scope x := by first | exact Or.inl rfl | exact Or.inr (Or.inl rfl) | exact Or.inr (Or.inr rfl))
    (hl : ds.length < sizeLine) (h : W F X e es fun d => K.nx (es.set i (.own (ds ++ [d]))))
    (hm : ∀ {ta tb : TE}, PE X (.Name x pn) ta → PE X e tb → PE X (.Call (.Attribute (.Name x pn) "append" apos) [e] [] cpos) (tBM X.K "list" rAppend ta (tCons tb tNil)))
    (hs : swapsWith (.Call (.Attribute (.Name x pn) "append" apos) [e] [] cpos) none pos.line X.env = pure false := by rfl) (hd : (x == ("__debug__" : Str)) = false := by decide) (hcd : (x == ("__classdict__" : Str)) = false := by decide) :
    WS F X (.Expr (.Call (.Attribute (.Name x pn) "append" apos) [e] [] cpos) pos) es K := fun σ H D s g => by
  refine ⟨_, ps_expr (hm (pv i hN hv hd hcd) can_e) hs, ?_⟩
  obtain ⟨l, q1, q0, _, xs, q2, q3⟩ := s.own i _ he rfl
  refine ⟨.ref l, q1, .inl ⟨rfl, xs, SqL.of q2⟩, ?_⟩
  refine h σ H s _ fun v d H' s' ex t po => ?_
  obtain ⟨l', r1, _, _, ys, r2, r3⟩ := s'.own i _ he rfl
  rw [q1] at r1
  cases r1
  refine ⟨l, ys, v, rfl, rfl, r2, by rw [r3.length]; exact hl, ?_⟩
  obtain ⟨s2, t2⟩ := s'.turn (y := .own (ds ++ [d])) (o := .lst (ys ++ [v])) he rfl rfl q1 (fun od u z => by rw [r2] at z; cases z) fun M hM => by
    refine ⟨ys ++ [v], upd_same, ?_⟩
    have mv : ∀ b u, H' b = some u → ¬ Mx F σ es b → upd H' l (.lst (ys ++ [v])) b = some u ∧ ¬ M b := fun b u e n => ⟨by rw [upd_ne fun z => n (by rw [z]; exact .inr ⟨i, _, he, rfl, q1⟩)]; exact e, fun z => n ((hM b).mp z)⟩
    exact (DtA.move mv _ _ r3).append (.cons (t.move mv) .nil)
  exact g.nx _ _ _ s2 ((Tr.of ex.mx).trans t2) po
end
end DW
namespace DW
open PySem L2 RZ PyProof.Rows
section
variable {F : Fc} {X : Cx} {e a b c : Expr} {es : List Sl} {Φ : D → Prop} {K : Ek} {pos p pos' pn apos cpos : Pos} {s : Stmt} {ss : List Stmt} {H H' : Hp} {σ : L2.St}
/-- data that may be a key here: a tuple, without lists -/
def asKey (d : D) : Bool := keyable d && decide ((toKey d).depth ≤ 8) && match d with
  | .tuple _ => true
  | _ => false
theorem asKey_of {d : D} (h : asKey d = true) : keyable d = true ∧ (toKey d).depth ≤ 8 ∧ ∃ ds, d = .tuple ds := by
  unfold asKey at h
  rw [Bool.and_eq_true, Bool.and_eq_true] at h
  refine ⟨h.1.1, of_decide_eq_true h.1.2, ?_⟩
  cases d <;> first | exact ⟨_, rfl⟩ | cases h.2
/-! numbers[k] = v -/
theorem ws_putD {i : Nat} {x : Str} {kvs : List (D × D)} {k value : Expr} (hw : F.w = X.w) (hu : X.A.units + 9 < cLine) (he : es[i]? = some (.od kvs)) (hN : X.N[i]? = some x := by rfl) (hv : Vis X.env.scope x := by first | exact Or.inl rfl | exact Or.inr (Or.inl rfl) | exact Or.inr (Or.inr rfl))
    (hl : kvs.length < sizeLine) (h : W F X value es fun v => W F X k es fun kd => asKey kd = true ∧ K.nx (es.set i (.od (storedD kvs kd v))))
    (hs : swapsWith value (some (.Subscript (.Name x pn) k pos')) pos.line X.env = pure false := by rfl) (hd : (x == ("__debug__" : Str)) = false := by decide) (hcd : (x == ("__classdict__" : Str)) = false := by decide) :
    WS F X (.Assign [.Subscript (.Name x pn) k pos'] value pos) es K := fun σ H D s g => by
  refine ⟨_, ps_ndput hu (pv i hN hv hd hcd) can_e can_e hs, ?_⟩
  refine h σ H s _ fun v vd H1 s1 x1 t1 hk => ?_
  obtain ⟨l, q1, q0, _, xs0, q2, q3⟩ := s1.own i _ he rfl
  refine ⟨.ref l, q1, ?_⟩
  refine hk σ H1 s1 _ fun y kd H2 s2 x2 t2 ⟨ak, po⟩ => ?_
  obtain ⟨ky, kdp, ds, rfl⟩ := asKey_of ak
  obtain ⟨b, rfl⟩ := key_ref t2
  obtain ⟨l', r1, _, _, xs, r2, r3⟩ := s2.own i _ he rfl
  rw [q1] at r1
  cases r1
  rw [hw] at r2
  have tv := t1.mono x2.mx
  refine ⟨l, b, xs, toKey (.tuple ds), rfl, rfl, r2, by rw [kv_len r3]; exact hl, ⟨_, _, t2, ky, rfl, kdp⟩, kv_nkey r3, ?_⟩
  obtain ⟨s3, t3⟩ := s2.turn (y := .od (storedD kvs (.tuple ds) vd)) (o := ND X.w l (storedN xs (toKey (.tuple ds)) b v)) he rfl rfl q1 (fun od u z => by rw [r2] at z; cases z) fun M hM => by
    refine ⟨_, by rw [hw]; exact upd_same, ?_⟩
    have mv : ∀ c u, H2 c = some u → ¬ Mx F σ es c → upd H2 l (ND X.w l (storedN xs (toKey (.tuple ds)) b v)) c = some u ∧ ¬ M c := fun c u e n => ⟨by rw [upd_ne fun z => n (by rw [z]; exact .inr ⟨i, _, he, rfl, q1⟩)]; exact e, fun z => n ((hM c).mp z)⟩
    exact kv_stored ky kdp (t2.move mv) (tv.move mv) (KvOk.move mv r3)
  exact g.nx _ _ _ s3 (((Tr.of x1.mx).trans (Tr.of x2.mx)).trans t3) po
/-! numbers.get(k, x) -/
theorem w_getD {i : Nat} {x : Str} {kvs : List (D × D)} {k f : Expr} (hw : F.w = X.w) (hu : X.A.units + 9 < cLine) (he : es[i]? = some (.od kvs)) (hN : X.N[i]? = some x := by rfl) (hv : Vis X.env.scope x := by first | exact Or.inl rfl | exact Or.inr (Or.inl rfl) | exact Or.inr (Or.inr rfl))
    (m : M2 X (.Name x pn) "get" apos k f cpos) (h : W F X k es fun kd => W F X f es fun z => asKey kd = true ∧ Φ ((valD kvs kd).getD z)) (hd : (x == ("__debug__" : Str)) = false := by decide) (hcd : (x == ("__classdict__" : Str)) = false := by decide) :
    W F X (.Call (.Attribute (.Name x pn) "get" apos) [k, f] [] cpos) es Φ := fun σ H s Q kk => by
  refine ⟨_, pe_ndget2 hu (pv i hN hv hd hcd) can_e can_e m, ?_⟩
  obtain ⟨l, q1, q0, _, xs0, q2, q3⟩ := s.own i _ he rfl
  rw [hw] at q2
  refine ⟨.ref l, q1, l, rfl, ⟨xs0, q2⟩, ?_⟩
  refine h σ H s _ fun y kd H1 s1 x1 t1 hf => ?_
  refine hf σ H1 s1 _ fun z zd H2 s2 x2 t2 ⟨ak, po⟩ => ?_
  obtain ⟨ky, kdp, ds, rfl⟩ := asKey_of ak
  obtain ⟨b, rfl⟩ := key_ref t1
  obtain ⟨l', r1, _, _, xs, r2, r3⟩ := s2.own i _ he rfl
  rw [q1] at r1
  cases r1
  rw [hw] at r2
  refine ⟨b, xs, toKey (.tuple ds), rfl, r2, ⟨_, _, t1.mono x2.mx, ky, rfl, kdp⟩, kv_nkey r3, ?_⟩
  rcases kv_val (k := .tuple ds) r3 with ⟨e1, e2⟩ | ⟨v, d, e1, e2, td⟩
  · rw [e1]
    rw [e2] at po
    exact kk _ _ H2 s2 (x1.trans' x2) t2 po
  · rw [e1]
    rw [e2] at po
    exact kk _ _ H2 s2 (x1.trans' x2) td po
/-! ### a locked dict, read -/
def tNDItemF (u : World) (to ti : TE) : TE := fun σ H Q => to σ H fun x H1 => ti σ H1 fun y H2 => ∃ (l b : Addr) (od : Obj) (xs : List NKV) (k : NestedKey) (v : V), x = .ref l ∧ y = .ref b ∧ H2 l = some (.frz od (ND u l xs)) ∧ NKey H2 b k ∧ (∀ x ∈ xs, NKey H2 x.2.1 x.1) ∧ valN xs k = some v ∧ Q v H2
theorem pe_nditemF {o i : Expr} {to ti : TE} (hu : X.A.units + 9 < cLine) (ho : PE X o to) (hi : PE X i ti) (hs : NoSl i) : PE X (.Subscript o i pos) (tNDItemF X.w to ti) := by
  refine ⟨fun pins s σ H Q I h => ?_⟩
  refine subD_of PySem.F.slot_dict_getitem.lookup hs (thn (ho.run pins s σ H _ I h) fun u s1 ⟨x, H1, I1, rx, q1⟩ => thn (hi.run pins s1 σ H1 _ I1 q1) fun iv s2 ⟨y, H2, I2, ry, l, b, od, xs, k, v, ex, ey, hl, nk, hk, hv, q2⟩ => ?_)
  subst ex ey
  obtain rfl : u = Value.ref l := rx
  obtain rfl : iv = Value.ref b := ry
  obtain ⟨h1, h2, h3, h4, est, ep, ys, h5, ⟨o', g1, g2, g3⟩, h7, h8, h9⟩ := nd_frz I2 hl
  have hm : s2.heap.DictOfH (nestedKind X.prog X.w) l ys := ⟨o', est, ep, g1, g2, g3, h8, fun y hy => by
    obtain ⟨x, hx, r1, r2, _⟩ := yr_mem h7 hy
    rw [← r1, ← r2]
    exact (hk x hx).is I2, by rw [← yr_keys h7]; exact h4⟩
  refine ⟨hm.typeIs, ?_⟩
  have q := yr_val (k := k) h7
  rw [hv] at q
  cases ea : atKey ys k with
  | none => rw [ea] at q; exact q.elim
  | some p =>
    rw [ea] at q
    exact wpAny_getItem_heap (knd := nestedKind X.prog X.w) (show X.A.in1.units + 8 < cLine by show X.A.units + 1 + 8 < cLine; omega) (nk.is I2) hm ea ⟨v, H2, I2.tok _, q, q2⟩
theorem w_itemF {i : Nat} {x : Str} {kvs : List (D × D)} {k : Expr} (hw : F.w = X.w) (hu : X.A.units + 9 < cLine) (he : es[i]? = some (.fd kvs)) (hN : X.N[i]? = some x := by rfl) (hv : Vis X.env.scope x := by first | exact Or.inl rfl | exact Or.inr (Or.inl rfl) | exact Or.inr (Or.inr rfl))
    (hs : NoSl k := by exact fun _ _ => rfl) (h : W F X k es fun kd => asKey kd = true ∧ ∃ z, valD kvs kd = some z ∧ Φ z) (hd : (x == ("__debug__" : Str)) = false := by decide) (hcd : (x == ("__classdict__" : Str)) = false := by decide) :
    W F X (.Subscript (.Name x pn) k pos) es Φ := fun σ H s Q kk => by
  refine ⟨_, pe_nditemF hu (pv i hN hv hd hcd) can_e hs, ?_⟩
  obtain ⟨l, od, xs0, q1, q2, q4, q3⟩ := s.fd i _ he
  refine ⟨.ref l, q1, ?_⟩
  refine h σ H s _ fun y kd H1 s1 x1 t1 ⟨ak, z, hz, po⟩ => ?_
  obtain ⟨ky, kdp, ds, rfl⟩ := asKey_of ak
  obtain ⟨b, rfl⟩ := key_ref t1
  obtain ⟨l', od', xs, r1, r2, r4, r3⟩ := s1.fd i _ he
  rw [q1] at r1
  cases r1
  rw [hw] at r2
  rcases kv_val (k := .tuple ds) r3 with ⟨e1, e2⟩ | ⟨v, d, e1, e2, td⟩
  · rw [hz] at e2
    cases e2
  · rw [hz] at e2
    cases e2
    exact ⟨l, b, od', xs, _, v, rfl, rfl, r2, ⟨_, _, t1, ky, rfl, kdp⟩, kv_nkey r3, e1, kk v _ H1 s1 x1 td po⟩
/-- d.items() of a locked dict -/
def kvPairs (kvs : List (D × D)) : List D := kvs.map fun kv => .tuple [kv.1, kv.2]
/-- a locked dict stands -/
def GFd (u : World) (l : Addr) (od : Obj) (xs : List NKV) (kvs : List (D × D)) : (Addr → Prop) → Hp → Prop := fun M H => H l = some (.frz od (ND u l xs)) ∧ ¬ M l ∧ Paired (KvOk M H) xs kvs
theorem kv_at {M : Addr → Prop} {H : Hp} : ∀ {xs : List NKV} {kvs : List (D × D)} {i : Nat} {x : NKV}, Paired (KvOk M H) xs kvs → xs[i]? = some x → ∃ kv, kvs[i]? = some kv ∧ KvOk M H x kv
  | _, _, _, _, .nil, h => by simp at h
  | _ :: _, _, 0, _, .cons r t, h => by simp at h; subst h; exact ⟨_, rfl, r⟩
  | _ :: _, _, i + 1, _, .cons r t, h => by
    obtain ⟨y, h1, h2⟩ := kv_at (i := i) t (by simpa using h)
    exact ⟨y, by simpa using h1, h2⟩
theorem kvp_len (kvs : List (D × D)) : (kvPairs kvs).length = kvs.length := by unfold kvPairs; rw [List.length_map]
theorem wk_items {u : World} {l : Addr} {od : Obj} {xs : List NKV} {kvs : List (D × D)} : WkD (ItN u l od xs) (kvPairs kvs) (GFd u l od xs kvs) := by
  refine ⟨fun M M' H H' k g => ⟨(k _ _ g.1 g.2.1).1, (k _ _ g.1 g.2.1).2, KvOk.move k g.2.2⟩, fun M H i g hi => ⟨g.1, ?_⟩, fun M H g => ⟨g.1, ?_⟩, fun M H i x H' kn g hi y => ?_⟩
  · rw [kvp_len] at hi
    rw [kv_len g.2.2]
    exact hi
  · rw [kvp_len, kv_len g.2.2]
    exact Nat.le_refl _
  · obtain ⟨T, en, e1, rfl, n, rfl⟩ := y
    obtain ⟨kv, e2, _, _, _, t1, t2⟩ := kv_at g.2.2 e1
    exact ⟨grow n, _, by unfold kvPairs; rw [List.getElem?_map, e2]; rfl, pair_dt kn n t1 t2⟩
theorem it_items {i n : Nat} {x : Str} {r : List Expr} {tpos : Pos} {kvs : List (D × D)} {Ψ : List D → Prop} (he : es[i]? = some (.fd kvs)) (hN : X.N[i]? = some x := by rfl) (hv : Vis X.env.scope x := by first | exact Or.inl rfl | exact Or.inr (Or.inl rfl) | exact Or.inr (Or.inr rfl)) (q : Ψ (kvPairs kvs))
    (hbase : attributeBase (.Name x pn) "items" X.env (eval (.Name x pn) X.env) = eval (.Name x pn) X.env := by rfl) (hline : (apos.endLine == cpos.line) = true := by rfl) (hd : (x == ("__debug__" : Str)) = false := by decide) (hcd : (x == ("__classdict__" : Str)) = false := by decide) :
    It1 F X (.Tuple r n tpos) (.Call (.Attribute (.Name x pn) "items" apos) [] [] cpos) es Ψ := fun σ H s R k => by
  obtain ⟨l, od, xs, q1, q2, q4, q3⟩ := s.fd i _ he
  refine ⟨_, pi_itN (u := F.w) (pv i hN hv hd hcd) hbase hline, ?_⟩
  refine ⟨.ref l, q1, l, od, xs, rfl, q2, ?_⟩
  exact k _ _ _ H s ExM.refl (show GFd F.w l od xs kvs (Mx F σ es) H from ⟨q2, q4, q3⟩) wk_items q
end
end DW
namespace DW
open PySem PySem.W L2 RZ PyProof.Rows
section
variable {X : Cx} {pins : List (Addr × Obj)} {σ : L2.St} {H : Hp} {s : Shared} {M : Addr → Prop}
/-! ### sorted -/
def RV (M : Addr → Prop) (H : Hp) (v : Value) (d : D) : Prop := ∃ x : V, L2.RelV x v ∧ Dt M H x d
theorem each_of : ∀ {xs : List V} {us : List Value} {ds : List D}, L2.Vals xs us → DtA M H xs ds → EachIs (RV M H) us ds
  | [], _, _, r, t => by cases r; cases t; exact .nil
  | x :: xs, _, _, r, t => by
    cases r with
    | cons r1 r2 =>
      cases t with
      | cons t1 t2 => exact .cons ⟨x, r1, t1⟩ (each_of r2 t2)
theorem each_back : ∀ {us : List Value} {ds : List D}, EachIs (RV M H) us ds → ∃ ys, L2.Vals ys us ∧ DtA M H ys ds
  | _, _, .nil => ⟨[], .nil, .nil⟩
  | _, _, .cons r t => by
    obtain ⟨x, r1, r2⟩ := r
    obtain ⟨ys, h1, h2⟩ := each_back t
    exact ⟨x :: ys, .cons r1 h1, .cons r2 h2⟩
mutual
theorem alike_nd : ∀ d : D, alike d d = true → d.hasDict = false
  | .none, _ => rfl
  | .bool _, _ => rfl
  | .int _, _ => rfl
  | .str _, _ => rfl
  | .list ds, h => by rw [PyData.hasDict]; exact alikeAll_nd ds (by rw [alike] at h; exact h)
  | .tuple ds, h => by rw [PyData.hasDict]; exact alikeAll_nd ds (by rw [alike] at h; exact h)
  | .dict _, h => by simp [alike] at h
theorem alikeAll_nd : ∀ ds : List D, alikeAll ds ds = true → PyData.hasDictAll ds = false
  | [], _ => rfl
  | d :: ds, h => by
    rw [alikeAll, Bool.and_eq_true] at h
    rw [PyData.hasDictAll, alike_nd d h.1, alikeAll_nd ds h.2]; rfl
end
theorem each_reads (I : Inv X pins σ H s) : ∀ {us : List Value} {ds : List D}, (∀ d ∈ ds, d.hasDict = false) → EachIs (RV M H) us ds → EachIs (fun v d => ∃ as, Reads s.heap v (id d) as) us ds
  | _, _, _, .nil => .nil
  | _, _, n, .cons ⟨x, r1, t⟩ q => .cons (Dp.reads I _ x _ (Dt.dp _ _ (n _ List.mem_cons_self) t) r1) (each_reads I (fun d h => n d (List.mem_cons_of_mem _ h)) q)
def rSortD : List V → Hp → VK → Prop := fun vs H Q => ∃ (M : Addr → Prop) (a : Addr) (xs : List V) (ds : List D), vs = [.ref a] ∧ H a = some (.lst xs) ∧ DtA M H xs ds ∧ AllAlike ds ∧ Sortable ds ∧ (∀ d ∈ ds, d.depth ≤ 8) ∧
  ∀ p ys, H p = none → DtA M H ys (ds.mergeSort (dataLe false id)) → Q (.ref p) (upd H p (.lst ys))
theorem cr_sortD (hu : X.A.units + 64 < cLine) : CallR X (.builtin "sorted") rSortD := by
  intro pins s σ H vs us Q I r h
  obtain ⟨M, a, xs, ds, rfl, ha, t, al, so, dp, q⟩ := h
  obtain ⟨its, rv, hl, hz⟩ := I.list (SqL.of ha)
  rw [Vals.ref1 r]
  have hlen : ds.length ≤ sizeLine := by rw [← t.length]; exact hz
  refine sorted_data (R := RV M H) (enc := id) hl.isList (each_of rv t) (each_reads I (fun d hd => alike_nd d (al d hd d hd)) (each_of rv t)) (by rw [List.map_id]; exact al) (by rw [List.map_id]; exact so) hlen (fun d hd => by have := dp d hd; show X.A.units + 2 + d.depth < cLine; omega) fun out h1 h2 => ?_
  obtain ⟨ep, he'⟩ := PyProof.Rows.sortedAll_at s.heap its (List.toArray out)
  obtain ⟨ys, g1, g2⟩ := each_back h2
  have hy : ys.length ≤ sizeLine := by rw [g1.length, h1]; exact hlen
  exact ⟨.ref _, upd H (s.heap.objs.size + 1) (.lst ys), I.laid (t' := s.toks) (fun _ _ => PyProof.Rows.sortedAll_old) (Nat.le_succ _) ⟨hy, out, ep, g1, he'⟩, rfl, q _ ys (I.hok.fresh (Nat.le_succ _)) g2⟩
mutual
theorem reads_there {h : Heap} : ∀ (d : D) (v : Value) (as : List Addr), Reads h v d as → ∀ a ∈ as, ∃ o, h.get? a = some o
  | .none, _, _, r, a, ha => by cases r; cases ha
  | .bool _, _, _, r, a, ha => by cases r; cases ha
  | .int _, _, _, r, a, ha => by cases r; cases ha
  | .str _, _, _, r, a, ha => by cases r; cases ha
  | .list ds, _, _, r, a, ha => by
    cases r with
    | list h1 h2 h3 h4 =>
      rcases List.mem_cons.mp ha with e | e
      · exact ⟨_, by rw [e]; exact h1⟩
      · exact readsAll_there ds _ _ h4 a e
  | .tuple ds, _, _, r, a, ha => by
    cases r with
    | tuple h1 h2 h3 h4 => exact readsAll_there ds _ _ h4 a ha
  | .dict kvs, _, _, r, a, ha => by
    cases r with
    | dict h1 h2 h3 h4 h5 =>
      rcases List.mem_cons.mp ha with e | e
      · exact ⟨_, by rw [e]; exact h1⟩
      · rcases List.mem_append.mp e with e | e
        · exact readsKv_there kvs _ _ _ _ h4 h5 a (.inl e)
        · exact readsKv_there kvs _ _ _ _ h4 h5 a (.inr e)
theorem readsAll_there {h : Heap} : ∀ (ds : List D) (vs : List Value) (as : List Addr), ReadsAll h vs ds as → ∀ a ∈ as, ∃ o, h.get? a = some o
  | [], _, _, r, a, ha => by cases r; cases ha
  | d :: ds, _, _, r, a, ha => by
    cases r with
    | cons r1 r2 =>
      rcases List.mem_append.mp ha with e | e
      · exact reads_there d _ _ r1 a e
      · exact readsAll_there ds _ _ r2 a e
theorem readsKv_there {h : Heap} : ∀ (kvs : List (D × D)) (ks vs : List Value) (as bs : List Addr), ReadsAll h ks (kvs.map (·.1)) as → ReadsAll h vs (kvs.map (·.2)) bs → ∀ a, a ∈ as ∨ a ∈ bs → ∃ o, h.get? a = some o
  | [], _, _, _, _, r, q, a, ha => by
    cases r
    cases q
    rcases ha with e | e <;> cases e
  | (k, v) :: kvs, _, _, _, _, r, q, a, ha => by
    cases r with
    | cons r1 r2 =>
      cases q with
      | cons q1 q2 =>
        rcases ha with e | e
        · rcases List.mem_append.mp e with e | e
          · exact reads_there k _ _ r1 a e
          · exact readsKv_there kvs _ _ _ _ r2 q2 a (.inl e)
        · rcases List.mem_append.mp e with e | e
          · exact reads_there v _ _ q1 a e
          · exact readsKv_there kvs _ _ _ _ r2 q2 a (.inr e)
end
theorem reads_apart {h h' : Heap} {d : D} {v : Value} {as : List Addr} {a : Addr} (r : Reads h v d as) (k : ∀ b o, h.get? b = some o → h'.get? b = some o) (ha : h.get? a = none) : ∃ as', Reads h' v d as' ∧ a ∉ as' := by
  refine ⟨as, PyProof.Rows.Reads.keeps k r, fun z => ?_⟩
  obtain ⟨o, e⟩ := reads_there _ _ _ r a z
  rw [ha] at e
  cases e
theorem each_apart {h h' : Heap} {a : Addr} (k : ∀ b o, h.get? b = some o → h'.get? b = some o) (ha : h.get? a = none) : ∀ {us : List Value} {ds : List D}, EachIs (fun v d => ∃ as, Reads h v (id d) as) us ds → EachIs (fun v d => ∃ as, Reads h' v (id d) as ∧ a ∉ as) us ds
  | _, _, .nil => .nil
  | _, _, .cons ⟨as, r⟩ q => .cons (reads_apart r k ha) (each_apart k ha q)
/-- the keys of a locked dict, in order -/
theorem kd_each : ∀ {xs : List NKV} {kvs : List (D × D)} {us : List Value}, Paired (KvOk M H) xs kvs → us = xs.map (fun x => Value.ref x.2.1) → EachIs (RV M H) us (kvs.map (·.1))
  | _, _, _, .nil, e => by subst e; exact .nil
  | x :: xs, kv :: kvs, _, .cons r t, e => by
    subst e
    exact .cons ⟨.ref x.2.1, rfl, r.2.2.2.1⟩ (kd_each t rfl)
def rSortF (u : World) : List V → Hp → VK → Prop := fun vs H Q => ∃ (M : Addr → Prop) (l : Addr) (od : Obj) (xs : List NKV) (kvs : List (D × D)), vs = [.ref l] ∧ H l = some (.frz od (ND u l xs)) ∧ Paired (KvOk M H) xs kvs ∧ AllAlike (kvs.map (·.1)) ∧ Sortable (kvs.map (·.1)) ∧ (∀ d ∈ kvs.map (·.1), d.depth ≤ 8) ∧
  ∀ p ys, H p = none → DtA M H ys ((kvs.map (·.1)).mergeSort (dataLe false id)) → Q (.ref p) (upd H p (.lst ys))
theorem hok_none (I : Inv X pins σ H s) {a : Addr} (h : s.heap.get? a = none) : H a = none := I.hok.gone h
theorem cr_sortF {u : World} (hu : X.A.units + 64 < cLine) (hc : X.calm = true) : CallR X (.builtin "sorted") (rSortF u) := by
  intro pins s σ H vs us Q I r h
  obtain ⟨M, l, od, xs, kvs, rfl, hl, kv, al, so, dp, q⟩ := h
  rw [Vals.ref1 r]
  obtain ⟨h1, h2, h3, h4, est, ep, ys, h5, h6, h7, h8, h9⟩ := nd_frz I hl
  refine PySem.Calls.call_function_entry kind_sorted plain_sorted entry_sorted (args_sorted1 _) ?_
  unfold Builtin.«sorted»
  refine wpAny_bind (m := checkCount "sorted" 1 1 _) (wpAny_pure ?_)
  refine wpAny_bind (kdu_collect (A := X.A.in1) (KdlSrc.rawDict (es := est) (ep := ep) h1) (I.ok.hd hc) h6 (by rw [h9]; exact h3) fun h' tk acc hk hacc => ?_)
  have hal : acc.toList = xs.map (fun x => Value.ref x.2.1) := by
    apply List.ext_getElem?
    intro i
    by_cases hi : i < xs.length
    · obtain ⟨y, e1, r1, r2, r3⟩ := yr_get h7 (List.getElem?_eq_getElem hi)
      have e2 : acc.toList.length = est.size := by rw [Array.length_toList]; exact hacc.1
      have e3 : i < acc.toList.length := by rw [e2, h9]; exact hi
      obtain ⟨hie, ev⟩ := hacc.2 i _ (by rw [← Array.getElem?_toList]; exact List.getElem?_eq_getElem e3)
      have ey : est[i] = ⟨y.1.hash u, .ref y.2.1, y.2.2⟩ := by
        have q : est.toList[i]? = some est[i] := by simp [hie]
        rw [h8, List.getElem?_map, e1] at q
        exact (Option.some.inj q).symm
      rw [List.getElem?_eq_getElem e3, ev, ey, List.getElem?_map, List.getElem?_eq_getElem hi]
      show some (Value.ref y.2.1) = some (Value.ref xs[i].2.1)
      rw [r2]
    · rw [List.getElem?_eq_none (by rw [Array.length_toList, hacc.1, h9]; omega), List.getElem?_eq_none (by rw [List.length_map]; omega)]
  have hlen : acc.toList.length = xs.length := by rw [hal, List.length_map]
  have hkl : (kvs.map (·.1)).length = xs.length := by rw [List.length_map, kv_len kv]
  refine wpAny_bind (wpAny_newList ?_ (by rw [hlen]; exact h3))
  have kk : ∀ b o, s.heap.get? b = some o → (h'.push { cls := .type "list", data := .seq acc.toList.toArray }).get? b = some o := fun b o e => Heap.get?_push_of_some _ (hk b o e)
  have e0 : EachIs (RV M H) acc.toList (kvs.map (·.1)) := kd_each kv hal
  have hfr : s.heap.get? h'.objs.size = none := by
    cases e : s.heap.get? h'.objs.size with
    | none => rfl
    | some o => exact absurd (Heap.lt_size (hk _ _ e)) (Nat.lt_irrefl _)
  refine wpAny_bind (wpAny_holding (wpAny_mono (list_sort_data (A := X.A.in1) (R := RV M H) (enc := id) (s := { s with heap := h'.push { cls := .type "list", data := .seq acc.toList.toArray }, toks := tk }) (a := h'.objs.size) (n := 0) (vs := acc.toList) (bs := kvs.map (·.1))
    (Q := fun _ s' => EP X pins σ Q (.ref h'.objs.size) s') (Heap.get?_push_size _ rfl) e0 (each_apart kk hfr (each_reads I (fun d hd => alike_nd d (al d hd d hd)) e0)) (by rw [List.map_id]; exact al) (by rw [List.map_id]; exact so) (by rw [hkl]; exact h3) (fun d hd => by have := dp d hd; show X.A.units + 1 + 1 + d.depth < cLine; omega) fun out g1 g2 => ?_) (fun _ s' x => ?_) fun _ _ e => e))
  · obtain ⟨ep', he'⟩ := PyProof.Rows.sortedHeap_at (vs := acc.toList) (out := List.toArray out) (h := h'.push { cls := .type "list", data := .seq acc.toList.toArray }) (a := h'.objs.size) (Heap.get?_push_size _ rfl)
    obtain ⟨zs, f1, f2⟩ := each_back g2
    have hz : zs.length ≤ sizeLine := by rw [f1.length, g1, hkl]; exact h3
    refine ⟨.ref _, upd H h'.objs.size (.lst zs), I.laidN (a := h'.objs.size) (t' := tk) (fun b o e => ?_) hfr (hok_none I hfr) ⟨hz, out, ep', f1, he'⟩, rfl, q _ zs (hok_none I hfr) f2⟩
    · exact (PyProof.Rows.sortedHeap_old (Nat.ne_of_lt (Heap.lt_size (hk b o e))) (Heap.lt_size (kk b o e))).trans (kk b o e)
  · exact wpAny_pure ⟨_, rfl, x⟩
end
end DW
namespace DW
open PySem PySem.W L2 RZ PyProof.Rows
section
variable {X : Cx}
theorem tuple_mul1 (l : Addr) (items : Array Value) (n : Nat) (dd : Option Addr) (sl : Array (Option Value)) (u : Tok) :
    Meets (Builtin.«tuple.__mul__» ⟨[.ref l, .int 1 u], []⟩) (fun _ R s => s.heap.get? l = some { cls := .type "tuple", dict := dd, data := .seq items n, slots := sl } ∧ R (.ok (.ret (Value.ref l))) s) :=
  .of_wp fun prog w A R s h => by
    obtain ⟨hp, g, d, tk, os⟩ := s
    obtain ⟨hl, h⟩ := h
    have f1 := AutoSeq1.idx_int
    have c1 : (items.isEmpty || (1 : Int) == 1) = true := by rw [Bool.or_eq_true]; exact .inr rfl
    have c0 : ((decide ((1 : Int) < -(2 ^ 63)) || decide ((1 : Int) ≥ 2 ^ 63)) = true) = False := by decide
    wp_walk using wpAny_loadPart' hl
    exact ⟨_, rfl, h⟩
def rMulOne (K : PySem.W.Frag) : R2 := fun x y H Q => ∃ l xs, x = .ref l ∧ y = .int 1 ∧ SqT K H l xs ∧ Q (.ref l) H
theorem op_mul1 : OpR X (binaryOp .Mult) (rMulOne X.K) := by
  intro pins s σ H x y v u Q I rx ry h
  obtain ⟨l, xs, rfl, rfl, hT, q⟩ := h
  cases rx
  obtain ⟨t, rfl⟩ := ry
  obtain ⟨its, r, ⟨⟨cls, dd, data, sl⟩, ho, hc, n, hd⟩, hs⟩ := I.tuple hT
  simp only at hc hd
  subst hc hd
  exact wpAny_binaryOp_repeat_ref (T := "tuple") (U := "int") (by decide) ⟨_, ho, rfl⟩ (fun s' => typeIs_int s' 1 t) noFill_tuple_mul F.fills_int_mul F.slot_int_rmul repeat_tuple F.slot_int_index.lookup
    (call_meets F.slot_int_rmul (typeIs_int s 1 t) F.entry_int_rmul (F.args_int_rmul_2 _ _) (int_rmul_tuple 1 t l its.toArray n dd sl)
      ⟨ho, rfl, ⟨_, ho, rfl⟩, call_meets F.slot_tuple_mul ⟨_, ho, rfl⟩ F.entry_tuple_mul (F.args_tuple_mul_2 _ _) (tuple_mul1 l its.toArray n dd sl t) ⟨ho, ⟨.ref l, H, I, rfl, q⟩⟩⟩)
/-- (x,) * k -/
theorem od_repT1 {d : D} {k : Int} (h1 : 1 ≤ k) (h2 : k ≤ 1000) : OpD X (binaryOp .Mult) (.tuple [d]) (.int k) (.tuple (List.replicate k.toNat d)) := fun M H v u kn hv hu Q q => by
  obtain ⟨a, vs, rfl, g1, g2, g3⟩ := id hv.tup_inv
  obtain rfl := hu.int_inv
  by_cases e : k = 1
  · subst e
    exact ⟨_, op_mul1, a, vs, rfl, rfl, SqT.of g1, q _ H same0 hv⟩
  · obtain ⟨y, rfl, t⟩ := dta1 g3
    refine ⟨_, op_repT, a, k, [y], rfl, rfl, SqT.of g1, by simp, by omega, h2, by simp, fun p hp => ?_⟩
    have e2 := dta_rep g3 k.toNat
    have e3 : (List.replicate k.toNat [d]).flatten = List.replicate k.toNat d := by
      generalize k.toNat = n
      induction n with
      | zero => rfl
      | succ n ih => rw [List.replicate_succ, List.flatten_cons, ih]; rfl
    rw [e3] at e2
    exact q _ _ (grow hp) (.tup upd_same (nm kn hp) (e2.mono (ExM.of (grow hp))))
/-- < of data that are alike -/
def rLtD (K : PySem.W.Frag) : R2 := fun x y H Q => ∃ d e, Dp K H x d ∧ Dp K H y e ∧ PySem.W.alike d e = true ∧ d ≠ .none ∧ min d.depth e.depth ≤ 8 ∧ Q (.bl (PySem.W.dataLt d e)) H
theorem op_ltD (hu : X.A.units + 64 < cLine) : OpR X (compareOp .Lt) (rLtD X.K) := by
  intro pins s σ H x y v u Q I rx ry h
  obtain ⟨d, e, hd, he, al, nn, dp, q⟩ := h
  obtain ⟨as, r1⟩ := Dp.reads I d x v hd rx
  obtain ⟨bs, r2⟩ := Dp.reads I e y u he ry
  exact PySem.W.lt_data r1 r2 al nn (by omega) ⟨.bl _, H, I, rfl, q⟩
theorem od_ltD {d e : D} (hu : X.A.units + 64 < cLine) (al : PySem.W.alike d e = true) (nn : d ≠ .none) (dp : min d.depth e.depth ≤ 8) (n1 : PySem.W.alike d d = true) (n2 : PySem.W.alike e e = true) : OpD X (compareOp .Lt) d e (.bool (PySem.W.dataLt d e)) := fun M H v u kn hv hu' Q q =>
  ⟨_, op_ltD hu, d, e, hv.dp _ _ (alike_nd _ n1), hu'.dp _ _ (alike_nd _ n2), al, nn, dp, q _ H same0 (.bl _)⟩
/-! repr of data -/
def ReprOk (d : D) : Prop := d.showable = true ∧ d.hasDict = false ∧ d.shown.length ≤ sizeLine ∧ d.depth ≤ 8
def rRepr (K : PySem.W.Frag) : List V → Hp → VK → Prop := fun vs H Q => ∃ a d, vs = [.ref a] ∧ Dp K H (.ref a) d ∧ ReprOk d ∧ Q (.str d.shown) H
theorem cr_repr (hg : X.A.guards = some []) (hu : X.A.units + 64 < cLine) : CallR X (.builtin "repr") (rRepr X.K) := by
  intro pins s σ H vs us Q I r h
  obtain ⟨a, d, rfl, hd, ⟨h1, h2, h3, h4⟩, q⟩ := h
  rw [Vals.ref1 r]
  obtain ⟨as, r1⟩ := Dp.reads I d _ _ hd (rfl : RelV (.ref a) (.ref a))
  exact repr_of_reads' r1 h1 (PyData.noDict_hsm h2) hg (by omega) (fun _ _ q => q) (fun h' u tk hk => ⟨.str _, H, I.kept hk, ⟨u, rfl⟩, q⟩) h3
theorem cd_reprT {ds : List D} (hg : X.A.guards = some []) (hu : X.A.units + 64 < cLine) (ok : ReprOk (.tuple ds)) : CallD X (.builtin "repr") [.tuple ds] (.str (PyData.tuple ds).shown) := fun M H vs kn h Q q => by
  obtain ⟨v, rfl, t⟩ := dta1 h
  obtain ⟨a, xs, rfl, g1, g2, g3⟩ := id t.tup_inv
  exact ⟨_, cr_repr hg hu, a, _, rfl, t.dp _ _ ok.2.1, ok, q _ H same0 (.str _)⟩
/-! sorted of a list of data -/
theorem cd_sortedL {ds : List D} (hu : X.A.units + 64 < cLine) (al : AllAlike ds) (so : Sortable ds) (dp : ∀ d ∈ ds, d.depth ≤ 8) : CallD X (.builtin "sorted") [.list ds] (.list (ds.mergeSort (dataLe false id))) := fun M H vs kn h Q q => by
  obtain ⟨v, rfl, t⟩ := dta1 h
  obtain ⟨a, xs, rfl, g1, g2, g3⟩ := id t.lst_inv
  refine ⟨_, cr_sortD hu, M, a, xs, ds, rfl, g1, g3, al, so, dp, fun p ys hp r => ?_⟩
  exact q _ _ (grow hp) (.lst upd_same (nm kn hp) (r.mono (ExM.of (grow hp))))
/-! max of a list -/
theorem cd_maxL (hc : X.calm = true) {ns : List Int} {Φ : D → Prop} (hne : 0 < ns.length) {z : Int} (hz : ∀ m : Int, m ∈ ns → (∀ n ∈ ns, n ≤ m) → m = z) : CallD X (.builtin "max") [.list (ns.map PyData.int)] (.int z) := fun M H vs kn h Q q => by
  obtain ⟨v, rfl, t⟩ := dta1 h
  obtain ⟨a, xs, rfl, g1, g2, g3⟩ := id t.lst_inv
  rw [g3.ints] at g1
  refine ⟨_, cr_max hc, a, ns, rfl, SqL.of g1, hne, fun m h1 h2 => ?_⟩
  rw [hz m h1 h2]
  exact q _ H same0 (.int _)
/-! len of a dict -/
def rLenN (u : World) : List V → Hp → VK → Prop := fun vs H Q => ∃ l xs, vs = [.ref l] ∧ H l = some (ND u l xs) ∧ (∀ x ∈ xs, NKey H x.2.1 x.1) ∧ Q (.int xs.length) H
theorem cr_lenN : CallR X (.builtin "len") (rLenN X.w) := by
  intro pins s σ H vs us Q I r h
  obtain ⟨l, xs, rfl, hl, hk, q⟩ := h
  rw [Vals.ref1 r]
  obtain ⟨h1, h2, h3, ys, h4, h5⟩ := nd_open I hl hk
  have hy : ys.length = xs.length := by
    have e := congrArg List.length (yr_keys h4)
    rw [List.length_map, List.length_map] at e
    exact e.symm
  refine call_len_dictH h1 h5 (by rw [hy]; rw [sizeLine_eq] at h2; omega) ?_
  rw [hy]
  exact ⟨.int _, H, I.tok _, ⟨_, rfl⟩, q⟩
end
section
variable {F : Fc} {X : Cx} {e a b c : Expr} {es : List Sl} {Φ : D → Prop} {K : Ek} {pos p pos' pn apos cpos : Pos} {s : Stmt} {ss : List Stmt} {H H' : Hp} {σ : L2.St}
theorem w_lenD {i : Nat} {f x : Str} {kvs : List (D × D)} (hw : F.w = X.w) (he : es[i]? = some (.od kvs)) (hg : Gl X f) (hm : X.mg f = none) (hv0 : bootBuiltins f = some (.builtin "len")) (h : Φ (.int kvs.length))
    (hN : X.N[i]? = some x := by rfl) (hv : Vis X.env.scope x := by first | exact Or.inl rfl | exact Or.inr (Or.inl rfl) | exact Or.inr (Or.inr rfl)) (hn : f ≠ "__name__" := by decide) (hdb : (f == ("__debug__" : Str)) = false := by decide)
    (hst : starEach [.Name x pn] X.env = (false, eval (.Name x pn) X.env) :: starEach [] X.env := by rfl) (hpl : (backTo pos (starEach [] X.env)).any (·.1) = false := by rfl) (hd : (x == ("__debug__" : Str)) = false := by decide) (hcd : (x == ("__classdict__" : Str)) = false := by decide) :
    W F X (.Call (.Name f p) [.Name x pn] [] pos) es Φ := fun σ H s Q k => by
  refine ⟨_, pe_callB cr_lenN hg hm hv0 (pa_cons (pv i hN hv hd hcd) pa_nil hst) hn hdb hst hpl, ?_⟩
  obtain ⟨l, q1, q0, _, xs, q2, q3⟩ := s.own i _ he rfl
  rw [hw] at q2
  refine ⟨.ref l, q1, l, xs, rfl, q2, kv_nkey q3, ?_⟩
  refine k _ _ H s ExM.refl (.int _) ?_
  rw [kv_len q3]
  exact h
theorem w_sortedF {i : Nat} {f x : Str} {kvs : List (D × D)} (hw : F.w = X.w) (hu : X.A.units + 64 < cLine) (hc : X.calm = true) (he : es[i]? = some (.fd kvs)) (hg : Gl X f) (hm : X.mg f = none) (hv0 : bootBuiltins f = some (.builtin "sorted"))
    (h : AllAlike (kvs.map (·.1)) ∧ Sortable (kvs.map (·.1)) ∧ (∀ d ∈ kvs.map (·.1), d.depth ≤ 8) ∧ Φ (.list ((kvs.map (·.1)).mergeSort (dataLe false id))))
    (hN : X.N[i]? = some x := by rfl) (hv : Vis X.env.scope x := by first | exact Or.inl rfl | exact Or.inr (Or.inl rfl) | exact Or.inr (Or.inr rfl)) (hn : f ≠ "__name__" := by decide) (hdb : (f == ("__debug__" : Str)) = false := by decide)
    (hst : starEach [.Name x pn] X.env = (false, eval (.Name x pn) X.env) :: starEach [] X.env := by rfl) (hpl : (backTo pos (starEach [] X.env)).any (·.1) = false := by rfl) (hd : (x == ("__debug__" : Str)) = false := by decide) (hcd : (x == ("__classdict__" : Str)) = false := by decide) :
    W F X (.Call (.Name f p) [.Name x pn] [] pos) es Φ := fun σ H s Q k => by
  refine ⟨_, pe_callB (cr_sortF (u := F.w) hu hc) hg hm hv0 (pa_cons (pv i hN hv hd hcd) pa_nil hst) hn hdb hst hpl, ?_⟩
  obtain ⟨l, od, xs, q1, q2, q4, q3⟩ := s.fd i _ he
  obtain ⟨al, so, dp, ph⟩ := h
  refine ⟨.ref l, q1, Mx F σ es, l, od, xs, kvs, rfl, q2, q3, al, so, dp, fun p ys hp t => ?_⟩
  exact k _ _ _ (s.new hp) (ExM.new hp) (.lst upd_same (nm s.kn hp) (t.mono (ExM.of (grow hp)))) ph
end
end DW
namespace DW
open PySem PySem.W L2 RZ PyProof.Rows
section
variable {M M' : Addr → Prop} {H H' : Hp}
mutual
/-- as move, asked of lists and tuples alone -/
theorem Dt.moveT (hl : ∀ b xs, H b = some (.lst xs) → ¬ M b → H' b = some (.lst xs) ∧ ¬ M' b) (ht : ∀ b xs, H b = some (.tup xs) → ¬ M b → H' b = some (.tup xs) ∧ ¬ M' b) (ho : ∀ b o, (IsDct o ∨ ∃ C dx fs, o = .ins C dx fs) → H b = some o → ¬ M b → H' b = some o ∧ ¬ M' b) : ∀ (d : D) (v : V), Dt M H v d → Dt M' H' v d
  | .none, _, h => by cases h; exact .non
  | .bool b, _, h => by cases h; exact .bl b
  | .int i, _, h => by cases h; exact .int i
  | .str x, _, h => by cases h; exact .str x
  | .list ds, _, h => by
    cases h with
    | lst h1 h2 h3 => exact .lst (hl _ _ h1 h2).1 (hl _ _ h1 h2).2 (DtA.moveT hl ht ho ds _ h3)
  | .tuple ds, _, h => by
    cases h with
    | tup h1 h2 h3 => exact .tup (ht _ _ h1 h2).1 (ht _ _ h1 h2).2 (DtA.moveT hl ht ho ds _ h3)
  | .dict _, _, h => by
    cases h with
    | dct h1 h2 h3 => exact .dct (ho _ _ (.inl h3) h1 h2).1 (ho _ _ (.inl h3) h1 h2).2 h3
    | ins h1 h2 => exact .ins (ho _ _ (.inr ⟨_, _, _, rfl⟩) h1 h2).1 (ho _ _ (.inr ⟨_, _, _, rfl⟩) h1 h2).2
theorem DtA.moveT (hl : ∀ b xs, H b = some (.lst xs) → ¬ M b → H' b = some (.lst xs) ∧ ¬ M' b) (ht : ∀ b xs, H b = some (.tup xs) → ¬ M b → H' b = some (.tup xs) ∧ ¬ M' b) (ho : ∀ b o, (IsDct o ∨ ∃ C dx fs, o = .ins C dx fs) → H b = some o → ¬ M b → H' b = some o ∧ ¬ M' b) : ∀ (ds : List D) (vs : List V), DtA M H vs ds → DtA M' H' vs ds
  | [], _, h => by cases h; exact .nil
  | d :: ds, _, h => by
    cases h with
    | cons h1 h2 => exact .cons (Dt.moveT hl ht ho d _ h1) (DtA.moveT hl ht ho ds _ h2)
end
end
/-! ### a def that reads a dict of the caller's -/
def Fz (w : World) (Pre : List (D × D) → Prop) (Post : List (D × D) → D → Prop) : Sp := fun vs H Q _ => ∃ (M : Addr → Prop) (l : Addr) (od : Obj) (xs : List NKV) (kvs : List (D × D)), vs = [.ref l] ∧ (∀ b, M b → ∃ o, H b = some o) ∧ H l = some (.frz od (ND w l xs)) ∧ ¬ M l ∧ Paired (KvOk M H) xs kvs ∧ Pre kvs ∧
  ∀ v d H', (∀ b o, H b = some o → H' b = some o) → Dt M H' v d → Post kvs d → Q v H'
def es0f (N : List Str) (kvs : List (D × D)) : List Sl := .fd kvs :: List.replicate (N.length - 1) .no
section
variable {F : Fc} {X : Cx} {e a b c : Expr} {es : List Sl} {Φ : D → Prop} {K : Ek} {pos p pos' pn apos cpos : Pos} {s : Stmt} {ss : List Stmt} {H H' : Hp} {σ : L2.St}
theorem w_callF {x y qual : Str} {st : Stmt} {k i : Nat} {p2 : Pos} {ps : List Str} {kvs : List (D × D)} {Pre : List (D × D) → Prop} {Post : List (D × D) → D → Prop} (hk : Kn X.prog X.w X.K X.mg X.base x qual st k ps (Fz F.w Pre Post)) (hr : Rm k X.A) (hg : Gl X x)
    (hd : es[i]? = some (.od kvs)) (h : Pre kvs ∧ ∀ d, Post kvs d → Φ d) (hN : X.N[i]? = some y := by rfl) (hv : Vis X.env.scope y := by first | exact Or.inl rfl | exact Or.inr (Or.inl rfl) | exact Or.inr (Or.inr rfl))
    (hdb : (x == ("__debug__" : Str)) = false := by decide) (hdy : (y == ("__debug__" : Str)) = false := by decide) (hcy : (y == ("__classdict__" : Str)) = false := by decide)
    (he : starEach [.Name y p2] X.env = (false, eval (.Name y p2) X.env) :: starEach [] X.env := by rfl) (hpl : (backTo pos (starEach [] X.env)).any (·.1) = false := by rfl) : W F X (.Call (.Name x p) [.Name y p2] [] pos) es Φ := fun σ H s Q k' => by
  obtain ⟨f, fd, hF, hm, hf, hb⟩ := hk.ex
  refine ⟨_, pe_lock (pe_callG hF hr hg hm hf.kp hb (pa_cons (pv i hN hv hdy hcy) pa_nil he) hdb he hpl), ?_⟩
  obtain ⟨l, q1, q0, _, xs, q2, q3⟩ := s.own i _ hd rfl
  have lM : Mx F σ es l := .inr ⟨i, _, hd, rfl, q1⟩
  refine ⟨l, ND F.w l xs, q2, trivial, fun od => ⟨.ref l, q1, fun b => Mx F σ es b ∧ b ≠ l, l, od, xs, kvs, rfl, fun b z => ?_, upd_same, fun z => z.2 rfl, KvOk.move (fun b o e n => ?_) q3, h.1, fun v d H' e t po => ?_⟩⟩
  · obtain ⟨o, q⟩ := s.kn b z.1
    exact ⟨o, by rw [upd_ne z.2]; exact q⟩
  · have hb : b ≠ l := fun z => n (by rw [z]; exact lM)
    exact ⟨by rw [upd_ne hb]; exact e, fun z => n z.1⟩
  · have hl' := e l _ upd_same
    have ex : ∀ b o, H b = some o → upd H' l (ND F.w l xs) b = some o := fun b o q => by
      by_cases hb : b = l
      · rw [hb, q2] at q
        rw [hb, upd_same]
        exact q
      · rw [upd_ne hb]
        exact e b o (by rw [upd_ne hb]; exact q)
    refine ⟨hl', k' v d _ (s.grow ex) (ExM.of ex) (Dt.moveT (fun b ys q n => ?_) (fun b ys q n => ?_) (fun b o z q n => ?_) _ _ t) (h.2 d po)⟩
    · have hb : b ≠ l := fun z => by rw [z, hl'] at q; cases q
      exact ⟨by rw [upd_ne hb]; exact q, fun z => n ⟨z, hb⟩⟩
    · have hb : b ≠ l := fun z => by rw [z, hl'] at q; cases q
      exact ⟨by rw [upd_ne hb]; exact q, fun z => n ⟨z, hb⟩⟩
    · have hb : b ≠ l := fun y => by
        rw [y, hl'] at q
        cases q
        rcases z with z | ⟨_, _, _, z⟩
        · exact z
        · cases z
      exact ⟨by rw [upd_ne hb]; exact q, fun z => n ⟨z, hb⟩⟩
/-- the same from a slot that is locked already -/
theorem w_callFf {x y qual : Str} {st : Stmt} {k i : Nat} {p2 : Pos} {ps : List Str} {kvs : List (D × D)} {Pre : List (D × D) → Prop} {Post : List (D × D) → D → Prop} (hk : Kn X.prog X.w X.K X.mg X.base x qual st k ps (Fz F.w Pre Post)) (hr : Rm k X.A) (hg : Gl X x)
    (hd : es[i]? = some (.fd kvs)) (h : Pre kvs ∧ ∀ d, Post kvs d → Φ d) (hN : X.N[i]? = some y := by rfl) (hv : Vis X.env.scope y := by first | exact Or.inl rfl | exact Or.inr (Or.inl rfl) | exact Or.inr (Or.inr rfl))
    (hdb : (x == ("__debug__" : Str)) = false := by decide) (hdy : (y == ("__debug__" : Str)) = false := by decide) (hcy : (y == ("__classdict__" : Str)) = false := by decide)
    (he : starEach [.Name y p2] X.env = (false, eval (.Name y p2) X.env) :: starEach [] X.env := by rfl) (hpl : (backTo pos (starEach [] X.env)).any (·.1) = false := by rfl) : W F X (.Call (.Name x p) [.Name y p2] [] pos) es Φ := fun σ H s Q k' => by
  obtain ⟨f, fd, hF, hm, hf, hb⟩ := hk.ex
  refine ⟨_, pe_callG hF hr hg hm hf.kp hb (pa_cons (pv i hN hv hdy hcy) pa_nil he) hdb he hpl, ?_⟩
  obtain ⟨l, od, xs, q1, q2, q4, q3⟩ := s.fd i _ hd
  exact ⟨.ref l, q1, Mx F σ es, l, od, xs, kvs, rfl, s.kn, q2, q4, q3, h.1, fun v d H' e t po => k' v d H' (s.grow e) (ExM.of e) t (h.2 d po)⟩
end
section
variable {P : Program} {w : World} {K : PySem.W.Frag} {mg : Str → Option Value} {base : Heap} {x qual : Str} {st : Stmt} {f : Addr} {fd : FuncData} {N ps : List Str} {k : Nat}
theorem ok_fz {Pre : List (D × D) → Prop} {Post : List (D × D) → D → Prop} (F : Fun K x qual st f fd) (S : FnScope N ps (defScope st)) (hp1 : ps.length = 1) (hN : ps.length ≤ N.length := by decide)
    (h : ∀ (cdv : Value) (A : Around) (outer : List Env) (s : Shared) (H : Hp) (E : XK), Rm k (A.deeper (envOfC qual (defScope st) s.heap.objs.size f cdv)) → ∀ (F : Fc) (kvs : List (D × D)), F.w = w → Pre kvs →
      WB F (Xf P w K mg base N qual st f cdv A outer s H E) (defBody st) (es0f N kvs) { nx := fun _ => Post kvs .none, rt := Post kvs }) : FnG P w K mg base (k + 1) f fd ps (Fz w Pre Post) := by
  refine ok_g F S (fun vs H Q E hs => ?_) (fun cdv A outer s H vs Q E hr hs => ⟨_, can_b, ?_⟩)
  · obtain ⟨M, l, od, xs, kvs, rfl, _⟩ := hs
    exact hp1.symm
  · obtain ⟨M, l, od, xs, kvs, rfl, kn, hl, nl, kv, hp, q⟩ := hs
    have noAt : ∀ (i : Nat) e, (es0f N kvs)[i]? = some e → isOwn e = false ∧ e ≠ .dk ∧ (∀ d, e ≠ .d d) ∧ ∀ kvs', e = .fd kvs' → i = 0 ∧ kvs' = kvs := fun i e h => by
      cases i with
      | zero => cases h; exact ⟨rfl, (fun z => nomatch z), (fun _ z => nomatch z), fun _ z => by cases z; exact ⟨rfl, rfl⟩⟩
      | succ i =>
        have h : (List.replicate (N.length - 1) Sl.no)[i]? = some e := h
        rw [List.getElem?_replicate] at h
        split at h
        · cases h; exact ⟨rfl, (fun z => nomatch z), (fun _ z => nomatch z), fun _ z => nomatch z⟩
        · cases h
    have no : ∀ (i : Nat) e, (es0f N kvs)[i]? = some e → isOwn e = false := fun i e h => (noAt i e h).1
    have sg : Sg (FcP w M H kn) H (L2.start N [.ref l]) (es0f N kvs) := by
      refine ⟨?_, ExM.refl, fun _ _ _ q => q, fun i y hi => absurd rfl ((noAt i _ hi).2.2.1 y), fun i e hi z => ?_, fun i j e e' l h1 _ z => ?_, fun i hi => absurd rfl (noAt i _ hi).2.1, fun i kvs' hi => ?_⟩
      · unfold es0f L2.start
        simp
      · rw [no i e hi] at z; cases z
      · rw [no i e h1] at z; cases z
      · obtain ⟨rfl, rfl⟩ := (noAt i _ hi).2.2.2 _ rfl
        exact ⟨l, od, xs, start_at rfl, hl, fun z => nl (mx_none (F := FcP w M H kn) no l z), KvOk.move (fun b o q n => ⟨q, fun z => n (mx_none (F := FcP w M H kn) no b z)⟩) kv⟩
    have fin : ∀ v d H', ExM M H H' → (FcP w M H kn).ok H' → Dt M H' v d → Post kvs d → Q v H' := fun v d H' x ok t po => q v d H' (fun b o e => by
      by_cases hm : M b
      · exact ok b o hm e
      · exact x b o e hm) t po
    refine h cdv A outer s H E hr (FcP w M H kn) kvs rfl hp (L2.start N [.ref l]) H _ sg ⟨fun σ' H' es' s' _ po => ?_, fun v d H' x ok t po => fin v d H' x ok t po, fun _ _ _ _ _ z => z.elim, fun _ _ _ _ _ z => z.elim⟩
    exact fin .non .none H' s'.ext s'.ok .non po
end
end DW
namespace DW
open PySem PySem.W L2 RZ PyProof.Rows
/-! ### calls with keywords -/
def perm {α : Type} (d : α) (ix : List Nat) (xs ys : List α) : List α := ix.map fun i => (xs ++ ys).getD i d
theorem vals_getD {vs : List V} {us : List Value} (h : Vals vs us) (i : Nat) : RelV (vs.getD i .non) (us.getD i .none) := by
  by_cases hi : i < vs.length
  · obtain ⟨u, h1, h2⟩ := h.get (List.getElem?_eq_getElem hi)
    rw [List.getD_eq_getElem?_getD, List.getD_eq_getElem?_getD, h1, List.getElem?_eq_getElem hi]
    exact h2
  · rw [List.getD_eq_getElem?_getD, List.getD_eq_getElem?_getD, List.getElem?_eq_none (by omega), List.getElem?_eq_none (by rw [← h.length]; omega)]
    rfl
theorem vals_perm {vs zs : List V} {us ws : List Value} (r : Vals vs us) (q : Vals zs ws) : ∀ ix : List Nat, Vals (perm .non ix vs zs) (perm .none ix us ws)
  | [] => .nil
  | i :: ix => .cons (vals_getD (r.append q) i) (vals_perm r q ix)
theorem dta_getD {M : Addr → Prop} {H : Hp} {vs : List V} {ds : List D} (h : DtA M H vs ds) (i : Nat) : Dt M H (vs.getD i .non) (ds.getD i .none) := by
  cases e : ds[i]? with
  | some d =>
    obtain ⟨v, h1, h2⟩ := h.get e
    rw [List.getD_eq_getElem?_getD, List.getD_eq_getElem?_getD, h1, e]
    exact h2
  | none =>
    have hi : ds.length ≤ i := List.getElem?_eq_none_iff.mp e
    rw [List.getD_eq_getElem?_getD, List.getD_eq_getElem?_getD, e, List.getElem?_eq_none (by rw [h.length]; exact hi)]
    exact .non
theorem dta_perm {M : Addr → Prop} {H : Hp} {vs zs : List V} {ds ys : List D} (r : DtA M H vs ds) (q : DtA M H zs ys) : ∀ ix : List Nat, DtA M H (perm .non ix vs zs) (perm .none ix ds ys)
  | [] => .nil
  | i :: ix => .cons (dta_getD (r.append q) i) (dta_perm r q ix)
def KwOk (K : PySem.W.Frag) (fd : FuncData) (ps ks : List Str) (n : Nat) (ix : List Nat) : Prop := ∀ (s : Shared) (us ws : List Value), K.In s.heap → us.length = n → ws.length = ks.length → BindsTo s fd ⟨us, ks.zip ws⟩ (ps.zip (perm .none ix us ws))
theorem kw_ok {K : PySem.W.Frag} {x qual : Str} {st : Stmt} {f : Addr} {fd : FuncData} {ps ks : List Str} {n : Nat} {ix : List Nat} (F : Fun K x qual st f fd)
    (h : ∀ (kV doc pm : Value) (an : Option Addr) (cdv ct : Value) (us ws : List Value), us.length = n → ws.length = ks.length → bindArgs (PySem.W.fnOf x qual (defArgs st) (defBody st) (defScope st) .none kV doc pm an cdv ct) ⟨us, ks.zip ws⟩ = pure (ps.zip (perm .none ix us ws))) : KwOk K fd ps ks n ix := by
  obtain ⟨oc, od, kV, doc, pm, an, cdv, ct, osl, rfl, lk, hcd⟩ := F.ex
  exact fun s us ws _ h1 h2 => .of_eq (h kV doc pm an cdv ct us ws h1 h2)
def tCallGK (sp : Sp) (n m : Nat) (ix : List Nat) (t tk : TA) : TE := fun σ H Q => t σ H fun vs H1 => tk σ H1 fun zs H2 => vs.length = n ∧ zs.length = m ∧ sp (perm .non ix vs zs) H2 Q E0
section
variable {X : Cx} {k n : Nat} {ix : List Nat} {f : Addr} {fd : FuncData} {ps ks : List Str} {sp : Sp} {x : Str} {p pos : Pos} {e : Expr} {es : List Expr} {kws : List Keyword} {t tk : TA}
theorem pe_callGK (F : FnG X.prog X.w X.K X.mg X.base k f fd ps sp) (hr : Rm k X.A) (hg : Gl X x) (hm : X.mg x = some (.ref f)) (hk : PySem.W.keepIn X.K (.ref f) = true) (hb : KwOk X.K fd ps ks n ix) (ha : PA X (e :: es) t) (hkw : PK X kws tk)
    (hall : (backToKw pos (keywordEach kws X.env)).all (·.1.isSome) = true := by rfl) (hks : (backToKw pos (keywordEach kws X.env)).filterMap (·.1) = ks := by rfl) (hdb : (x == ("__debug__" : Str)) = false := by decide)
    (he : starEach (e :: es) X.env = (false, eval e X.env) :: starEach es X.env := by rfl) (hpl : ((backTo pos (starEach (e :: es) X.env)).any (·.1) || (backToKw pos (keywordEach kws X.env)).any (·.1.isNone)) = false := by rfl) :
    PE X (.Call (.Name x p) (e :: es) kws pos) (tCallGK sp n ks.length ix t tk) := by
  refine ⟨fun pins s σ H Q I h => wpAny_Call_Name_kw (ld_glob I hg hm ?_ hdb)⟩
  refine PySem.W.callWith_KW (h₀ := X.base) I.ok.mod.kin hk hall (thn (ha.run pos pins s σ H _ I h) fun us s1 ⟨vs, H1, I1, r, q⟩ => ?_) hpl he
  refine thn (hkw.run pos pins s1 σ H1 _ I1 q) fun ws s2 ⟨zs, H2, I2, rz, h1, h2, h3⟩ => ⟨I2.kIn, ?_⟩
  rw [hks]
  exact wpAny_call (end_g (run_g F hr (hb s2 us ws I2.kIn (by rw [← r.length]; exact h1) (by rw [← rz.length]; exact h2)) I2 (vals_perm r rz ix) h3))
theorem pe_callGK0 (F : FnG X.prog X.w X.K X.mg X.base k f fd ps sp) (hr : Rm k X.A) (hg : Gl X x) (hm : X.mg x = some (.ref f)) (hk : PySem.W.keepIn X.K (.ref f) = true) (hb : KwOk X.K fd ps ks 0 ix) (hkw : PK X kws tk)
    (hall : (backToKw pos (keywordEach kws X.env)).all (·.1.isSome) = true := by rfl) (hks : (backToKw pos (keywordEach kws X.env)).filterMap (·.1) = ks := by rfl) (hdb : (x == ("__debug__" : Str)) = false := by decide)
    (hpl : ((backTo pos (starEach [] X.env)).any (·.1) || (backToKw pos (keywordEach kws X.env)).any (·.1.isNone)) = false := by rfl) :
    PE X (.Call (.Name x p) [] kws pos) (tCallGK sp 0 ks.length ix tNil tk) := by
  refine ⟨fun pins s σ H Q I h => wpAny_Call_Name_kw (ld_glob I hg hm ?_ hdb)⟩
  refine PySem.W.callWith_KW0 (h₀ := X.base) I.ok.mod.kin hk hall (thn (hkw.run pos pins s σ H _ I h) fun ws s2 ⟨zs, H2, I2, rz, h1, h2, h3⟩ => ⟨I2.kIn, ?_⟩) hpl
  rw [hks]
  exact wpAny_call (end_g (run_g F hr (hb s2 [] ws I2.kIn rfl (by rw [← rz.length]; exact h2)) I2 (vals_perm .nil rz ix) h3))
end
def canK (X : Cx) (kws : List Keyword) : TA := fun σ H Q => ∃ t, PK X kws t ∧ t σ H Q
theorem can_k {X : Cx} {kws : List Keyword} : PK X kws (canK X kws) := ⟨fun pos pins s σ H Q I ⟨t, ht, q⟩ => ht.run pos pins s σ H Q I q⟩
def WK (F : Fc) (X : Cx) (kws : List Keyword) (es : List Sl) (Φ : List D → Prop) : Prop := ∀ σ H, Sg F H σ es → ∀ Q : List V → Hp → Prop, BhA F σ es H Φ Q → canK X kws σ H Q
section
variable {F : Fc} {X : Cx} {e a b c : Expr} {es : List Sl} {Φ : D → Prop} {K : Ek} {pos p pos' pn apos cpos kpos : Pos} {s : Stmt} {ss : List Stmt} {H H' : Hp} {σ : L2.St} {kws : List Keyword} {nm : Option Str}
theorem wk_nil {Ψ : List D → Prop} (q : Ψ []) : WK F X [] es Ψ := fun σ H s Q k => ⟨_, pk_nil, k [] [] H s ExM.refl .nil q⟩
theorem wk_cons {Ψ : List D → Prop} (h : W F X a es fun x => WK F X kws es fun xs => Ψ (x :: xs)) : WK F X (⟨nm, a, kpos⟩ :: kws) es Ψ := fun σ H s Q k => by
  refine ⟨_, pk_cons can_e can_k, ?_⟩
  refine h σ H s _ fun v x H1 s1 x1 t1 hb => ?_
  exact hb σ H1 s1 _ fun vs xs H2 s2 x2 t2 q => k _ _ H2 s2 (x1.trans' x2) (.cons (t1.mono (x2.mx)) t2) q
theorem w_callK {x qual : Str} {st : Stmt} {k n : Nat} {ix : List Nat} {ps ks : List Str} {Pre : List D → Prop} {Post : List D → D → Prop} {r : List Expr} (hk : Kn X.prog X.w X.K X.mg X.base x qual st k ps (Pu Pre Post)) (hr : Rm k X.A) (hg : Gl X x)
    (hb : ∀ f fd, Fun X.K x qual st f fd → KwOk X.K fd ps ks n ix)
    (h : WA F X (a :: r) es fun ds => WK F X kws es fun zs => ds.length = n ∧ zs.length = ks.length ∧ Pre (perm .none ix ds zs) ∧ ∀ d, Post (perm .none ix ds zs) d → Φ d)
    (hall : (backToKw pos (keywordEach kws X.env)).all (·.1.isSome) = true := by rfl) (hks : (backToKw pos (keywordEach kws X.env)).filterMap (·.1) = ks := by rfl) (hdb : (x == ("__debug__" : Str)) = false := by decide)
    (he : starEach (a :: r) X.env = (false, eval a X.env) :: starEach r X.env := by rfl) (hpl : ((backTo pos (starEach (a :: r) X.env)).any (·.1) || (backToKw pos (keywordEach kws X.env)).any (·.1.isNone)) = false := by rfl) :
    W F X (.Call (.Name x p) (a :: r) kws pos) es Φ := fun σ H s Q k' => by
  obtain ⟨f, fd, hF, hm, hf, _⟩ := hk.ex
  refine ⟨_, pe_callGK hF hr hg hm hf.kp (hb f fd hf) can_a can_k hall hks hdb he hpl, ?_⟩
  refine h σ H s _ fun vs ds H1 s1 x1 t1 hw => ?_
  refine hw σ H1 s1 _ fun us zs H2 s2 x2 t2 ⟨h1, h2, hp, q⟩ => ?_
  refine ⟨by rw [t1.length]; exact h1, by rw [t2.length]; exact h2, Mx F σ es, _, s2.kn, dta_perm (t1.mono x2.mx) t2 ix, hp, fun v d H' e t po => ?_⟩
  exact k' v d H' (s2.grow e) ((x1.trans' x2).trans' (ExM.of e)) t (q d po)
theorem w_callK0 {x qual : Str} {st : Stmt} {k : Nat} {ix : List Nat} {ps ks : List Str} {Pre : List D → Prop} {Post : List D → D → Prop} (hk : Kn X.prog X.w X.K X.mg X.base x qual st k ps (Pu Pre Post)) (hr : Rm k X.A) (hg : Gl X x)
    (hb : ∀ f fd, Fun X.K x qual st f fd → KwOk X.K fd ps ks 0 ix)
    (h : WK F X kws es fun zs => zs.length = ks.length ∧ Pre (perm .none ix [] zs) ∧ ∀ d, Post (perm .none ix [] zs) d → Φ d)
    (hall : (backToKw pos (keywordEach kws X.env)).all (·.1.isSome) = true := by rfl) (hks : (backToKw pos (keywordEach kws X.env)).filterMap (·.1) = ks := by rfl) (hdb : (x == ("__debug__" : Str)) = false := by decide)
    (hpl : ((backTo pos (starEach [] X.env)).any (·.1) || (backToKw pos (keywordEach kws X.env)).any (·.1.isNone)) = false := by rfl) :
    W F X (.Call (.Name x p) [] kws pos) es Φ := fun σ H s Q k' => by
  obtain ⟨f, fd, hF, hm, hf, _⟩ := hk.ex
  refine ⟨_, pe_callGK0 hF hr hg hm hf.kp (hb f fd hf) can_k hall hks hdb hpl, ?_⟩
  refine h σ H s _ fun us zs H2 s2 x2 t2 ⟨h2, hp, q⟩ => ?_
  refine ⟨rfl, by rw [t2.length]; exact h2, Mx F σ es, _, s2.kn, dta_perm .nil t2 ix, hp, fun v d H' e t po => ?_⟩
  exact k' v d H' (s2.grow e) (x2.trans' (ExM.of e)) t (q d po)
end
end DW
namespace DW
open PySem PySem.W L2 RZ PyProof.Rows
section
variable {F : Fc} {X : Cx} {e a b c : Expr} {es : List Sl} {Φ : D → Prop} {K : Ek} {pos p pos' pn apos cpos : Pos} {s : Stmt} {ss : List Stmt} {H H' : Hp} {σ : L2.St}
/-- a new object that was made on the way stands under the owned -/
theorem Sg.plus2 (s0 : Sg F H σ es) (s : Sg F H' σ es) (ex : ExM F.M0 H H') {q : Addr} {o : HO} (hn : H q = none) (hq : H' q = some o) : Sg (F.plus q o fun z => s0.fresh hn (.inl z)) H' σ es := by
  have mv : ∀ b u, H b = some u → ¬ Mx F σ es b → H' b = some u ∧ ¬ Mx (F.plus q o fun z => s0.fresh hn (.inl z)) σ es b := fun b u e n => by
    refine ⟨ex.mx b u e n, fun z => ?_⟩
    rcases z with (z | z) | z
    · exact n (.inl z)
    · exact ne_of_none e hn z
    · exact n (.inr z)
  refine ⟨s.len, fun b u q n => s.ext b u q fun z => n (.inl z), ⟨s.ok, hq⟩, fun i x e => ?_, fun i x e z => ?_, s.inj, s.dk, fun i kvs e => ?_⟩
  · obtain ⟨v, r1, r2⟩ := s0.dat i x e
    exact ⟨v, r1, r2.move mv⟩
  · obtain ⟨l, r1, ⟨r2, r3⟩, ⟨u, r4⟩, r5⟩ := s0.own i x e z
    exact ⟨l, r1, ⟨r2, fun z => z.elim r3 (ne_of_none r4 hn)⟩, ⟨u, ex l u r4 r3⟩, r5.move mv fun o e => ex l o e r3⟩
  · obtain ⟨l, od, xs, q1, q2, q4, q3⟩ := s0.fd i kvs e
    exact ⟨l, od, xs, q1, (mv l _ q2 q4).1, (mv l _ q2 q4).2, KvOk.move mv q3⟩
/-! ### x, y = a, b -/
theorem ws_par {i j : Nat} {x y : Str} {px py pt : Pos} {kt k2 pt2} (hc : X.calm = true) (hN : X.N.Nodup) (hi : X.N[i]? = some x) (hj : X.N[j]? = some y) (hij : i ≠ j) (hx : X.env.scope.names.lookup x = some .local) (hy : X.env.scope.names.lookup y = some .local)
    (hli : i < es.length) (hlj : j < es.length) (hsa : starEach [a, b] X.env = (false, eval a X.env) :: starEach [b] X.env := by rfl) (hsb : starEach [b] X.env = (false, eval b X.env) :: starEach [] X.env := by rfl)
    (h : W F X a es fun d => W F X b es fun d' => K.nx ((es.set i (.d d)).set j (.d d'))) (hw : swappedStores [.Tuple [.Name x px, .Name y py] kt pt] (.Tuple [a, b] k2 pt2) X.env = pure (some [x, y]) := by rfl)
    (hs : swapsWithSole [.Tuple [.Name x px, .Name y py] kt pt] (.Tuple [a, b] k2 pt2) pos.line X.env = pure false := by rfl) : WS F X (.Assign [.Tuple [.Name x px, .Name y py] kt pt] (.Tuple [a, b] k2 pt2) pos) es K := fun σ H D s g => by
  refine ⟨_, ps_par hc hN hi hj hij hx hy (pa_cons can_e (pa_cons can_e pa_nil hsb) hsa) hw hs, ?_⟩
  refine h σ H s _ fun v d H1 s1 x1 t1 hb => ?_
  refine hb σ H1 s1 _ fun u d' H2 s2 x2 t2 q => ⟨v, u, rfl, ?_⟩
  have s3 := s2.set hli (t1.mono x2.mx)
  exact g.nx _ H2 _ (s3.set (by rw [List.length_set]; exact hlj) ((Tr.set).dt t2)) (((Tr.of (x1.trans' x2).mx).trans Tr.set).trans Tr.set) q
/-- x, y = {}, b -/
theorem ws_parD1 {i j : Nat} {x y : Str} {px py pt pd : Pos} {kt k2 pt2} (hw0 : F.w = X.w) (hc : X.calm = true) (hN : X.N.Nodup) (hi : X.N[i]? = some x) (hj : X.N[j]? = some y) (hij : i ≠ j) (hx : X.env.scope.names.lookup x = some .local) (hy : X.env.scope.names.lookup y = some .local)
    (hli : i < es.length) (hlj : j < es.length) (hsa : starEach [.Dict [] [] pd, b] X.env = (false, eval (.Dict [] [] pd) X.env) :: starEach [b] X.env := by rfl) (hsb : starEach [b] X.env = (false, eval b X.env) :: starEach [] X.env := by rfl)
    (h : W F X b es fun d' => K.nx ((es.set i (.od [])).set j (.d d'))) (hw : swappedStores [.Tuple [.Name x px, .Name y py] kt pt] (.Tuple [.Dict [] [] pd, b] k2 pt2) X.env = pure (some [x, y]) := by rfl)
    (hs : swapsWithSole [.Tuple [.Name x px, .Name y py] kt pt] (.Tuple [.Dict [] [] pd, b] k2 pt2) pos.line X.env = pure false := by rfl) : WS F X (.Assign [.Tuple [.Name x px, .Name y py] kt pt] (.Tuple [.Dict [] [] pd, b] k2 pt2) pos) es K := fun σ H D s g => by
  refine ⟨_, ps_par hc hN hi hj hij hx hy (pa_cons pe_newND (pa_cons can_e pa_nil hsb) hsa) hw hs, fun l hl => ?_⟩
  have s0 := s.new (o := ND X.w l []) hl
  refine h σ _ s0 _ fun u d' H2 s2 x2 t2 q => ⟨.ref l, u, rfl, ?_⟩
  have x3 : ExM F.M0 H H2 := (ExM.new hl).trans' x2
  have hl2 : H2 l = some (ND X.w l []) := x2 l _ upd_same fun z => s.fresh hl (.inl z)
  obtain ⟨s3, t3⟩ := (s.plus2 s2 x3 hl hl2).adopt (s.fresh0 hl) (x := .od []) hli rfl ⟨[], by rw [hw0]; exact hl2, .nil⟩
  have nl : ∀ b o, H2 b = some o → ¬ Mx F σ es b → b ≠ l → ¬ Mx F (σ.set i (some (.ref l))) (es.set i (.od [])) b := fun b o e n hb => t3 b fun z => by
    rcases z with (z | z) | z
    · exact n (.inl z)
    · exact hb z
    · exact n (.inr z)
  have t4 : Dt (Mx F (σ.set i (some (.ref l))) (es.set i (.od []))) H2 u d' := Dt.moveT (fun b ys e n => ⟨e, nl b _ e n fun z => by rw [z, hl2] at e; cases e⟩) (fun b ys e n => ⟨e, nl b _ e n fun z => by rw [z, hl2] at e; cases e⟩) (fun b o z e n => ⟨e, nl b _ e n fun y => by
    rw [y, hl2] at e
    cases e
    rcases z with z | ⟨_, _, _, z⟩
    · exact z
    · cases z⟩) _ _ t2
  have tr : Tr F H σ es H2 (σ.set i (some (.ref l))) (es.set i (.od [])) := fun b o e n => ⟨x3.mx b o e n, nl b o (x3.mx b o e n) n (ne_of_none e hl)⟩
  exact g.nx _ H2 _ (s3.set (by rw [List.length_set]; exact hlj) t4) (tr.trans Tr.set) q
/-- x, y = a, {} -/
theorem ws_parD2 {i j : Nat} {x y : Str} {px py pt pd : Pos} {kt k2 pt2} (hw0 : F.w = X.w) (hc : X.calm = true) (hN : X.N.Nodup) (hi : X.N[i]? = some x) (hj : X.N[j]? = some y) (hij : i ≠ j) (hx : X.env.scope.names.lookup x = some .local) (hy : X.env.scope.names.lookup y = some .local)
    (hli : i < es.length) (hlj : j < es.length) (hsa : starEach [a, .Dict [] [] pd] X.env = (false, eval a X.env) :: starEach [.Dict [] [] pd] X.env := by rfl) (hsb : starEach [.Dict [] [] pd] X.env = (false, eval (.Dict [] [] pd) X.env) :: starEach [] X.env := by rfl)
    (h : W F X a es fun d => K.nx ((es.set i (.d d)).set j (.od []))) (hw : swappedStores [.Tuple [.Name x px, .Name y py] kt pt] (.Tuple [a, .Dict [] [] pd] k2 pt2) X.env = pure (some [x, y]) := by rfl)
    (hs : swapsWithSole [.Tuple [.Name x px, .Name y py] kt pt] (.Tuple [a, .Dict [] [] pd] k2 pt2) pos.line X.env = pure false := by rfl) : WS F X (.Assign [.Tuple [.Name x px, .Name y py] kt pt] (.Tuple [a, .Dict [] [] pd] k2 pt2) pos) es K := fun σ H D s g => by
  refine ⟨_, ps_par hc hN hi hj hij hx hy (pa_cons can_e (pa_cons pe_newND pa_nil hsb) hsa) hw hs, ?_⟩
  refine h σ H s _ fun v d H1 s1 x1 t1 q => fun l hl => ⟨v, .ref l, rfl, ?_⟩
  have s2 := s1.set hli t1
  obtain ⟨s3, t3⟩ := s2.bear (o := ND X.w l []) (x := .od []) (i := j) (by rw [List.length_set]; exact hlj) rfl hl fun M _ => ⟨[], by rw [hw0]; exact upd_same, .nil⟩
  exact g.nx _ _ _ s3 (((Tr.of x1.mx).trans Tr.set).trans t3) q
/-- x, y = a new list, a new list -/
theorem ws_parLL {i j : Nat} {x y : Str} {px py pt : Pos} {kt k2 pt2} (hc : X.calm = true) (hN : X.N.Nodup) (hi : X.N[i]? = some x) (hj : X.N[j]? = some y) (hij : i ≠ j) (hx : X.env.scope.names.lookup x = some .local) (hy : X.env.scope.names.lookup y = some .local)
    (hli : i < es.length) (hlj : j < es.length) (nf : ∀ (j : Nat) kvs, es[j]? ≠ some (.fd kvs)) (hsa : starEach [a, b] X.env = (false, eval a X.env) :: starEach [b] X.env := by rfl) (hsb : starEach [b] X.env = (false, eval b X.env) :: starEach [] X.env := by rfl)
    (h : WL F X a es fun ds => ∀ F' : Fc, F'.w = F.w → WL F' X b es fun ds' => K.nx ((es.set i (.own ds)).set j (.own ds'))) (hw : swappedStores [.Tuple [.Name x px, .Name y py] kt pt] (.Tuple [a, b] k2 pt2) X.env = pure (some [x, y]) := by rfl)
    (hs : swapsWithSole [.Tuple [.Name x px, .Name y py] kt pt] (.Tuple [a, b] k2 pt2) pos.line X.env = pure false := by rfl) : WS F X (.Assign [.Tuple [.Name x px, .Name y py] kt pt] (.Tuple [a, b] k2 pt2) pos) es K := fun σ H D s g => by
  refine ⟨_, ps_par hc hN hi hj hij hx hy (pa_cons can_e (pa_cons can_e pa_nil hsb) hsa) hw hs, ?_⟩
  refine h σ H s _ fun l xs ds H1 s1 x1 hn hl t1 hb => ?_
  have sp := s.plus2 s1 x1 hn hl
  refine hb (F.plus l (.lst xs) fun z => s.fresh hn (.inl z)) rfl σ H1 sp _ fun m ys ds' H2 s2 x2 hm hm2 t2 q => ⟨.ref l, .ref m, rfl, ?_⟩
  have wk : ∀ b, Mx F σ es b ∨ b = l → Mx (F.plus l (.lst xs) fun z => s.fresh hn (.inl z)) σ es b := fun b z => z.elim (fun z => z.elim (fun z => .inl (.inl z)) .inr) fun z => .inl (.inr z)
  have kw : ∀ b, Mx (F.plus l (.lst xs) fun z => s.fresh hn (.inl z)) σ es b → Mx F σ es b ∨ b = l := fun b z => by
    rcases z with (z | z) | z
    · exact .inl (.inl z)
    · exact .inr z
    · exact .inl (.inr z)
  have t1p : DtA (Mx (F.plus l (.lst xs) fun z => s.fresh hn (.inl z)) σ es) H1 xs ds := t1.weak kw
  obtain ⟨a1, k1⟩ := sp.adopt (s.fresh0 hn) (x := .own ds) hli rfl ⟨xs, hl, t1p⟩
  obtain ⟨a2, k2⟩ := s2.adopt (s.fresh0 hn) (x := .own ds) hli rfl ⟨xs, s2.ok.2, t1p.mono x2.mx⟩
  have x2' : ExM F.M0 H1 H2 := fun b o e n => by
    by_cases z : b = l
    · subst z
      rw [hl] at e
      cases e
      exact s2.ok.2
    · exact x2 b o e fun y => y.elim n z
  have nf' : ∀ (j : Nat) kvs, (es.set i (.own ds))[j]? ≠ some (.fd kvs) := fun j kvs e => by
    by_cases z : i = j
    · subst z
      rw [List.getElem?_set_self hli] at e
      cases e
    · rw [List.getElem?_set_ne z] at e
      exact nf j kvs e
  have nl : ∀ b, ¬ (Mx (F.plus l (.lst xs) fun z => s.fresh hn (.inl z)) σ es b ∨ b = m) → ¬ (Mx F (σ.set i (some (.ref l))) (es.set i (.own ds)) b ∨ b = m) := fun b n z => z.elim (k1 b fun y => n (.inl y)) fun y => n (.inr y)
  obtain ⟨s4, t4⟩ := a1.bear2 a2 x2' nf' (i := j) (by rw [List.length_set]; exact hlj) hm hm2 (DtA.move (fun b o e n => ⟨e, nl b n⟩) _ _ t2)
  have tr : Tr F H σ es H1 (σ.set i (some (.ref l))) (es.set i (.own ds)) := fun b o e n => ⟨x1.mx b o e n, k1 b fun z => (kw b z).elim n (ne_of_none e hn)⟩
  exact g.nx _ H2 _ s4 (tr.trans t4) q
/-! len of one's own list -/
theorem w_lenO {i : Nat} {f x : Str} {ds : List D} (he : es[i]? = some (.own ds)) (hg : Gl X f) (hm : X.mg f = none) (hv0 : bootBuiltins f = some (.builtin "len")) (h : Φ (.int ds.length))
    (hN : X.N[i]? = some x := by rfl) (hv : Vis X.env.scope x := by first | exact Or.inl rfl | exact Or.inr (Or.inl rfl) | exact Or.inr (Or.inr rfl)) (hn : f ≠ "__name__" := by decide) (hdb : (f == ("__debug__" : Str)) = false := by decide)
    (hst : starEach [.Name x pn] X.env = (false, eval (.Name x pn) X.env) :: starEach [] X.env := by rfl) (hpl : (backTo pos (starEach [] X.env)).any (·.1) = false := by rfl) (hd : (x == ("__debug__" : Str)) = false := by decide) (hcd : (x == ("__classdict__" : Str)) = false := by decide) :
    W F X (.Call (.Name f p) [.Name x pn] [] pos) es Φ := fun σ H s Q k => by
  refine ⟨_, pe_callB call_len_seq hg hm hv0 (pa_cons (pv i hN hv hd hcd) pa_nil hst) hn hdb hst hpl, ?_⟩
  obtain ⟨l, q1, q0, _, xs, q2, q3⟩ := s.own i _ he rfl
  refine ⟨.ref l, q1, l, xs, rfl, .inl (SqL.of q2), ?_⟩
  refine k _ _ H s ExM.refl (.int _) ?_
  rw [q3.length]
  exact h
theorem dta_erase {M : Addr → Prop} {H : Hp} : ∀ {vs : List V} {ds : List D}, DtA M H vs ds → ∀ n : Nat, DtA M H (vs.eraseIdx n) (ds.eraseIdx n)
  | _, _, .nil, n => .nil
  | _, _, .cons r t, 0 => t
  | _, _, .cons r t, n + 1 => .cons r (dta_erase t n)
theorem not_lt_nat (n : Nat) : ¬ ((n : Int) < 0) := by omega
/-! y.append(x.pop(e)) -/
theorem ws_popApp {i j : Nat} {x y : Str} {ds es' : List D} {p1 p2 p3 p4 : Pos} (he : es[i]? = some (.own ds)) (hj : es[j]? = some (.own es')) (hij : i ≠ j) (hN : X.N[i]? = some x := by rfl) (hNj : X.N[j]? = some y := by rfl) (hv : Vis X.env.scope x := by first | exact Or.inl rfl | exact Or.inr (Or.inl rfl) | exact Or.inr (Or.inr rfl))
    (hvj : Vis X.env.scope y := by first | exact Or.inl rfl | exact Or.inr (Or.inl rfl) | exact Or.inr (Or.inr rfl)) (hl : es'.length < sizeLine)
    (h : W F X e es fun d => ∃ (n : Nat) (z : D), d = .int n ∧ n < 2 ^ 62 ∧ ds[n]? = some z ∧ K.nx ((es.set i (.own (ds.eraseIdx n))).set j (.own (es' ++ [z]))))
    (hm : ∀ {ta tb : TE}, PE X (.Name y p1) ta → PE X (.Call (.Attribute (.Name x p2) "pop" p3) [e] [] p4) tb → PE X (.Call (.Attribute (.Name y p1) "append" apos) [.Call (.Attribute (.Name x p2) "pop" p3) [e] [] p4] [] cpos) (tBM X.K "list" rAppend ta (tCons tb tNil)))
    (hm2 : ∀ {ta tb : TE}, PE X (.Name x p2) ta → PE X e tb → PE X (.Call (.Attribute (.Name x p2) "pop" p3) [e] [] p4) (tBM X.K "list" rPopAt ta (tCons tb tNil)))
    (hs : swapsWith (.Call (.Attribute (.Name y p1) "append" apos) [.Call (.Attribute (.Name x p2) "pop" p3) [e] [] p4] [] cpos) none pos.line X.env = pure false := by rfl) (hd : (x == ("__debug__" : Str)) = false := by decide) (hcd : (x == ("__classdict__" : Str)) = false := by decide)
    (hdy : (y == ("__debug__" : Str)) = false := by decide) (hcy : (y == ("__classdict__" : Str)) = false := by decide) :
    WS F X (.Expr (.Call (.Attribute (.Name y p1) "append" apos) [.Call (.Attribute (.Name x p2) "pop" p3) [e] [] p4] [] cpos) pos) es K := fun σ H D s g => by
  refine ⟨_, ps_expr (hm (pv j hNj hvj hdy hcy) (hm2 (pv i hN hv hd hcd) can_e)) hs, ?_⟩
  obtain ⟨m, r1, r0, _, zs, r2, r3⟩ := s.own j _ hj rfl
  obtain ⟨l, q1, q0, _, xs, q2, q3⟩ := s.own i _ he rfl
  refine ⟨.ref m, r1, .inl ⟨rfl, zs, SqL.of r2⟩, .ref l, q1, .inl ⟨rfl, xs, SqL.of q2⟩, ?_⟩
  refine h σ H s _ fun v d H' s' ex t ⟨n, z, ed, hn, hz, po⟩ => ?_
  subst ed
  obtain rfl := t.int_inv
  obtain ⟨l', u1, _, _, xs', u2, u3⟩ := s'.own i _ he rfl
  rw [q1] at u1
  cases u1
  obtain ⟨m', w1, _, _, zs', w2, w3⟩ := s'.own j _ hj rfl
  rw [r1] at w1
  cases w1
  have ml : m ≠ l := fun z => hij (by subst z; exact s'.inj i j _ _ m he hj rfl rfl q1 r1)
  obtain ⟨v, hv1, hv2⟩ := u3.get hz
  have hnl : n < ds.length := (List.getElem?_eq_some_iff.mp hz).1
  refine ⟨l, xs', n, n, v, rfl, rfl, u2, ?_, ?_, ?_, hv1, ?_⟩
  · exact Int.le_trans (by decide) (Int.natCast_nonneg n)
  · have : ((n : Nat) : Int) < 2 ^ 62 := by exact_mod_cast hn
    omega
  · rw [u3.length]
    unfold seqIndex?
    simp only [Int.natCast_nonneg, not_lt_nat, if_false]
    have h0 : (decide (((n : Nat) : Int) < ((ds.length : Nat) : Int))) = true := decide_eq_true (by exact_mod_cast hnl)
    rw [h0]
    rfl
  · obtain ⟨s2, t2⟩ := s'.turn (y := .own (ds.eraseIdx n)) (o := .lst (xs'.eraseIdx n)) he rfl rfl q1 (fun od u z => by rw [u2] at z; cases z) fun M hM => by
      refine ⟨xs'.eraseIdx n, upd_same, ?_⟩
      have mv : ∀ b u, H' b = some u → ¬ Mx F σ es b → upd H' l (.lst (xs'.eraseIdx n)) b = some u ∧ ¬ M b := fun b u e n => ⟨by rw [upd_ne fun z => n (by rw [z]; exact .inr ⟨i, _, he, rfl, q1⟩)]; exact e, fun z => n ((hM b).mp z)⟩
      exact DtA.move mv _ _ (dta_erase u3 n)
    have hj2 : (es.set i (.own (ds.eraseIdx n)))[j]? = some (.own es') := by rw [List.getElem?_set_ne hij]; exact hj
    obtain ⟨m', w1, _, _, zs', w2, w3⟩ := s2.own j _ hj2 rfl
    rw [r1] at w1
    cases w1
    refine ⟨m, zs', v, rfl, rfl, w2, by rw [w3.length]; exact hl, ?_⟩
    obtain ⟨s3, t3⟩ := s2.turn (y := .own (es' ++ [z])) (o := .lst (zs' ++ [v])) hj2 rfl rfl r1 (fun od u z => by rw [w2] at z; cases z) fun M hM => by
      refine ⟨zs' ++ [v], upd_same, ?_⟩
      have mv : ∀ b u, upd H' l (.lst (xs'.eraseIdx n)) b = some u → ¬ Mx F σ (es.set i (.own (ds.eraseIdx n))) b → upd (upd H' l (.lst (xs'.eraseIdx n))) m (.lst (zs' ++ [v])) b = some u ∧ ¬ M b := fun b u e n => ⟨by rw [upd_ne fun z => n (by rw [z]; exact .inr ⟨j, _, hj2, rfl, r1⟩)]; exact e, fun z => n ((hM b).mp z)⟩
      exact (DtA.move mv _ _ w3).append (.cons ((t2.dt hv2).move mv) .nil)
    exact g.nx _ _ _ s3 (((Tr.of ex.mx).trans t2).trans t3) po
end
end DW
namespace DW
open PySem PySem.W L2 RZ PyProof.Rows
/-! ### a def that adds to a number in the caller's dict -/
def AdN (w : World) : Sp := fun vs H Q _ => ∃ (M : Addr → Prop) (l : Addr) (xs : List NKV) (kvs : List (D × D)) (y : V) (kd : D) (n m : Int), vs = [.ref l, y, .int n] ∧ M l ∧ (∀ b, M b → ∃ o, H b = some o) ∧ H l = some (ND w l xs) ∧ Paired (KvOk M H) xs kvs ∧ kvs.length < sizeLine ∧ Dt M H y kd ∧ asKey kd = true ∧ (valD kvs kd).getD (.int 0) = .int m ∧
  ∀ H', (∀ b o, H b = some o → b ≠ l → H' b = some o) → (∃ xs', H' l = some (ND w l xs') ∧ Paired (KvOk M H') xs' (storedD kvs kd (.int (m + n)))) → Q .non H'
section
variable {F : Fc} {X : Cx} {e a b c : Expr} {es : List Sl} {Φ : D → Prop} {K : Ek} {pos p pos' pn apos cpos : Pos} {s : Stmt} {ss : List Stmt} {H H' : Hp} {σ : L2.St}
theorem ws_callAd {x y qual : Str} {st : Stmt} {k i : Nat} {p2 p4 : Pos} {ps : List Str} {kvs : List (D × D)} {ke ne : Expr} (hk : Kn X.prog X.w X.K X.mg X.base x qual st k ps (AdN F.w)) (hr : Rm k X.A) (hg : Gl X x) (hd : es[i]? = some (.od kvs)) (hz : kvs.length < sizeLine)
    (h : W F X ke es fun kd => W F X ne es fun nd => ∃ n m : Int, nd = .int n ∧ asKey kd = true ∧ (valD kvs kd).getD (.int 0) = .int m ∧ K.nx (es.set i (.od (storedD kvs kd (.int (m + n))))))
    (hN : X.N[i]? = some y := by rfl) (hv : Vis X.env.scope y := by first | exact Or.inl rfl | exact Or.inr (Or.inl rfl) | exact Or.inr (Or.inr rfl))
    (hdb : (x == ("__debug__" : Str)) = false := by decide) (hdy : (y == ("__debug__" : Str)) = false := by decide) (hcy : (y == ("__classdict__" : Str)) = false := by decide)
    (he : starEach [.Name y p2, ke, ne] X.env = (false, eval (.Name y p2) X.env) :: starEach [ke, ne] X.env := by rfl) (he2 : starEach [ke, ne] X.env = (false, eval ke X.env) :: starEach [ne] X.env := by rfl) (he3 : starEach [ne] X.env = (false, eval ne X.env) :: starEach [] X.env := by rfl)
    (hpl : (backTo p4 (starEach [ke, ne] X.env)).any (·.1) = false := by rfl) (hs : swapsWith (.Call (.Name x p) [.Name y p2, ke, ne] [] p4) none pos.line X.env = pure false := by rfl) :
    WS F X (.Expr (.Call (.Name x p) [.Name y p2, ke, ne] [] p4) pos) es K := fun σ H D s g => by
  obtain ⟨f, fd, hF, hm, hf, hb⟩ := hk.ex
  refine ⟨_, ps_expr (pe_callG hF hr hg hm hf.kp hb (pa_cons (pv i hN hv hdy hcy) (pa_cons can_e (pa_cons can_e pa_nil he3) he2) he) hdb he hpl) hs, ?_⟩
  obtain ⟨l, q1, q0, _, xs0, q2, q3⟩ := s.own i _ hd rfl
  refine ⟨.ref l, q1, ?_⟩
  refine h σ H s _ fun v kd H1 s1 x1 t1 h2 => ?_
  refine h2 σ H1 s1 _ fun u nd H2 s2 x2 t2 ⟨n, m, en, ak, vm, po⟩ => ?_
  subst en
  obtain rfl := t2.int_inv
  obtain ⟨l', r1, _, _, xs, r2, r3⟩ := s2.own i _ hd rfl
  rw [q1] at r1
  cases r1
  have lM : Mx F σ es l := .inr ⟨i, _, hd, rfl, q1⟩
  refine ⟨Mx F σ es, l, xs, kvs, v, kd, n, m, rfl, lM, s2.kn, r2, r3, hz, t1.mono x2.mx, ak, vm, fun H' ke' ⟨xs', e1, e2⟩ => ?_⟩
  have gr : ∀ b o, H2 b = some o → (fun b => if b = l then H2 b else H' b) b = some o := fun b o q => by
    by_cases hb : b = l
    · simp only [hb, if_true]; rw [hb] at q; exact q
    · simp only [hb, if_false]; exact ke' b o q hb
  have eqH : H' = upd (fun b => if b = l then H2 b else H' b) l (ND F.w l xs') := by
    funext b
    by_cases hb : b = l
    · rw [hb, upd_same, e1]
    · rw [upd_ne hb]; simp only [hb, if_false]
  have s3 := s2.grow gr
  have e2' : Paired (KvOk (Mx F σ es) (upd (fun b => if b = l then H2 b else H' b) l (ND F.w l xs'))) xs' (storedD kvs kd (.int (m + n))) := by rw [← eqH]; exact e2
  obtain ⟨s4, t4⟩ := s3.turn (y := .od (storedD kvs kd (.int (m + n)))) (o := ND F.w l xs') hd rfl rfl q1 (fun od u z => by
    have z : (if l = l then H2 l else H' l) = some (.frz od u) := z
    rw [if_pos rfl, r2] at z
    cases z) fun M hM => ⟨xs', upd_same, KvOk.move (fun b o q n => ⟨q, fun z => n ((hM b).mp z)⟩) e2'⟩
  rw [← eqH] at s4 t4
  exact g.nx _ _ _ s4 ((((Tr.of x1.mx).trans (Tr.of x2.mx)).trans (Tr.of (ExM.of gr))).trans t4) po
end
end DW
namespace DW
open PySem PySem.W L2 RZ PyProof.Rows
theorem ite2 {p : Prop} [Decidable p] {A B : Prop} (h1 : p → A) (h2 : ¬ p → B) : if decide p = true then A else B := by
  by_cases h : p
  · rw [if_pos (decide_eq_true h)]; exact h1 h
  · rw [if_neg (by rw [decide_eq_false h]; exact Bool.false_ne_true)]; exact h2 h
theorem iteN {p : Prop} [Decidable p] {A B : Prop} (h1 : ¬ p → A) (h2 : p → B) : if (!decide p) = true then A else B := by
  by_cases h : p
  · rw [decide_eq_true h]; exact h2 h
  · rw [decide_eq_false h]; exact h1 h
theorem iteB {k : Bool} {A B : Prop} (h1 : k = true → A) (h2 : k = false → B) : if k = true then A else B := by
  cases k with
  | true => exact h1 rfl
  | false => exact h2 rfl
theorem iteT {k : Bool} {A B : Prop} (h : k = true) (a : A) : if k = true then A else B := by rw [if_pos h]; exact a
theorem iteF {k : Bool} {A B : Prop} (h : k = false) (b : B) : if k = true then A else B := by rw [if_neg (by rw [h]; exact Bool.false_ne_true)]; exact b
theorem paired_snoc {α β : Type} {R : α → β → Prop} : ∀ {xs : List α} {ys : List β} {x : α} {y : β}, Paired R xs ys → R x y → Paired R (xs ++ [x]) (ys ++ [y])
  | _, _, _, _, .nil, r => .cons r .nil
  | _, _, _, _, .cons p t, r => .cons p (paired_snoc t r)
theorem paired_len {α β : Type} {R : α → β → Prop} : ∀ {xs : List α} {ys : List β}, Paired R xs ys → xs.length = ys.length
  | _, _, .nil => rfl
  | _, _, .cons _ t => by rw [List.length_cons, List.length_cons, paired_len t]
theorem paired_map {α β : Type} {g : α → β} : ∀ {xs : List α} {ys : List β}, Paired (fun x y => y = g x) xs ys → ys = xs.map g
  | _, _, .nil => rfl
  | _, _, .cons p t => by rw [List.map_cons, ← paired_map t, p]
theorem take_snoc {α : Type} {xs : List α} {i : Nat} {x : α} (h : xs[i]? = some x) : xs.take (i + 1) = xs.take i ++ [x] := by rw [List.take_add_one, h]; rfl
section
variable {F : Fc} {X : Cx} {es : List Sl} {elt tg iter c : Expr} {scope : Scope} {vs L : List Nat} {Ψ : List D → Prop}
theorem lc_map (R : D → D → Prop) (h : It1 F X tg iter es fun ds => ds.length ≤ sizeLine ∧ (∀ d, d ∈ ds → ∀ F' : Fc, F'.dk = F.dk → F'.w = F.w → ∀ s H C cl fp, TG1 F' (Bk X scope s H C cl fp) tg L (wipeS es vs) d fun es2 =>
    ∀ s H C cl fp, W F' (Bk X scope s H C cl fp) elt es2 fun r => R d r) ∧ ∀ out, Paired R ds out → Ψ out) : LcW F X elt tg iter [] scope vs L es Ψ := fun σ H sg Q k =>
  h σ H sg Q fun J G ds H' s' x g wk ⟨hl, turn, fin⟩ => k J G ds H' s' x g wk ⟨fun i acc => i ≤ ds.length ∧ Paired R (ds.take i) acc, ⟨Nat.zero_le _, .nil⟩, fun i d acc hd ⟨hi, pr⟩ => by
    have hlt : i < ds.length := (List.getElem?_eq_some_iff.mp hd).1
    have la := paired_len pr
    rw [List.length_take] at la
    refine ⟨by omega, fun F' e1 e2 s H C cl fp => ?_⟩
    intro σ2 H2 v s2 t2 Q2 k2
    refine turn d (List.mem_of_getElem? hd) F' e1 e2 s H C cl fp σ2 H2 v s2 t2 Q2 fun σ3 es3 s3 tr c1 c2 q3 => k2 σ3 es3 s3 tr c1 c2 fun s H C cl fp => ti_nil ?_
    rw [if_pos rfl]
    exact fun s H C cl fp => (q3 s H C cl fp).imp fun r hr => ⟨hlt, by rw [take_snoc hd]; exact paired_snoc pr hr⟩, fun acc ⟨_, pr⟩ => fin acc (by rw [List.take_length] at pr; exact pr)⟩
theorem lc_filt (p : D → Bool) (R : D → D → Prop) (h : It1 F X tg iter es fun ds => ds.length ≤ sizeLine ∧ (∀ d, d ∈ ds → ∀ F' : Fc, F'.dk = F.dk → F'.w = F.w → ∀ s H C cl fp, TG1 F' (Bk X scope s H C cl fp) tg L (wipeS es vs) d fun es2 =>
    (∀ s H C cl fp, T F' (Bk X scope s H C cl fp) c es2 fun k => k = p d) ∧ (p d = true → ∀ s H C cl fp, W F' (Bk X scope s H C cl fp) elt es2 fun r => R d r)) ∧ ∀ out, Paired R (ds.filter p) out → Ψ out) : LcW F X elt tg iter [c] scope vs L es Ψ := fun σ H sg Q k =>
  h σ H sg Q fun J G ds H' s' x g wk ⟨hl, turn, fin⟩ => k J G ds H' s' x g wk ⟨fun i acc => i ≤ ds.length ∧ Paired R ((ds.take i).filter p) acc, ⟨Nat.zero_le _, .nil⟩, fun i d acc hd ⟨hi, pr⟩ => by
    have hlt : i < ds.length := (List.getElem?_eq_some_iff.mp hd).1
    have la := paired_len pr
    have lf : ((ds.take i).filter p).length ≤ (ds.take i).length := List.length_filter_le _ _
    rw [List.length_take] at lf
    refine ⟨by omega, fun F' e1 e2 s H C cl fp => ?_⟩
    intro σ2 H2 v s2 t2 Q2 k2
    refine turn d (List.mem_of_getElem? hd) F' e1 e2 s H C cl fp σ2 H2 v s2 t2 Q2 fun σ3 es3 s3 tr c1 c2 ⟨q3, q4⟩ => k2 σ3 es3 s3 tr c1 c2 fun s H C cl fp => ti_one fun σ4 H4 s4 Q4 k4 => q3 s H C cl fp σ4 H4 s4 Q4 fun b H5 s5 x5 hb => k4 b H5 s5 x5 ?_
    subst hb
    have tk : (ds.take (i + 1)).filter p = (ds.take i).filter p ++ (if p d = true then [d] else []) := by
      rw [take_snoc hd, List.filter_append, List.filter_cons, List.filter_nil]
    refine iteB (fun hp => ?_) fun hp => ?_
    · rw [if_pos hp] at tk
      exact fun s H C cl fp => (q4 hp s H C cl fp).imp fun r hr => ⟨hlt, by rw [tk]; exact paired_snoc pr hr⟩
    · rw [if_neg (by rw [hp]; exact Bool.false_ne_true), List.append_nil] at tk
      exact ⟨hlt, by rw [tk]; exact pr⟩, fun acc ⟨_, pr⟩ => fin acc (by rw [List.take_length] at pr; exact pr)⟩
end
end DW
namespace DW
open PySem PySem.W L2 RZ PyProof.Rows
section
variable {F : Fc} {X : Cx} {es : List Sl} {a b c : Expr} {pos : Pos} {Ψ : Bool → Prop}
theorem bh_t {σ : L2.St} {H : Hp} {Q : Bool → Hp → Prop} (k : ∀ b H', Sg F H' σ es → ExM F.M0 H H' → Ψ b → Q b H') : Bh F σ es H (fun d => ∃ k, d = .bool k ∧ Ψ k) (fun x H' => ∃ k, x = .bl k ∧ Q k H') := fun v d H' s' x t ⟨kk, e, q⟩ => by
  subst e
  exact ⟨kk, t.bl_inv, k kk H' s' x q⟩
theorem t_cmp {op : CmpOp} (hm : behindInMarks op b = false := by first | exact nomark _ | rfl) (h : W F X a es fun x => W F X b es fun y => ∃ k, OpD X (compareOp op) x y (.bool k) ∧ Ψ k) : T F X (.Compare a [op] [b] pos) es Ψ := fun σ H s Q k => by
  refine ⟨_, pt_cmpR can_o can_e can_e hm, ?_⟩
  refine h σ H s _ fun v x H1 s1 x1 t1 hb => ?_
  refine hb σ H1 s1 _ fun u y H2 s2 x2 t2 ⟨z, ho, q⟩ => ?_
  exact ho _ H2 v u s2.kn (t1.mono (x2.mx)) t2 _ (fin_op s2 (x1.trans' x2) (bh_t k) ⟨z, rfl, q⟩)
theorem t_chain {op op' : CmpOp} (hm : lastMarks [op, op'] [b, c] = false := by rfl) (h : W F X a es fun x => W F X b es fun y => ∃ k, OpD X (compareOp op) x y (.bool k) ∧ if k = true then W F X c es fun w => ∃ z, OpD X (compareOp op') y w (.bool z) ∧ Ψ z else Ψ false) :
    T F X (.Compare a [op, op'] [b, c] pos) es Ψ := fun σ H s Q k => by
  refine ⟨_, pt_chain can_o can_o can_e can_e can_e hm, ?_⟩
  refine h σ H s _ fun v x H1 s1 x1 t1 hb => ?_
  refine hb σ H1 s1 _ fun u y H2 s2 x2 t2 ⟨kk, ho, q⟩ => ?_
  refine ho _ H2 v u s2.kn (t1.mono (x2.mx)) t2 _ fun w H3 e3 t3 => ?_
  rw [Dt.bl_inv t3]
  refine ⟨kk, rfl, ?_⟩
  have s3 := s2.grow e3
  cases kk with
  | true =>
    show canE X c σ H3 _
    refine q σ H3 s3 _ fun u' y' H4 s4 x4 t4 ⟨z, ho', q'⟩ => ?_
    exact ho' _ H4 u u' s4.kn ((t2.mono (ExM.of e3)).mono (x4.mx)) t4 _ (fin_op s4 (((x1.trans' x2).trans' (ExM.of e3)).trans' x4) (bh_t k) ⟨z, rfl, q'⟩)
  | false => exact ⟨false, rfl, k false H3 s3 ((x1.trans' x2).trans' (ExM.of e3)) q⟩
end
end DW
namespace DW
open PySem PySem.W L2 RZ PyProof.Rows
/-! ### the deck, raw -/
abbrev dk3 (c : V) (m k : Int) : List (Key × V) := [(kCells, c), (kMixed, .int m), (kDraws, .int k)]
theorem k_cm : (kCells = kMixed) = False := by simp [kCells, kMixed]; decide +kernel
theorem k_cd : (kCells = kDraws) = False := by simp [kCells, kDraws]; decide +kernel
theorem k_md : (kMixed = kDraws) = False := by simp [kMixed, kDraws]; decide +kernel
theorem k_mc : (kMixed = kCells) = False := by simp [kCells, kMixed]; decide +kernel
theorem k_dc : (kDraws = kCells) = False := by simp [kCells, kDraws]; decide +kernel
theorem k_dm : (kDraws = kMixed) = False := by simp [kMixed, kDraws]; decide +kernel
theorem dk_c {c : V} {m k : Int} : valV (dk3 c m k) kCells = some c := by simp [valV]
theorem dk_m {c : V} {m k : Int} : valV (dk3 c m k) kMixed = some (.int m) := by simp [valV, k_cm]
theorem dk_d {c : V} {m k : Int} : valV (dk3 c m k) kDraws = some (.int k) := by simp [valV, k_cd, k_md]
theorem dk_put {c : V} {m k n : Int} : putK (dk3 c m k) kDraws (.int n) = dk3 c m n := by simp [putK, k_cd, k_md]
theorem dg_c {H : Hp} {a : Addr} {c : V} {m k : Int} (h : H a = some (.dK (dk3 c m k))) : DGet H a (.str "cells") (some c) := by have := DGet.k (k := kCells) h; rw [dk_c] at this; exact this
theorem dg_m {H : Hp} {a : Addr} {c : V} {m k : Int} (h : H a = some (.dK (dk3 c m k))) : DGet H a (.str "mixed") (some (.int m)) := by have := DGet.k (k := kMixed) h; rw [dk_m] at this; exact this
theorem dg_d {H : Hp} {a : Addr} {c : V} {m k : Int} (h : H a = some (.dK (dk3 c m k))) : DGet H a (.str "draws") (some (.int k)) := by have := DGet.k (k := kDraws) h; rw [dk_d] at this; exact this
theorem dp_d {H : Hp} {a : Addr} {c : V} {m k n : Int} (h : H a = some (.dK (dk3 c m k))) : DPut H a (.str "draws") (.int n) (upd H a (.dK (dk3 c m n))) := by
  have := DPut.k (k := kDraws) (v := .int n) h (by rw [sizeLine_eq]; show 3 < _; decide)
  rw [dk_put] at this
  exact this
theorem dta_intsV {M : Addr → Prop} {H : Hp} : ∀ ns : List Int, DtA M H (ns.map V.int) (ns.map PyData.int)
  | [] => .nil
  | n :: ns => .cons (.int n) (dta_intsV ns)
theorem eqvL_ints : ∀ ns : List Int, PyData.eqvAll (ns.map PyData.int) [] = decide (ns = [])
  | [] => by simp [PyData.eqvAll]
  | _ :: _ => by simp [PyData.eqvAll]
theorem canLay_intsL : ∀ xs : List Int, PyData.canLayAll0 (xs.map PyData.int) = true
  | [] => by simp [PyData.canLayAll0]
  | x :: xs => by rw [List.map_cons, PyData.canLayAll0, canLay_intsL xs]; rfl
theorem depth_intsL : ∀ xs : List Int, PyData.depthAll (xs.map PyData.int) ≤ 1
  | [] => by simp [PyData.depthAll]
  | x :: xs => by
    have := depth_intsL xs
    simp [PyData.depthAll, PyData.depth]
    omega
theorem shapedL_ints (xs : List Int) : SeqAt.shaped (.list (xs.map PyData.int)) = true := by
  have := depth_intsL xs
  unfold SeqAt.shaped
  rw [Bool.and_eq_true]
  refine ⟨by rw [PyData.canLay0]; exact canLay_intsL xs, decide_eq_true ?_⟩
  simp only [PyData.depth]
  omega
theorem dp_ints {K : PySem.W.Frag} {H : Hp} {c : Addr} {ns : List Int} (h : H c = some (.lst (ns.map V.int))) : Dp K H (.ref c) (.list (ns.map PyData.int)) := Dt.dp (M := fun _ => False) _ _ (PyData.hasDict_of_canLay _ (by have := shapedL_ints ns; unfold SeqAt.shaped at this; rw [Bool.and_eq_true] at this; exact this.1)) (.lst h id (dta_intsV ns))
theorem em64 (x j : Int) (h : 0 < j) (h2 : j < 2 ^ 64) : -(2 ^ 64) < x % j ∧ x % j < 2 ^ 64 := by
  have h3 := Int.emod_nonneg x (b := j) (by omega)
  have h4 := Int.emod_lt_of_pos x h
  omega
theorem max_ok {i n : Int} (h1 : 1 ≤ n) (h2 : n < 2 ^ 60) : CDivW i (if n > 2 then n else 2) := by
  refine wide_div (b := 61) (by split <;> omega) ?_ (by decide) (by decide)
  have : (if n > 2 then n else 2) < 2 ^ 60 := by split <;> omega
  have h0 : 0 < (if n > 2 then n else 2) := by split <;> omega
  omega
end DW
namespace DW
open PySem PySem.W L2 RZ PyProof.Rows
/-! ### t[::-1] -/
theorem adj_rev (n : Nat) : Builtin.Slice.sliceAdjust none none (-1) (n : Int) = ((n : Int) - 1, -1) := by
  unfold Builtin.Slice.sliceAdjust
  simp
theorem places_rev (n : Nat) : Builtin.Slice.slicePlaces ((n : Int) - 1) (-1) (-1) = n := by
  unfold Builtin.Slice.slicePlaces
  have h1 : ¬ ((-1 : Int) > 0) := by omega
  simp only [h1, if_false]
  rw [show (- -1 : Int) = 1 by decide, Int.ediv_one]
  split <;> omega
theorem pick_rev (xs : Array Value) : ((List.range xs.size).filterMap fun (k : Nat) => xs[(((xs.size : Nat) : Int) - 1 + (k : Int) * -1).toNat]?).toArray = xs.toList.reverse.toArray := by
  have e : (List.range xs.size).filterMap (fun (k : Nat) => xs[(((xs.size : Nat) : Int) - 1 + (k : Int) * -1).toNat]?) = ((List.range xs.size).map fun k => xs.size - 1 - k).filterMap (xs[·]?) := by
    rw [List.filterMap_map]
    have go : ∀ l : List Nat, (∀ k ∈ l, k < xs.size) → l.filterMap (fun (k : Nat) => xs[(((xs.size : Nat) : Int) - 1 + (k : Int) * -1).toNat]?) = l.filterMap ((xs[·]?) ∘ fun k => xs.size - 1 - k) := fun l => by
      induction l with
      | nil => exact fun _ => rfl
      | cons k l ih =>
        intro hk
        have h1 := hk k List.mem_cons_self
        have e2 : (((xs.size : Nat) : Int) - 1 + (k : Int) * -1).toNat = xs.size - 1 - k := by omega
        rw [List.filterMap_cons, List.filterMap_cons, ih fun k h => hk k (List.mem_cons_of_mem _ h), e2]
        rfl
    exact go _ fun k hk => List.mem_range.mp hk
  rw [e, PySem.W.krv_range, List.filterMap_reverse, PySem.W.krv_all]
section
variable {prog : Program} {w : World} {A : Around} {E : Value → Shared → Prop} {s : Shared}
theorem rev_applied {sl : Addr} {n : Nat} {tk : Tok} {Q : Int × Int × Nat → Shared → Prop} (hs : s.heap.IsSliceOf sl .none .none (.int (-1) tk)) (h : Q ((n : Int) - 1, -1, n) s) : wpAny (model prog w) A (Builtin.Slice.sliceApplied (.ref sl) (pure (n : Int))) Q E s := by
  obtain ⟨os, hos, hcs, hds⟩ := id hs
  unfold Builtin.Slice.sliceApplied Builtin.Slice.sliceFields
  refine wpAny_bind (wpAny_bind (wpAny_field hos hds (x := .none) rfl (wpAny_bind (wpAny_field hos hds (x := .none) rfl (wpAny_bind (wpAny_field hos hds (x := .int (-1) tk) rfl (wpAny_pure ?_)))))))
  refine wpAny_bind (slicePart_int ?_)
  show wpAny _ _ (if ((-1 : Int) == 0) = true then _ else _) _ _ s
  rw [if_neg (by decide)]
  refine wpAny_bind (slicePart_none (wpAny_bind (slicePart_none (wpAny_bind (wpAny_pure ?_)))))
  show wpAny _ _ (match Builtin.Slice.sliceAdjust none none (-1) (n : Int) with | (lo, hi) => pure (lo, (-1 : Int), Builtin.Slice.slicePlaces lo hi (-1))) _ _ s
  rw [adj_rev n]
  show wpAny _ _ (pure ((n : Int) - 1, (-1 : Int), Builtin.Slice.slicePlaces ((n : Int) - 1) (-1) (-1))) _ _ s
  rw [places_rev]
  exact wpAny_pure h
theorem getItem_rev {t sl : Addr} {items : Array Value} {tk : Tok} {Q : Value → Shared → Prop} (ht : IsTup s.heap t items) (hs : s.heap.IsSliceOf sl .none .none (.int (-1) tk))
    (h : Q (.ref s.heap.objs.size) { s with heap := s.heap.push { cls := .type "tuple", data := .seq items.toList.reverse.toArray } }) (hsz : items.size ≤ sizeLine) : wpAny (model prog w) A (getItem (.ref t) (.ref sl)) Q E s := by
  have htake : sizeOk (.seq items.toList.reverse.toArray) := by
    show items.toList.reverse.toArray.size ≤ sizeLine
    rw [List.size_toArray, List.length_reverse, Array.length_toList]
    exact hsz
  obtain ⟨os, hos, hcs, hds⟩ := id hs
  have hTs : s.TypeIs (.ref sl) "slice" := ⟨os, hos, hcs⟩
  unfold getItem
  try with_reducible refine wpAny_holding ?_
  first | refine wpAny_bind (wpAny_pure ?_) | skip
  refine wpAny_bind (wpAny_sequenceKey ht.typeIs (by decide) ?_)
  refine wpAny_bind (wpAny_callSpecial?_slot (name := Str.ofString "__getitem__") ht.typeIs PyProof.Rows.slot_tuple_getitem
    (wpAny_call_entry PyProof.Rows.slot_tuple_getitem ht.typeIs entry_tuple_getitem ?_ (args_tuple_getitem _ _)))
  show wpAny _ _ (Builtin.Tuple.tupleItemsOf (.ref t) >>= _) _ _ s
  refine wpAny_bind (tupleItemsOf_ ht ?_)
  refine wpAny_bind (wpAny_typeOf hTs ?_)
  rw [if_pos (by decide)]
  refine wpAny_bind (rev_applied hs ?_)
  have hno : ¬ ((((items.size : Nat) : Int) - 1 == 0 && (-1 : Int) == 1 && items.size == items.size) = true) := by
    intro q
    rw [Bool.and_eq_true, Bool.and_eq_true] at q
    exact absurd q.1.2 (by decide)
  show wpAny _ _ (if (((items.size : Nat) : Int) - 1 == 0 && (-1 : Int) == 1 && items.size == items.size) = true then _ else _) _ _ s
  rw [if_neg hno, pick_rev]
  first
    | exact wpAny_bind (m := Builtin.Tuple.tupleExact _) (wpAny_newObj_type (wpAny_pure ⟨_, rfl, wpAny_pure h⟩) htake)
    | exact wpAny_bind (wpAny_bind (m := Builtin.Tuple.tupleExact _) (wpAny_newObj_type (wpAny_pure ⟨_, rfl, wpAny_pure h⟩) htake))
    | exact wpAny_bind (wpAny_bind (m := Builtin.Tuple.tupleExact _) (wpAny_newObj_type (wpAny_pure (wpAny_pure ⟨_, rfl, wpAny_pure h⟩)) htake))
end
section
variable {X : Cx}
def tRevT (K : PySem.W.Frag) (te : TE) : TE := fun σ H Q => te σ H fun x H1 => ∃ a xs, x = .ref a ∧ SqT K H1 a xs ∧ ∀ p, H1 p = none → Q (.ref p) (upd H1 p (.tup xs.reverse))
theorem pe_revT {e : Expr} {te : TE} {k : Nat} {p1 p2 p3 pos : Pos} (he : PE X e te) : PE X (.Subscript e (.Slice none none (some (.UnaryOp .USub (.Constant (.int 1) k p1) p2)) p3) pos) (tRevT X.K te) := by
  refine ⟨fun pins s σ H Q I h => ?_⟩
  refine Subscript_ (thn (he.run pins s σ H _ I h) fun v s1 ⟨x, H1, I1, r1, a, xs, ex, hx, q⟩ => ?_)
  subst ex
  cases r1
  have step : PO X (some (.UnaryOp .USub (.Constant (.int 1) k p1) p2)) (tPart (tUn (rU fun i => .int (-i)) (tC (.int 1)))) := po_some (pe_un un_neg pe_int)
  refine wpAny_Slice (thn (po_none.run pins s1 σ H1 (fun o H2 => o = none ∧ H2 = H1) I1 ⟨rfl, rfl⟩) fun vl s2 ⟨l, H2, I2, pl, el, e2⟩ => ?_)
  subst el e2
  refine thn (po_none.run pins s2 σ H2 (fun o H3 => o = none ∧ H3 = H2) I2 ⟨rfl, rfl⟩) fun vu s3 ⟨u, H3, I3, pu, eu, e3⟩ => ?_
  subst eu e3
  refine thn (step.run pins s3 σ H3 (fun o H4 => o = some (-1) ∧ H4 = H3) I3 ⟨1, rfl, -1, rfl, rfl, rfl⟩) fun vs s4 ⟨o, H4, I4, ps, eo, e4⟩ => ?_
  subst eo e4
  have I5 : Inv X pins σ H4 { s4 with heap := s4.heap.push { cls := .type "slice", data := .fields #[vl, vu, vs] } } := I4.kept (t' := s4.toks) fun b ob q => Heap.get?_push_of_some _ q
  obtain ⟨its, r, ht, hz⟩ := I5.tuple hx
  have hlen := r.length
  cases pl
  cases pu
  cases ps
  refine tail_any (ops := [.ref a, .ref s4.heap.objs.size]) ht.typeIs (PyProof.Rows.slot_tuple_getitem.lookup) ?_ (by with_unfolding_all rfl)
  refine getItem_rev ht (Heap.IsSliceOf.new _ _ _ _) ?_ (by rw [List.size_toArray]; omega)
  refine ⟨.ref _, _, I5.laid (t' := s4.toks) (o := .tup xs.reverse) (fun b ob q => Heap.get?_push_of_some _ q) (Nat.le_refl _) ?_, rfl, q _ (I5.hok.fresh (Nat.le_refl _))⟩
  exact ⟨by rw [List.length_reverse]; exact hz, _, r.reverse, ⟨_, Heap.get?_push_size _ rfl, rfl, _, rfl⟩⟩
end
section
variable {F : Fc} {X : Cx} {es : List Sl} {a : Expr} {Φ : D → Prop} {k : Nat} {p1 p2 p3 pos : Pos}
theorem dta_rev {M : Addr → Prop} {H : Hp} : ∀ {vs : List V} {ds : List D}, DtA M H vs ds → DtA M H vs.reverse ds.reverse
  | _, _, .nil => .nil
  | _, _, .cons r t => by
    rw [List.reverse_cons, List.reverse_cons]
    exact (dta_rev t).append (.cons r .nil)
theorem w_revT (h : W F X a es fun x => ∃ ds, x = .tuple ds ∧ Φ (.tuple ds.reverse)) : W F X (.Subscript a (.Slice none none (some (.UnaryOp .USub (.Constant (.int 1) k p1) p2)) p3) pos) es Φ := fun σ H s Q kk => by
  refine ⟨_, pe_revT can_e, ?_⟩
  refine h σ H s _ fun v x H1 s1 x1 t1 ⟨ds, e, q⟩ => ?_
  subst e
  obtain ⟨p, vs, rfl, g1, g2, g3⟩ := id t1.tup_inv
  exact ⟨p, vs, rfl, SqT.of g1, new_tup s1 x1 (dta_rev g3) kk q⟩
theorem wl_revL {Ψ : List D → Prop} (h : W F X a es fun x => ∃ ds, x = .list ds ∧ Ψ ds.reverse) : WL F X (.Subscript a (.Slice none none (some (.UnaryOp .USub (.Constant (.int 1) k p1) p2)) p3) pos) es Ψ := fun σ H s Q kk => by
  refine ⟨_, pe_revL can_e, ?_⟩
  refine h σ H s _ fun v x H1 s1 x1 t1 ⟨ds, e, q⟩ => ?_
  subst e
  obtain ⟨p, vs, rfl, g1, g2, g3⟩ := id t1.lst_inv
  exact ⟨p, vs, rfl, SqL.of g1, fun p' hp => kk p' _ _ _ (s1.new hp) (x1.trans' (ExM.new hp)) (fresh_ex s1 x1 hp) upd_same ((dta_rev g3).plus1 hp) q⟩
end
end DW
namespace DW
open PySem PySem.W L2 RZ PyProof.Rows
section
variable {F : Fc} {X : Cx} {a b c : Expr} {es : List Sl} {K : Ek} {pos : Pos}
/-- x, y, z = a, b, c -/
theorem ws_par3 {i j l : Nat} {x y z : Str} {px py pz pt : Pos} {kt k2 pt2} (hc : X.calm = true) (hN : X.N.Nodup) (hi : X.N[i]? = some x) (hj : X.N[j]? = some y) (hl : X.N[l]? = some z) (hij : i ≠ j) (hil : i ≠ l) (hjl : j ≠ l)
    (hx : X.env.scope.names.lookup x = some .local) (hy : X.env.scope.names.lookup y = some .local) (hz : X.env.scope.names.lookup z = some .local) (hli : i < es.length) (hlj : j < es.length) (hll : l < es.length)
    (hsa : starEach [a, b, c] X.env = (false, eval a X.env) :: starEach [b, c] X.env := by rfl) (hsb : starEach [b, c] X.env = (false, eval b X.env) :: starEach [c] X.env := by rfl) (hsc : starEach [c] X.env = (false, eval c X.env) :: starEach [] X.env := by rfl)
    (h : W F X a es fun d => W F X b es fun d' => W F X c es fun d'' => K.nx (((es.set i (.d d)).set j (.d d')).set l (.d d''))) (hw : swappedStores [.Tuple [.Name x px, .Name y py, .Name z pz] kt pt] (.Tuple [a, b, c] k2 pt2) X.env = pure (some [x, y, z]) := by rfl)
    (hs : swapsWithSole [.Tuple [.Name x px, .Name y py, .Name z pz] kt pt] (.Tuple [a, b, c] k2 pt2) pos.line X.env = pure false := by rfl) : WS F X (.Assign [.Tuple [.Name x px, .Name y py, .Name z pz] kt pt] (.Tuple [a, b, c] k2 pt2) pos) es K := fun σ H D s g => by
  refine ⟨_, ps_par3 hc hN hi hj hl hij hil hjl hx hy hz (pa_cons can_e (pa_cons can_e (pa_cons can_e pa_nil hsc) hsb) hsa) hw hs, ?_⟩
  refine h σ H s _ fun v d H1 s1 x1 t1 hb => ?_
  refine hb σ H1 s1 _ fun u d' H2 s2 x2 t2 hc' => ?_
  refine hc' σ H2 s2 _ fun w d'' H3 s3 x3 t3 q => ⟨v, u, w, rfl, ?_⟩
  have s4 := s3.set hli ((t1.mono x2.mx).mono x3.mx)
  have s5 := s4.set (by rw [List.length_set]; exact hlj) ((Tr.set).dt (t2.mono x3.mx))
  exact g.nx _ H3 _ (s5.set (by rw [List.length_set, List.length_set]; exact hll) ((Tr.set.trans Tr.set).dt t3)) ((((Tr.of ((x1.trans' x2).trans' x3).mx).trans Tr.set).trans Tr.set).trans Tr.set) q
end
end DW
namespace K9
open PySem PySem.W L2 RZ PyProof.Rows DW
section
variable {P : Program} {w : World} {K : PySem.W.Frag} {mg : Str → Option Value} {base : Heap} {f : Addr} {fd : FuncData}
/-- what the module's names are: no name of Python's own that is used here is bound by it -/
structure Bi (mg : Str → Option Value) : Prop where
  isi : mg "isinstance" = none
  int : mg "int" = none
  bool : mg "bool" = none
  tup : mg "tuple" = none
  zip : mg "zip" = none
  all : mg "all" = none
  len : mg "len" = none
  sorted : mg "sorted" = none
  list : mg "list" = none
  max : mg "max" = none
  min : mg "min" = none
  range : mg "range" = none
  abs : mg "abs" = none
  repr : mg "repr" = none
theorem len_le1 {a : D} : List.length [a] ≤ sizeLine := by rw [sizeLine_eq]; show 1 ≤ _; decide
theorem len_le2 {a b : D} : List.length [a, b] ≤ sizeLine := by rw [sizeLine_eq]; show 2 ≤ _; decide
theorem len_le3 {a b c : D} : List.length [a, b, c] ≤ sizeLine := by rw [sizeLine_eq]; show 3 ≤ _; decide
theorem kb_ii : kitB "int" "int" = some true := by decide +kernel
theorem kb_ib : kitB "int" "bool" = some false := by decide +kernel
theorem kb_tt : kitB "tuple" "tuple" = some true := by decide +kernel
theorem all_true : ∀ {ds out : List D}, Paired (fun _ r => r = PyData.bool true) ds out → out = (List.replicate ds.length true).map PyData.bool
  | _, _, .nil => rfl
  | _ :: ds, _ :: out, .cons h t => by
    subst h
    have ih := all_true t
    rw [List.length_cons, List.replicate_succ, List.map_cons, ← ih]
theorem all_rep (n : Nat) : (List.replicate n true).all id = true := by
  induction n with
  | zero => rfl
  | succ n ih => rw [List.replicate_succ, List.all_cons, ih]; rfl
abbrev iv (xs : List Int) : D := .tuple (xs.map PyData.int)
abbrev Kk := List Int × Int
abbrev dK (k : Kk) : D := .tuple [iv k.1, .int k.2]
abbrev Tp := Kk × Int
abbrev dT (t : Tp) : D := .tuple [iv t.1.1, .int t.1.2, .int t.2]
abbrev dS (s : List Tp) : D := .tuple (s.map dT)
def KOk (r : Int) (k : Kk) : Prop := (k.1.length : Int) = r ∧ 1 ≤ k.2 ∧ k.2 ≤ r
def TOk (r : Int) (t : Tp) : Prop := KOk r t.1 ∧ t.2 ≠ 0
/-- ascending, each key once -/
def Asc : List Tp → Prop
  | a :: b :: r => dataLt (dK a.1) (dK b.1) = true ∧ Asc (b :: r)
  | _ => True
structure ShOk (r : Int) (s : List Tp) : Prop where
  each : ∀ t ∈ s, TOk r t
  asc : Asc s
  len : s.length ≤ 100000
theorem pairs_mem : ∀ {x y : List Int} {d : D}, d ∈ pairs (x.map PyData.int) (y.map PyData.int) → ∃ a b : Int, d = .tuple [.int a, .int b]
  | [], _, _, h => by simp [pairs] at h
  | _ :: _, [], _, h => by simp [pairs] at h
  | a :: x, b :: y, d, h => by
    rcases List.mem_cons.mp h with e | h
    · exact ⟨a, b, e⟩
    · exact pairs_mem h
theorem pairs_le {x y : List Int} (h : x.length ≤ 4) : (pairs (x.map PyData.int) (y.map PyData.int)).length ≤ sizeLine := by
  rw [DW.pairs_len, List.length_map, sizeLine_eq]
  omega
theorem int_inj {x y : List Int} (h : x.map PyData.int = y.map PyData.int) : x = y := by
  induction x generalizing y with
  | nil => cases y with
    | nil => rfl
    | cons b y => cases h
  | cons a x ih => cases y with
    | nil => cases h
    | cons b y =>
      rw [List.map_cons, List.map_cons] at h
      injection h with h1 h2
      injection h1 with h1
      rw [h1, ih h2]
theorem iv_inj {x y : List Int} (h : iv x = iv y) : x = y := by injection h with h; exact int_inj h
theorem pairs_out : ∀ {x y : List Int} {out : List D}, Paired (fun d r => ∃ a b : Int, d = .tuple [.int a, .int b] ∧ r = .int (a + b)) (pairs (x.map PyData.int) (y.map PyData.int)) out → out = (List.zipWith (· + ·) x y).map PyData.int
  | [], _, _, h => by cases h; rfl
  | _ :: _, [], _, h => by cases h; rfl
  | a :: x, b :: y, _, h => by
    cases h with
    | cons h1 h2 =>
      obtain ⟨a', b', e, rfl⟩ := h1
      injection e with e
      injection e with e1 e2
      injection e1 with e1
      injection e2 with e2 _
      injection e2 with e2
      subst e1 e2
      rw [List.zipWith_cons_cons, List.map_cons, ← pairs_out h2]
theorem pairs_add {x y x' y' : List Int} {out : List D} (e : [iv x, iv y] = [iv x', iv y']) (h : Paired (fun d r => ∃ a b : Int, d = .tuple [.int a, .int b] ∧ r = .int (a + b)) (pairs (x.map PyData.int) (y.map PyData.int)) out) : PyData.tuple out = iv (List.zipWith (· + ·) x' y') := by
  injection e with e1 e2
  injection e2 with e2 _
  rw [← iv_inj e1, ← iv_inj e2, pairs_out h]
abbrev n_is_room : List Str := ["r", "thing", "item"]
abbrev n_is_passage : List Str := ["r", "room", "i"]
abbrev n_is_triple : List Str := ["r", "thing"]
theorem atI0 {a b c : D} : atI [a, b, c] 0 = some a := rfl
theorem atI1 {a b c : D} : atI [a, b, c] 1 = some b := rfl
theorem atI2 {a b c : D} : atI [a, b, c] 2 = some c := rfl
theorem alike_ints : ∀ xs ys : List Int, alikeAll (xs.map PyData.int) (ys.map PyData.int) = true
  | [], _ => by simp [alikeAll]
  | _ :: _, [] => by simp [alikeAll]
  | x :: xs, y :: ys => by simp [alikeAll, alike, alike_ints xs ys]
theorem alike_dK (a b : Kk) : alike (dK a) (dK b) = true := by simp [alike, alikeAll, alike_ints]
theorem depth_ints : ∀ xs : List Int, PyData.depthAll (xs.map PyData.int) ≤ 1
  | [] => by simp [PyData.depthAll]
  | x :: xs => by
    have := depth_ints xs
    simp [PyData.depthAll, PyData.depth]
    omega
theorem depth_dK (a : Kk) : (dK a).depth ≤ 8 := by
  have := depth_ints a.1
  simp [PyData.depthAll, PyData.depth]
  omega
theorem cut_lo (xs : List D) (k : Nat) : DW.cutD xs (some (k : Int)) none = xs.drop k := by
  unfold DW.cutD
  rw [HT.sIx_nat, HT.sIx_none]
  by_cases h : k ≤ xs.length
  · rw [Nat.min_eq_left h]
    exact List.take_of_length_le (by rw [List.length_drop]; exact Nat.le_refl _)
  · rw [Nat.min_eq_right (by omega), List.drop_length, List.drop_eq_nil_of_le (by omega), List.take_nil]
theorem cut_hi (xs : List D) (k : Nat) : DW.cutD xs none (some (k : Int)) = xs.take k := by
  unfold DW.cutD
  rw [HT.sIx_nat, HT.sIx_none, List.drop_zero, Nat.sub_zero]
  by_cases h : k ≤ xs.length
  · rw [Nat.min_eq_left h]
  · rw [Nat.min_eq_right (by omega), List.take_of_length_le (Nat.le_refl _), List.take_of_length_le (by omega)]
theorem dK_inj {a b : Kk} (h : dK a = dK b) : a = b := by
  injection h with h
  injection h with h1 h2
  injection h2 with h2 _
  injection h2 with h2
  exact Prod.ext (iv_inj h1) h2
theorem dT_inj {a b : Tp} (h : dT a = dT b) : a = b := by
  injection h with h
  injection h with h1 h2
  injection h2 with h2 h3
  injection h2 with h2
  injection h3 with h3 _
  injection h3 with h3
  exact Prod.ext (Prod.ext (iv_inj h1) h2) h3
theorem asc_pairs : ∀ {s : List Tp}, Asc s → ∀ {d : D}, d ∈ pairs (s.map fun t => dK t.1) ((s.map fun t => dK t.1).drop 1) → ∃ a b : Kk, d = .tuple [dK a, dK b] ∧ dataLt (dK a) (dK b) = true
  | [], _, d, h => by simp [pairs] at h
  | [t], _, d, h => by simp [pairs] at h
  | t :: u :: s, ha, d, h => by
    rw [List.map_cons, List.drop_succ_cons, List.drop_zero, List.map_cons] at h
    rcases List.mem_cons.mp h with e | h
    · exact ⟨t.1, u.1, e, ha.1⟩
    · exact asc_pairs ha.2 (by simpa using h)
theorem out_keys : ∀ {s : List Tp} {out : List D}, Paired (fun d r => ∃ t : Tp, d = dT t ∧ r = dK t.1) (s.map dT) out → out = s.map fun t => dK t.1
  | [], _, h => by cases h; rfl
  | t :: s, _, h => by
    cases h with
    | cons h1 h2 =>
      obtain ⟨u, e, rfl⟩ := h1
      rw [List.map_cons, ← out_keys h2, dT_inj e]
abbrev n_is_show : List Str := ["r", "thing", "passages", "item", "room", "i", "_", "one", "other"]
/-- a dict of numbers, entry by entry -/
abbrev kvO (a : List Tp) : List (D × D) := a.map fun t => (dK t.1, PyData.int t.2)
def putT (a : List Tp) (k : Kk) (v : Int) : List Tp := if a.any (fun t => decide (t.1 = k)) = true then a.map (fun t => if t.1 = k then (t.1, v) else t) else a ++ [(k, v)]
def valT (a : List Tp) (k : Kk) : Int := ((a.find? fun t => decide (t.1 = k)).map (·.2)).getD 0
theorem keys_inj : ∀ {xs ys : List Int}, toKeys (xs.map PyData.int) = toKeys (ys.map PyData.int) → xs = ys
  | [], [], _ => rfl
  | [], _ :: _, h => by simp [toKeys] at h
  | _ :: _, [], h => by simp [toKeys] at h
  | x :: xs, y :: ys, h => by
    rw [List.map_cons, List.map_cons, toKeys, toKeys, toKey, toKey] at h
    injection h with h1 h2
    injection h1 with h1
    rw [h1, keys_inj h2]
theorem key_inj {a b : Kk} : toKey (dK a) = toKey (dK b) ↔ a = b := by
  refine ⟨fun h => ?_, fun h => by rw [h]⟩
  simp only [toKey, toKeys] at h
  injection h with h
  injection h with h1 h2
  injection h1 with h1
  injection h2 with h2 _
  injection h2 with h2
  exact Prod.ext (keys_inj h1) h2
theorem sameK_dK (k : Kk) (t : Tp) (v : D) : sameK (dK k) (dK t.1, v) = decide (t.1 = k) := by
  unfold sameK
  exact decide_eq_decide.mpr key_inj
theorem any_kvO (a : List Tp) (k : Kk) : (kvO a).any (sameK (dK k)) = a.any fun t => decide (t.1 = k) := by
  rw [List.any_map]
  congr 1
  funext t
  exact sameK_dK k t _
theorem stored_kvO (a : List Tp) (k : Kk) (v : Int) : storedD (kvO a) (dK k) (.int v) = kvO (putT a k v) := by
  unfold storedD putT
  rw [any_kvO]
  split
  · show (a.map _).map _ = (a.map _).map _
    rw [List.map_map, List.map_map]
    congr 1
    funext t
    show (if sameK (dK k) (dK t.1, PyData.int t.2) = true then (dK t.1, PyData.int v) else (dK t.1, PyData.int t.2)) = (dK (if t.1 = k then (t.1, v) else t).1, PyData.int (if t.1 = k then (t.1, v) else t).2)
    rw [sameK_dK]
    by_cases h : t.1 = k
    · rw [if_pos (decide_eq_true h), if_pos h]
    · rw [if_neg (by rw [decide_eq_false h]; exact Bool.false_ne_true), if_neg h]
  · show _ = (a ++ [(k, v)]).map _
    rw [List.map_append]
    rfl
theorem kvO_cons (t : Tp) (a : List Tp) : kvO (t :: a) = (dK t.1, PyData.int t.2) :: kvO a := rfl
theorem val_kvO (a : List Tp) (k : Kk) : (valD (kvO a) (dK k)).getD (.int 0) = .int (valT a k) := by
  unfold valD valT
  induction a with
  | nil => rfl
  | cons t a ih =>
    rw [kvO_cons, List.find?_cons, List.find?_cons, sameK_dK]
    by_cases h : t.1 = k
    · rw [decide_eq_true h]; rfl
    · rw [decide_eq_false h]; exact ih
theorem val_some (a : List Tp) (k : Kk) (h : k ∈ a.map (·.1)) : valD (kvO a) (dK k) = some (.int (valT a k)) := by
  unfold valD valT
  induction a with
  | nil => cases h
  | cons t a ih =>
    rw [kvO_cons, List.find?_cons, List.find?_cons, sameK_dK]
    by_cases e : t.1 = k
    · rw [decide_eq_true e]; rfl
    · rw [decide_eq_false e]
      rcases List.mem_cons.mp h with z | z
      · exact absurd z.symm e
      · exact ih z
theorem keyable_ints : ∀ xs : List Int, keyables (xs.map PyData.int) = true
  | [] => rfl
  | x :: xs => by rw [List.map_cons, keyables, keyable, keyable_ints xs]; rfl
theorem ndepth_ints : ∀ xs : List Int, NestedKey.depthAll (toKeys (xs.map PyData.int)) ≤ 1
  | [] => by simp [toKeys, NestedKey.depthAll]
  | x :: xs => by
    have := ndepth_ints xs
    simp [toKeys, toKey, NestedKey.depthAll, NestedKey.depth]
    omega
theorem asKey_dK (k : Kk) : asKey (dK k) = true := by
  have h1 : keyable (dK k) = true := by simp [keyable, keyables, keyable_ints]
  have h2 : (toKey (dK k)).depth ≤ 8 := by
    have := ndepth_ints k.1
    simp [toKey, toKeys, NestedKey.depth, NestedKey.depthAll]
    omega
  unfold asKey
  rw [h1, decide_eq_true h2]
  rfl
abbrev n_check_show : List Str := ["r", "show"]
abbrev n_add_number : List Str := ["numbers", "key", "number"]
def kle (a b : Kk) : Bool := dataLe false id (dK a) (dK b)
def canon (a : List Tp) : List Tp := (((a.map (·.1)).mergeSort kle).filter fun k => decide (valT a k ≠ 0)).map fun k => (k, valT a k)
def pD (a : List Tp) (d : D) : Bool := match valD (kvO a) d with
  | some (.int n) => !decide (n = 0)
  | _ => false
theorem keys_kvO (a : List Tp) : (kvO a).map (·.1) = (a.map (·.1)).map dK := by
  show (a.map _).map _ = _
  rw [List.map_map, List.map_map]
  rfl
theorem sort_keys (a : List Tp) : ((kvO a).map (·.1)).mergeSort (dataLe false id) = ((a.map (·.1)).mergeSort kle).map dK := by
  rw [keys_kvO]
  exact (List.map_mergeSort (r := kle) (s := dataLe false id) (f := dK) fun _ _ _ _ => rfl).symm
theorem pD_key {a : List Tp} {k : Kk} (h : k ∈ a.map (·.1)) : pD a (dK k) = decide (valT a k ≠ 0) := by
  unfold pD
  rw [val_some a k h]
  show (!decide (valT a k = 0)) = _
  by_cases e : valT a k = 0 <;> simp [e]
theorem canon_out (a : List Tp) : ∀ {ks : List Kk} {out : List D}, (∀ k ∈ ks, k ∈ a.map (·.1)) → Paired (fun d r => ∃ k : Kk, d = dK k ∧ r = dT (k, valT a k)) ((ks.map dK).filter (pD a)) out → out = ((ks.filter fun k => decide (valT a k ≠ 0)).map fun k => (k, valT a k)).map dT
  | [], _, _, h => by cases h; rfl
  | k :: ks, out, hk, h => by
    have e := pD_key (hk k List.mem_cons_self)
    rw [List.map_cons, List.filter_cons, e] at h
    rw [List.filter_cons]
    split at h
    · rename_i z
      rw [if_pos z]
      cases h with
      | cons h1 h2 =>
        obtain ⟨k', e', rfl⟩ := h1
        rw [← dK_inj e', List.map_cons, List.map_cons, ← canon_out a (fun k h => hk k (List.mem_cons_of_mem _ h)) h2]
    · rename_i z
      rw [if_neg z]
      exact canon_out a (fun k h => hk k (List.mem_cons_of_mem _ h)) h
theorem alike_keys (a : List Tp) : AllAlike ((kvO a).map (·.1)) := fun d hd d' hd' => by
  rw [keys_kvO] at hd hd'
  obtain ⟨k, _, rfl⟩ := List.mem_map.mp hd
  obtain ⟨k', _, rfl⟩ := List.mem_map.mp hd'
  exact alike_dK k k'
theorem sortable_keys (a : List Tp) : Sortable ((kvO a).map (·.1)) := .inl fun d hd => by
  rw [keys_kvO] at hd
  obtain ⟨k, _, rfl⟩ := List.mem_map.mp hd
  exact ⟨_, _, rfl⟩
theorem depth_keys (a : List Tp) : ∀ d ∈ (kvO a).map (·.1), d.depth ≤ 8 := fun d hd => by
  rw [keys_kvO] at hd
  obtain ⟨k, _, rfl⟩ := List.mem_map.mp hd
  exact depth_dK k
abbrev n_show_with : List Str := ["numbers", "room", "i"]
theorem kvO_inj {a b : List Tp} (h : kvO a = kvO b) : a = b := by
  induction a generalizing b with
  | nil => cases b with
    | nil => rfl
    | cons t b => cases h
  | cons t a ih => cases b with
    | nil => cases h
    | cons u b =>
      rw [kvO_cons, kvO_cons] at h
      injection h with h1 h2
      injection h1 with h1 h3
      injection h3 with h3
      rw [ih h2, Prod.ext (dK_inj h1) h3]
def mvS (rm : List Int) (s : List Tp) : List Tp := s.map fun t => ((List.zipWith (· + ·) t.1.1 rm, t.1.2), t.2)
def mulS (n : Int) (s : List Tp) : List Tp := s.map fun t => (t.1, n * t.2)
def Bg (n : Int) : Prop := n.natAbs < 2 ^ 3000
theorem dS_inj {a b : List Tp} (h : dS a = dS b) : a = b := by
  injection h with h
  induction a generalizing b with
  | nil => cases b with
    | nil => rfl
    | cons t b => cases h
  | cons t a ih => cases b with
    | nil => cases h
    | cons u b =>
      rw [List.map_cons, List.map_cons] at h
      injection h with h1 h2
      rw [ih h2, dT_inj h1]
theorem out_fun (g : Tp → Tp) : ∀ {s : List Tp} {out : List D}, Paired (fun d r => ∃ t : Tp, d = dT t ∧ r = dT (g t)) (s.map dT) out → out = (s.map g).map dT
  | [], _, h => by cases h; rfl
  | t :: s, _, h => by
    cases h with
    | cons h1 h2 =>
      obtain ⟨u, e, rfl⟩ := h1
      rw [List.map_cons, List.map_cons, ← out_fun g h2, dT_inj e]
theorem sh_len {r : Int} {s : List Tp} (h : ShOk r s) : (s.map dT).length ≤ sizeLine := by rw [List.length_map, sizeLine_eq]; have := h.len; omega
abbrev n_moved : List Str := ["r", "show", "room", "place", "i", "number"]
abbrev n_times : List Str := ["r", "number", "show", "room", "i", "many"]
theorem eqv_ints : ∀ xs ys : List Int, PyData.eqvAll (xs.map PyData.int) (ys.map PyData.int) = decide (xs = ys)
  | [], [] => by simp [PyData.eqvAll]
  | [], _ :: _ => by simp [PyData.eqvAll]
  | _ :: _, [] => by simp [PyData.eqvAll]
  | x :: xs, y :: ys => by
    rw [List.map_cons, List.map_cons, PyData.eqvAll, eqv_ints xs ys, PyData.eqv]
    by_cases h : x = y <;> by_cases h' : xs = ys <;> simp [h, h']
theorem eqv_iv (xs ys : List Int) : PyData.eqv (iv xs) (iv ys) = decide (xs = ys) := by rw [PyData.eqv, eqv_ints]
theorem canLay_ints : ∀ xs : List Int, PyData.canLayAll0 (xs.map PyData.int) = true
  | [] => by simp [PyData.canLayAll0]
  | x :: xs => by rw [List.map_cons, PyData.canLayAll0, canLay_ints xs]; rfl
theorem shaped_iv (xs : List Int) : SeqAt.shaped (iv xs) = true := by
  have := depth_ints xs
  unfold SeqAt.shaped
  rw [Bool.and_eq_true]
  refine ⟨by rw [PyData.canLay0]; exact canLay_ints xs, decide_eq_true ?_⟩
  simp only [PyData.depth]
  omega
theorem val_hit : ∀ {s : List Tp} {i : Nat} {t : Tp} {k : Kk}, s[i]? = some t → (∀ u ∈ s.take i, u.1 ≠ k) → t.1 = k → valT s k = t.2
  | [], _, _, _, h, _, _ => by simp at h
  | u :: s, 0, t, k, h, _, e => by
    simp at h
    subst h
    unfold valT
    rw [List.find?_cons, decide_eq_true e]
    rfl
  | u :: s, i + 1, t, k, h, hn, e => by
    have := val_hit (s := s) (i := i) (t := t) (k := k) (by simpa using h) (fun v hv => hn v (by rw [List.take_succ_cons]; exact List.mem_cons_of_mem _ hv)) e
    unfold valT at this ⊢
    rw [List.find?_cons, decide_eq_false (hn u (by rw [List.take_succ_cons]; exact List.mem_cons_self))]
    exact this
theorem val_miss {s : List Tp} {k : Kk} (h : ∀ u ∈ s, u.1 ≠ k) : valT s k = 0 := by
  unfold valT
  rw [List.find?_eq_none.mpr fun u hu => by simpa using h u hu]
  rfl
abbrev n_number_in : List Str := ["r", "show", "room", "i", "place", "way", "number"]
def addAll (a l : List Tp) : List Tp := l.foldl (fun a t => putT a t.1 (valT a t.1 + t.2)) a
theorem putT_len (a : List Tp) (k : Kk) (v : Int) : (putT a k v).length ≤ a.length + 1 := by
  unfold putT
  split
  · rw [List.length_map]; omega
  · rw [List.length_append]; exact Nat.le_refl _
theorem addAll_len : ∀ (l a : List Tp), (addAll a l).length ≤ a.length + l.length
  | [], a => Nat.le_refl _
  | t :: l, a => by
    have h1 := addAll_len l (putT a t.1 (valT a t.1 + t.2))
    have h2 := putT_len a t.1 (valT a t.1 + t.2)
    show (addAll (putT a t.1 (valT a t.1 + t.2)) l).length ≤ _
    rw [List.length_cons]
    omega
theorem addAll_snoc (a l : List Tp) (t : Tp) : addAll a (l ++ [t]) = putT (addAll a l) t.1 (valT (addAll a l) t.1 + t.2) := by
  unfold addAll
  rw [List.foldl_append]
  rfl
def addS (a b : List Tp) : List Tp := canon (addAll [] (a ++ b))
abbrev n_plus : List Str := ["r", "one", "other", "numbers", "room", "i", "number"]
abbrev n_draw : List Str := ["_law_deck_here", "_law_many", "_law_number", "_law_cell"]
theorem atI_in {ds : List D} {x : Int} (h0 : 0 ≤ x) (h1 : x < ds.length) : ∃ d, atI ds x = some d ∧ d ∈ ds := by
  obtain ⟨k, rfl⟩ : ∃ k : Nat, x = k := ⟨x.toNat, by omega⟩
  have hk : k < ds.length := by omega
  exact ⟨ds[k], atI_nat (List.getElem?_eq_getElem hk), List.getElem_mem hk⟩
def StOk (r s : Int) : Prop := s ≠ 0 ∧ -r ≤ s ∧ s ≤ r
theorem outI_fun (g : Int → Int) : ∀ {s : List Int} {out : List D}, Paired (fun d r => ∃ t : Int, d = .int t ∧ r = .int (g t)) (s.map PyData.int) out → out = (s.map g).map PyData.int
  | [], _, h => by cases h; rfl
  | t :: s, _, h => by
    cases h with
    | cons h1 h2 =>
      obtain ⟨u, e, rfl⟩ := h1
      injection e with e
      rw [List.map_cons, List.map_cons, ← outI_fun g h2, e]
def Nb (b : Nat) (xs : List Int) : Prop := ∀ x ∈ xs, x.natAbs ≤ b
def Gb (x : Int) : Prop := x.natAbs < 2 ^ 400
def pw (i : Nat) : Int := (1000000 : Int) ^ i
theorem pw_succ (i : Nat) : pw (i + 1) = pw i * 1000000 := by unfold pw; rw [Int.pow_succ]
theorem pw_big : ∀ i : Nat, i ≤ 16 → pw i < 2 ^ 400 := fun i h => by
  have : ∀ j : Fin 17, pw j.val < 2 ^ 400 := by decide +kernel
  exact this ⟨i, by omega⟩
theorem outI_all {Q : Int → Prop} : ∀ {ds out : List D}, Paired (fun _ r => ∃ x : Int, r = .int x ∧ Q x) ds out → ∃ xs : List Int, out = xs.map PyData.int ∧ xs.length = ds.length ∧ ∀ x ∈ xs, Q x
  | _, _, .nil => ⟨[], rfl, rfl, fun x h => by cases h⟩
  | _, _, .cons h t => by
    obtain ⟨x, rfl, hx⟩ := h
    obtain ⟨xs, rfl, e, hq⟩ := outI_all t
    exact ⟨x :: xs, rfl, by rw [List.length_cons, List.length_cons, e], fun y hy => (List.mem_cons.mp hy).elim (fun z => by rw [z]; exact hx) (hq y)⟩
def tle (a b : Tp) : Bool := dataLe false id (dT a) (dT b)
def lst (a : List Tp) : List Tp := (a.filter fun t => decide (t.2 ≠ 0)).mergeSort tle
def pI : D → Bool
  | .tuple [_, .int n] => decide (n ≠ 0)
  | _ => false
theorem kvP_kvO (a : List Tp) : kvPairs (kvO a) = a.map fun t => PyData.tuple [dK t.1, .int t.2] := by
  unfold kvPairs
  show (a.map _).map _ = _
  rw [List.map_map]
  rfl
theorem items_out : ∀ {a : List Tp} {out : List D}, Paired (fun d r => ∃ t : Tp, d = .tuple [dK t.1, .int t.2] ∧ r = dT t) ((a.map fun t => PyData.tuple [dK t.1, .int t.2]).filter pI) out → out = (a.filter fun t => decide (t.2 ≠ 0)).map dT
  | [], _, h => by cases h; rfl
  | t :: a, out, h => by
    rw [List.map_cons, List.filter_cons] at h
    rw [List.filter_cons]
    have e : pI (.tuple [dK t.1, .int t.2]) = decide (t.2 ≠ 0) := rfl
    rw [e] at h
    split at h
    · rename_i z
      rw [if_pos z]
      cases h with
      | cons h1 h2 =>
        obtain ⟨u, e', rfl⟩ := h1
        injection e' with e'
        injection e' with e1 e'
        injection e' with e2 _
        injection e2 with e2
        rw [List.map_cons, ← items_out h2, show u = t from Prod.ext (dK_inj e1).symm e2.symm]
    · rename_i z
      rw [if_neg z]
      exact items_out h
theorem alike_dT (a b : Tp) : alike (dT a) (dT b) = true := by simp [alike, alikeAll, alike_ints]
theorem depth_dT (a : Tp) : (dT a).depth ≤ 8 := by
  have := depth_ints a.1.1
  simp [PyData.depthAll, PyData.depth]
  omega
theorem sort_lst (l : List Tp) : (l.map dT).mergeSort (dataLe false id) = (l.mergeSort tle).map dT :=
  (List.map_mergeSort (r := tle) (s := dataLe false id) (f := dT) fun _ _ _ _ => rfl).symm
abbrev Pt := Int × List Tp
abbrev dP (p : Pt) : D := .tuple [.int p.1, dS p.2]
def flat (ps : List Pt) : List Tp := ps.flatMap fun p => mulS p.1 p.2
theorem mulS_snoc (f : Int) (l : List Tp) (t : Tp) : mulS f (l ++ [t]) = mulS f l ++ [(t.1, f * t.2)] := by unfold mulS; rw [List.map_append]; rfl
theorem addAll_app (a l m : List Tp) : addAll a (l ++ m) = addAll (addAll a l) m := by unfold addAll; rw [List.foldl_append]
theorem flat_snoc (ps : List Pt) (p : Pt) : flat (ps ++ [p]) = flat ps ++ mulS p.1 p.2 := by unfold flat; rw [List.flatMap_append, List.flatMap_cons, List.flatMap_nil, List.append_nil]
theorem dP_inj : ∀ {ps qs : List Pt}, ps.map dP = qs.map dP → ps = qs
  | [], [], _ => rfl
  | [], _ :: _, h => by cases h
  | _ :: _, [], h => by cases h
  | p :: ps, q :: qs, h => by
    rw [List.map_cons, List.map_cons] at h
    injection h with h1 h2
    injection h1 with h1
    injection h1 with h1 h3
    injection h1 with h1
    injection h3 with h3 _
    rw [dP_inj h2, Prod.ext h1 (dS_inj h3)]
theorem flat_le {ps : List Pt} {i : Nat} {p : Pt} (h : ps[i]? = some p) (j : Nat) : (flat (ps.take i)).length + (mulS p.1 (p.2.take j)).length ≤ (flat ps).length := by
  have e : ps = ps.take i ++ p :: ps.drop (i + 1) := by
    have hi := (List.getElem?_eq_some_iff.mp h).1
    have e1 := (List.getElem?_eq_some_iff.mp h).2
    rw [← e1, ← List.drop_eq_getElem_cons hi, List.take_append_drop]
  have e2 : (flat ps).length = (flat (ps.take i)).length + ((mulS p.1 p.2).length + (flat (ps.drop (i + 1))).length) := by
    conv => lhs; rw [e]
    unfold flat
    rw [List.flatMap_append, List.flatMap_cons, List.length_append, List.length_append]
  have e3 : (mulS p.1 (p.2.take j)).length ≤ (mulS p.1 p.2).length := by unfold mulS; rw [List.length_map, List.length_map, List.length_take]; omega
  omega
def AllS (r : Int) (xs : List Int) : Prop := ∀ s ∈ xs, StOk r s
theorem allS_int {Q : Int → Prop} {ds : List D} (h : ∀ d ∈ ds, ∃ s : Int, d = .int s ∧ Q s) : ∃ xs : List Int, ds = xs.map PyData.int ∧ ∀ s ∈ xs, Q s := by
  induction ds with
  | nil => exact ⟨[], rfl, fun _ h => by cases h⟩
  | cons d ds ih =>
    obtain ⟨s, rfl, q⟩ := h d List.mem_cons_self
    obtain ⟨xs, rfl, hq⟩ := ih fun d hd => h d (List.mem_cons_of_mem _ hd)
    exact ⟨s :: xs, rfl, fun y hy => (List.mem_cons.mp hy).elim (fun z => by rw [z]; exact q) (hq y)⟩
theorem neg_ok {r : Int} {xs : List Int} (h : AllS r xs) : AllS r (xs.map fun x => -x) := fun s hs => by
  obtain ⟨x, hx, rfl⟩ := List.mem_map.mp hs
  obtain ⟨a, b, c⟩ := h x hx
  exact ⟨by omega, by omega, by omega⟩
theorem cut_hiI (xs : List Int) {k : Int} (h : 0 ≤ k) : DW.cutD (xs.map PyData.int) none (some k) = (xs.take k.toNat).map PyData.int := by
  obtain ⟨n, rfl⟩ : ∃ n : Nat, k = n := ⟨k.toNat, by omega⟩
  rw [cut_hi, List.map_take, Int.toNat_natCast]
def noFdB (es : List Sl) : Bool := es.all fun e => match e with
  | .fd _ => false
  | _ => true
theorem nofd_of {es : List Sl} (h : noFdB es = true) : ∀ (j : Nat) kvs, es[j]? ≠ some (.fd kvs) := fun j kvs e => by
  have := List.all_eq_true.mp h _ (List.mem_of_getElem? e)
  cases this
theorem erase_map : ∀ (L : List Int) (k : Nat), (L.map PyData.int).eraseIdx k = (L.eraseIdx k).map PyData.int
  | [], _ => rfl
  | _ :: _, 0 => rfl
  | x :: L, k + 1 => by rw [List.map_cons, List.eraseIdx_cons_succ, List.eraseIdx_cons_succ, List.map_cons, erase_map L k]
def Vb (b : Nat) (a : List Tp) : Prop := ∀ t ∈ a, t.2.natAbs ≤ b
theorem valT_mem (a : List Tp) (k : Kk) : valT a k = 0 ∨ ∃ t ∈ a, t.1 = k ∧ valT a k = t.2 := by
  unfold valT
  cases e : a.find? fun t => decide (t.1 = k) with
  | none => exact .inl rfl
  | some t => exact .inr ⟨t, List.mem_of_find?_eq_some e, by simpa using List.find?_some e, rfl⟩
theorem valT_vb {a : List Tp} {b : Nat} (h : Vb b a) (k : Kk) : (valT a k).natAbs ≤ b := by
  rcases valT_mem a k with e | ⟨t, ht, _, e⟩
  · rw [e]; exact Nat.zero_le _
  · rw [e]; exact h t ht
theorem putT_mem {a : List Tp} {k : Kk} {v : Int} {t : Tp} (h : t ∈ putT a k v) : t ∈ a ∨ t = (k, v) := by
  unfold putT at h
  split at h
  · obtain ⟨u, hu, e⟩ := List.mem_map.mp h
    split at e
    · rename_i z
      subst e
      exact .inr (by rw [z])
    · subst e; exact .inl hu
  · rcases List.mem_append.mp h with z | z
    · exact .inl z
    · exact .inr (List.mem_singleton.mp z)
theorem putT_nodup {a : List Tp} {k : Kk} {v : Int} (h : (a.map (·.1)).Nodup) : ((putT a k v).map (·.1)).Nodup := by
  unfold putT
  split
  · rw [List.map_map]
    have e : ((fun t : Tp => t.1) ∘ fun t : Tp => if t.1 = k then (t.1, v) else t) = fun t : Tp => t.1 := by
      funext t
      show (if t.1 = k then (t.1, v) else t : Tp).1 = t.1
      split <;> rfl
    rw [e]
    exact h
  · rename_i hn
    rw [List.map_append]
    refine List.nodup_append.mpr ⟨h, by simp, fun x hx y hy e => ?_⟩
    obtain ⟨z, hz, rfl⟩ := List.mem_map.mp hx
    have hy' : y = k := by simpa using hy
    exact hn (List.any_eq_true.mpr ⟨z, hz, decide_eq_true (e.trans hy')⟩)
/-- what is known of a dict of the law's -/
structure Gd (r : Int) (a : List Tp) : Prop where
  nd : (a.map (·.1)).Nodup
  each : ∀ t ∈ a, KOk r t.1 ∧ (∀ x ∈ t.1.1, Gb x) ∧ Gb t.2
theorem gb_of {x : Int} {n : Nat} (h : x.natAbs ≤ n) (hn : n < 1000) : Gb x := Nat.lt_of_le_of_lt h (Nat.lt_trans hn (by decide +kernel))
theorem gd_put {r : Int} {a : List Tp} {k : Kk} {v : Int} (g : Gd r a) (hk : KOk r k) (hx : ∀ x ∈ k.1, Gb x) (hv : Gb v) : Gd r (putT a k v) := by
  refine ⟨putT_nodup g.nd, fun t ht => ?_⟩
  rcases putT_mem ht with z | z
  · exact g.each t z
  · rw [z]; exact ⟨hk, hx, hv⟩
theorem gd_nil {r : Int} : Gd r [] := ⟨List.nodup_nil, fun t ht => by cases ht⟩
theorem gb_small {x : Int} (h : x.natAbs ≤ 900) : Gb x := gb_of h (by decide)
theorem noOwn8 {a b c d e f g h z : Sl} (h1 : isOwn z = false) (h2 : ∀ kvs, z ≠ .fd kvs) : noOwn [a, b, c, d, e, f, g, h, z] [8] = true := by
  cases z with
  | own _ => cases h1
  | od _ => cases h1
  | oda _ _ => cases h1
  | fd kvs => exact absurd rfl (h2 kvs)
  | _ => rfl
theorem lst_sub {a : List Tp} {t : Tp} (h : t ∈ lst a) : t ∈ a := by
  unfold lst at h
  exact (List.mem_filter.mp (List.mem_mergeSort.mp h)).1
theorem lst_len (a : List Tp) : (lst a).length ≤ a.length := by
  unfold lst
  rw [List.length_mergeSort]
  exact List.length_filter_le _ _
theorem gb_neg {x : Int} (h : Gb x) : Gb (-x) := by unfold Gb at *; omega
def kl (a b : Kk) : Bool := dataLt (dK a) (dK b)
theorem toks_ints : ∀ (xs ys : List Int) (l m : List (Int ⊕ List Nat)), keyToksAll (xs.map PyData.int) ++ l = keyToksAll (ys.map PyData.int) ++ m → xs = ys ∧ l = m
  | [], [], l, m, h => by simpa [keyToksAll] using h
  | [], y :: ys, l, m, h => by simp [keyToksAll, keyToks] at h
  | x :: xs, [], l, m, h => by simp [keyToksAll, keyToks] at h
  | x :: xs, y :: ys, l, m, h => by
    simp only [List.map_cons, keyToksAll, keyToks, List.cons_append, List.nil_append, List.cons.injEq, true_and, Sum.inl.injEq] at h
    obtain ⟨h1, h2⟩ := h
    obtain ⟨h3, h4⟩ := toks_ints xs ys l m h2
    exact ⟨by rw [h1, h3], h4⟩
theorem toks_dK (a : Kk) : keyToks (dK a) = .inl 1 :: (keyToksAll (a.1.map PyData.int) ++ [.inl 1, .inl a.2, .inl 0]) := by
  simp [keyToks, keyToksAll]
theorem toks_dT (a : Tp) : keyToks (dT a) = .inl 1 :: (keyToksAll (a.1.1.map PyData.int) ++ [.inl 1, .inl a.1.2, .inl 1, .inl a.2, .inl 0]) := by
  simp [keyToks, keyToksAll]
theorem kl_irrefl (a : Kk) : kl a a = false := lex_irrefl _
theorem kl_trans {a b c : Kk} (h1 : kl a b = true) (h2 : kl b c = true) : kl a c = true := lex_trans _ _ _ h1 h2
theorem kl_total {a b : Kk} (h1 : kl a b = false) (h2 : kl b a = false) : a = b := by
  have e : keyToks (dK a) = keyToks (dK b) := lex_total _ _ h1 h2
  rw [toks_dK, toks_dK] at e
  injection e with _ e
  obtain ⟨e1, e2⟩ := toks_ints _ _ _ _ e
  simp at e2
  exact Prod.ext e1 e2
theorem kl_asymm {a b : Kk} (h1 : kl a b = true) : kl b a = false := by
  cases e : kl b a with
  | false => rfl
  | true => have := kl_trans h1 e; rw [kl_irrefl] at this; cases this
theorem kle_eq (a b : Kk) : kle a b = !kl b a := rfl
theorem tle_eq (a b : Tp) : tle a b = !dataLt (dT b) (dT a) := rfl
def lxt (a b : List (Int ⊕ List Nat)) : Bool := PyProof.Rows.lexLt itemOrd a b
theorem lx (x y : Int ⊕ List Nat) (r t : List (Int ⊕ List Nat)) : lxt (x :: r) (y :: t) = (itemLt x y || (!itemLt y x && lxt r t)) := rfl
/-- keys that differ decide -/
theorem lex_rest : ∀ (xs ys : List Int) (i j : Int) (l m l' m' : List (Int ⊕ List Nat)), (xs, i) ≠ (ys, j) →
    lxt (keyToksAll (xs.map PyData.int) ++ (.inl 1 :: .inl i :: l)) (keyToksAll (ys.map PyData.int) ++ (.inl 1 :: .inl j :: m)) = lxt (keyToksAll (xs.map PyData.int) ++ (.inl 1 :: .inl i :: l')) (keyToksAll (ys.map PyData.int) ++ (.inl 1 :: .inl j :: m'))
  | [], [], i, j, l, m, l', m', h => by
    have hij : i ≠ j := fun e => h (by rw [e])
    simp only [List.map_nil, keyToksAll, List.cons_append, List.nil_append, lx]
    by_cases h1 : i < j
    · simp [itemLt, h1]
    · have h2 : j < i := by omega
      simp [itemLt, h1, h2]
  | [], y :: ys, i, j, l, m, l', m', h => by simp only [List.map_nil, List.map_cons, keyToksAll, List.cons_append, List.nil_append, lx]; simp [itemLt]
  | x :: xs, [], i, j, l, m, l', m', h => by simp only [List.map_nil, List.map_cons, keyToksAll, List.cons_append, List.nil_append, lx]; simp [itemLt]
  | x :: xs, y :: ys, i, j, l, m, l', m', h => by
    simp only [List.map_cons, keyToksAll, keyToks, List.cons_append, List.nil_append, lx]
    by_cases e : x = y
    · rw [lex_rest xs ys i j l m l' m' fun z => h (by injection z with z1 z2; rw [e, z1, z2])]
    · by_cases h1 : x < y
      · simp [itemLt, h1]
      · have h2 : y < x := by omega
        simp [itemLt, h1, h2]
theorem lt_dT {a b : Tp} (h : a.1 ≠ b.1) : dataLt (dT a) (dT b) = kl a.1 b.1 := by
  show lxt (keyToks (dT a)) (keyToks (dT b)) = lxt (keyToks (dK a.1)) (keyToks (dK b.1))
  rw [toks_dT, toks_dT, toks_dK, toks_dK, lx, lx, lex_rest a.1.1 b.1.1 a.1.2 b.1.2 _ _ [.inl 0] [.inl 0] fun z => h (Prod.ext (by injection z) (by injection z))]
theorem lex_shift : ∀ (xs ys rm : List Int) (i j : Int) (l m : List (Int ⊕ List Nat)), xs.length = rm.length → ys.length = rm.length →
    lxt (keyToksAll ((List.zipWith (· + ·) xs rm).map PyData.int) ++ l) (keyToksAll ((List.zipWith (· + ·) ys rm).map PyData.int) ++ m) = lxt (keyToksAll (xs.map PyData.int) ++ l) (keyToksAll (ys.map PyData.int) ++ m)
  | [], [], _, i, j, l, m, _, _ => by simp
  | [], _ :: _, rm, i, j, l, m, h1, h2 => by simp at h1 h2; omega
  | _ :: _, [], rm, i, j, l, m, h1, h2 => by simp at h1 h2; omega
  | _ :: _, _ :: _, [], i, j, l, m, h1, h2 => by simp at h1
  | x :: xs, y :: ys, r :: rm, i, j, l, m, h1, h2 => by
    simp only [List.zipWith_cons_cons, List.map_cons, keyToksAll, keyToks, List.cons_append, List.nil_append, lx]
    rw [lex_shift xs ys rm i j l m (by simpa using h1) (by simpa using h2)]
    have e1 : itemLt (.inl (x + r)) (.inl (y + r)) = itemLt (.inl x) (.inl y) := by
      simp [itemLt]
    have e2 : itemLt (.inl (y + r)) (.inl (x + r)) = itemLt (.inl y) (.inl x) := by
      simp [itemLt]
    rw [e1, e2]
def mvK (rm : List Int) (k : Kk) : Kk := (List.zipWith (· + ·) k.1 rm, k.2)
theorem kl_mv {a b : Kk} {rm : List Int} (h1 : a.1.length = rm.length) (h2 : b.1.length = rm.length) : kl (mvK rm a) (mvK rm b) = kl a b := by
  show lxt (keyToks (dK (mvK rm a))) (keyToks (dK (mvK rm b))) = lxt (keyToks (dK a)) (keyToks (dK b))
  rw [toks_dK, toks_dK, toks_dK, toks_dK, lx, lx]
  exact congrArg _ (congrArg _ (lex_shift a.1 b.1 rm a.2 b.2 _ _ h1 h2))
def Up (s : List Tp) : Prop := s.Pairwise fun a b => kl a.1 b.1 = true
theorem asc_up : ∀ {s : List Tp}, Asc s ↔ Up s
  | [] => ⟨fun _ => List.Pairwise.nil, fun _ => trivial⟩
  | [t] => ⟨fun _ => List.pairwise_singleton _ _, fun _ => trivial⟩
  | t :: u :: s => by
    constructor
    · intro h
      have ih : Up (u :: s) := asc_up.mp h.2
      refine List.Pairwise.cons (fun v hv => ?_) ih
      rcases List.mem_cons.mp hv with e | e
      · rw [e]; exact h.1
      · exact kl_trans h.1 ((List.pairwise_cons.mp ih).1 v e)
    · intro h
      obtain ⟨h1, h2⟩ := List.pairwise_cons.mp h
      exact ⟨h1 u List.mem_cons_self, asc_up.mpr h2⟩
theorem up_nodup {s : List Tp} (h : Up s) : (s.map (·.1)).Nodup := by
  refine List.pairwise_map.mpr (h.imp fun {a b} z e => ?_)
  rw [e, kl_irrefl] at z
  cases z
structure Can (s : List Tp) : Prop where
  up : Up s
  nz : ∀ t ∈ s, t.2 ≠ 0
theorem val_nodup : ∀ {s : List Tp}, (s.map (·.1)).Nodup → ∀ {t : Tp}, t ∈ s → valT s t.1 = t.2
  | [], _, t, h => by cases h
  | u :: s, hn, t, h => by
    rw [List.map_cons, List.nodup_cons] at hn
    unfold valT
    rw [List.find?_cons]
    rcases List.mem_cons.mp h with e | e
    · rw [e, decide_eq_true rfl]; rfl
    · have : u.1 ≠ t.1 := fun z => hn.1 (by rw [z]; exact List.mem_map_of_mem e)
      rw [decide_eq_false this]
      exact val_nodup hn.2 e
theorem val_ne {s : List Tp} {k : Kk} (h : valT s k ≠ 0) : ∃ t ∈ s, t.1 = k ∧ valT s k = t.2 := (valT_mem s k).resolve_left h
theorem can_mem {s : List Tp} (c : Can s) (t : Tp) : t ∈ s ↔ valT s t.1 = t.2 ∧ t.2 ≠ 0 := by
  constructor
  · exact fun h => ⟨val_nodup (up_nodup c.up) h, c.nz t h⟩
  · rintro ⟨h1, h2⟩
    obtain ⟨u, hu, e1, e2⟩ := val_ne (s := s) (k := t.1) (by rw [h1]; exact h2)
    have : u = t := Prod.ext e1 (by rw [← e2, h1])
    rw [← this]; exact hu
theorem can_ext {s s' : List Tp} (c : Can s) (c' : Can s') (h : ∀ k, valT s k = valT s' k) : s = s' := by
  have n1 : s.Nodup := (c.up.imp fun {a b} z e => by rw [e, kl_irrefl] at z; cases z)
  have n2 : s'.Nodup := (c'.up.imp fun {a b} z e => by rw [e, kl_irrefl] at z; cases z)
  have p : s.Perm s' := (List.perm_ext_iff_of_nodup n1 n2).mpr fun t => by rw [can_mem c, can_mem c', h]
  exact List.Perm.eq_of_pairwise (le := fun (a b : Tp) => kl a.1 b.1 = true) (fun a b _ _ h1 h2 => by rw [kl_asymm h1] at h2; cases h2) c.up c'.up p
theorem kl_or {a b : Kk} (h : a ≠ b) (h1 : kl b a = false) : kl a b = true := by
  cases e : kl a b with
  | true => rfl
  | false => exact absurd (kl_total e h1) h
theorem kle_trans (a b c : Kk) (h1 : kle a b = true) (h2 : kle b c = true) : kle a c = true := by
  rw [kle_eq, Bool.not_eq_true'] at *
  by_cases e : a = b
  · rw [e]; exact h2
  · by_cases e2 : b = c
    · rw [← e2]; exact h1
    · exact kl_asymm (kl_trans (kl_or e h1) (kl_or e2 h2))
theorem kle_total (a b : Kk) : (kle a b || kle b a) = true := by
  rw [kle_eq, kle_eq]
  cases e : kl b a with
  | false => rfl
  | true => rw [kl_asymm e]; rfl
def tl (a b : Tp) : Bool := dataLt (dT a) (dT b)
theorem tl_total {a b : Tp} (h1 : tl a b = false) (h2 : tl b a = false) : a = b := by
  have e : keyToks (dT a) = keyToks (dT b) := lex_total _ _ h1 h2
  rw [toks_dT, toks_dT] at e
  injection e with _ e
  obtain ⟨e1, e2⟩ := toks_ints _ _ _ _ e
  simp at e2
  exact Prod.ext (Prod.ext e1 e2.1) e2.2
theorem tl_trans {a b c : Tp} (h1 : tl a b = true) (h2 : tl b c = true) : tl a c = true := lex_trans _ _ _ h1 h2
theorem tl_irrefl (a : Tp) : tl a a = false := lex_irrefl _
theorem tl_asymm {a b : Tp} (h1 : tl a b = true) : tl b a = false := by
  cases e : tl b a with
  | false => rfl
  | true => have := tl_trans h1 e; rw [tl_irrefl] at this; cases this
theorem tl_or {a b : Tp} (h : a ≠ b) (h1 : tl b a = false) : tl a b = true := by
  cases e : tl a b with
  | true => rfl
  | false => exact absurd (tl_total e h1) h
theorem tle_tl (a b : Tp) : tle a b = !tl b a := rfl
theorem tle_trans (a b c : Tp) (h1 : tle a b = true) (h2 : tle b c = true) : tle a c = true := by
  rw [tle_tl, Bool.not_eq_true'] at *
  by_cases e : a = b
  · rw [e]; exact h2
  · by_cases e2 : b = c
    · rw [← e2]; exact h1
    · exact tl_asymm (tl_trans (tl_or e h1) (tl_or e2 h2))
theorem tle_total (a b : Tp) : (tle a b || tle b a) = true := by
  rw [tle_tl, tle_tl]
  cases e : tl b a with
  | false => rfl
  | true => rw [tl_asymm e]; rfl
abbrev Nk (a : List Tp) : Prop := (a.map (·.1)).Nodup
theorem nk_pair {a : List Tp} (h : Nk a) : a.Pairwise fun s t => s.1 ≠ t.1 := List.pairwise_map.mp h
theorem val_eq {s a : List Tp} (ns : Nk s) (na : Nk a) (h : ∀ t : Tp, t.2 ≠ 0 → (t ∈ s ↔ t ∈ a)) (k : Kk) : valT s k = valT a k := by
  by_cases e : valT a k = 0
  · by_cases e2 : valT s k = 0
    · rw [e, e2]
    · obtain ⟨t, ht, rfl, et⟩ := val_ne e2
      rw [et] at e2
      have := val_nodup na ((h t e2).mp ht)
      rw [this] at e
      exact absurd e e2
  · obtain ⟨t, ht, rfl, et⟩ := val_ne e
    rw [et] at e ⊢
    exact val_nodup ns ((h t e).mpr ht)
theorem can_lst {a : List Tp} (h : Nk a) : Can (lst a) ∧ ∀ k, valT (lst a) k = valT a k := by
  have hp : (lst a).Perm (a.filter fun t => decide (t.2 ≠ 0)) := List.mergeSort_perm _ _
  have nf : (a.filter fun t => decide (t.2 ≠ 0)).Pairwise fun s t => s.1 ≠ t.1 := (nk_pair h).filter _
  have nl : (lst a).Pairwise fun s t => s.1 ≠ t.1 := (hp.pairwise_iff fun {x y} z e => z e.symm).mpr nf
  have ps : (lst a).Pairwise fun s t => tle s t = true := List.pairwise_mergeSort tle_trans tle_total _
  have up : Up (lst a) := (ps.and nl).imp fun {s t} ⟨h1, h2⟩ => by
    rw [tle_tl, Bool.not_eq_true'] at h1
    refine kl_or h2 ?_
    rw [← lt_dT fun z => h2 z.symm]
    exact h1
  have c : Can (lst a) := ⟨up, fun t ht => of_decide_eq_true (List.mem_filter.mp (hp.mem_iff.mp ht)).2⟩
  refine ⟨c, val_eq (up_nodup up) h fun t ht => ?_⟩
  rw [hp.mem_iff, List.mem_filter]
  exact ⟨fun z => z.1, fun z => ⟨z, decide_eq_true ht⟩⟩
theorem mem_canon {a : List Tp} {t : Tp} : t ∈ canon a ↔ t.1 ∈ a.map (·.1) ∧ valT a t.1 ≠ 0 ∧ t.2 = valT a t.1 := by
  unfold canon
  rw [List.mem_map]
  constructor
  · rintro ⟨k, hk, rfl⟩
    obtain ⟨h1, h2⟩ := List.mem_filter.mp hk
    exact ⟨List.mem_mergeSort.mp h1, of_decide_eq_true h2, rfl⟩
  · rintro ⟨h1, h2, h3⟩
    exact ⟨t.1, List.mem_filter.mpr ⟨List.mem_mergeSort.mpr h1, decide_eq_true h2⟩, Prod.ext rfl h3.symm⟩
theorem can_canon {a : List Tp} (h : Nk a) : Can (canon a) ∧ ∀ k, valT (canon a) k = valT a k := by
  have hp : ((a.map (·.1)).mergeSort kle).Perm (a.map (·.1)) := List.mergeSort_perm _ _
  have nd : ((a.map (·.1)).mergeSort kle).Nodup := hp.nodup_iff.mpr h
  have ps : ((a.map (·.1)).mergeSort kle).Pairwise fun s t => kle s t = true := List.pairwise_mergeSort kle_trans kle_total _
  have up : Up (canon a) := by
    refine List.pairwise_map.mpr (List.Pairwise.filter _ ((ps.and nd).imp fun {s t} ⟨h1, h2⟩ => ?_))
    rw [kle_eq, Bool.not_eq_true'] at h1
    exact kl_or h2 h1
  refine ⟨⟨up, fun t ht => ?_⟩, val_eq (up_nodup up) h fun t ht => ?_⟩
  · obtain ⟨_, h1, h2⟩ := mem_canon.mp ht
    rw [h2]; exact h1
  · rw [mem_canon]
    constructor
    · rintro ⟨h1, h2, h3⟩
      obtain ⟨u, hu, e⟩ := List.mem_map.mp h1
      have := val_nodup h hu
      rw [e] at this
      have : u = t := Prod.ext e (by rw [h3, this])
      rw [← this]; exact hu
    · intro z
      have := val_nodup h z
      exact ⟨List.mem_map_of_mem z, by rw [this]; exact ht, this.symm⟩
def sumAt (l : List Tp) (k : Kk) : Int := ((l.filter fun t => decide (t.1 = k)).map (·.2)).sum
theorem sumAt_cons (t : Tp) (l : List Tp) (k : Kk) : sumAt (t :: l) k = (if t.1 = k then t.2 else 0) + sumAt l k := by
  unfold sumAt
  rw [List.filter_cons]
  by_cases h : t.1 = k
  · rw [if_pos (decide_eq_true h), if_pos h]; rfl
  · rw [if_neg (by rw [decide_eq_false h]; exact Bool.false_ne_true), if_neg h, Int.zero_add]
theorem sumAt_app (l m : List Tp) (k : Kk) : sumAt (l ++ m) k = sumAt l k + sumAt m k := by
  induction l with
  | nil => show sumAt m k = 0 + sumAt m k; omega
  | cons t l ih => rw [List.cons_append, sumAt_cons, sumAt_cons, ih]; omega
theorem sumAt_none {l : List Tp} {k : Kk} (h : k ∉ l.map (·.1)) : sumAt l k = 0 := by
  induction l with
  | nil => rfl
  | cons t l ih =>
    rw [List.map_cons] at h
    rw [sumAt_cons, if_neg (fun e => h (by rw [← e]; exact List.mem_cons_self)), ih (fun z => h (List.mem_cons_of_mem _ z))]
    rfl
theorem val_cons (t : Tp) (l : List Tp) (k : Kk) : valT (t :: l) k = if t.1 = k then t.2 else valT l k := by
  unfold valT
  rw [List.find?_cons]
  by_cases h : t.1 = k
  · rw [decide_eq_true h, if_pos h]; rfl
  · rw [decide_eq_false h, if_neg h]
theorem sumAt_val : ∀ {l : List Tp}, Nk l → ∀ k, sumAt l k = valT l k
  | [], _, k => rfl
  | t :: l, h, k => by
    rw [Nk, List.map_cons, List.nodup_cons] at h
    rw [sumAt_cons, val_cons]
    by_cases e : t.1 = k
    · rw [if_pos e, if_pos e, sumAt_none (by rw [← e]; exact h.1), Int.add_zero]
    · rw [if_neg e, if_neg e, sumAt_val h.2, Int.zero_add]
theorem sumAt_mul (f : Int) : ∀ (l : List Tp) (k : Kk), sumAt (mulS f l) k = f * sumAt l k
  | [], k => by show (0 : Int) = f * 0; rw [Int.mul_zero]
  | t :: l, k => by
    show sumAt ((t.1, f * t.2) :: mulS f l) k = _
    rw [sumAt_cons, sumAt_cons, sumAt_mul f l k, Int.mul_add]
    by_cases e : t.1 = k
    · rw [if_pos e, if_pos e]
    · rw [if_neg e, if_neg e, Int.mul_zero]
theorem val_app_none {a b : List Tp} {k : Kk} (h : ∀ t ∈ a, t.1 ≠ k) : valT (a ++ b) k = valT b k := by
  induction a with
  | nil => rfl
  | cons t a ih => rw [List.cons_append, val_cons, if_neg (h t List.mem_cons_self), ih fun u hu => h u (List.mem_cons_of_mem _ hu)]
theorem val_app_some {a b : List Tp} {k : Kk} (h : ∃ t ∈ a, t.1 = k) : valT (a ++ b) k = valT a k := by
  induction a with
  | nil => obtain ⟨_, h, _⟩ := h; cases h
  | cons t a ih =>
    rw [List.cons_append, val_cons, val_cons]
    by_cases e : t.1 = k
    · rw [if_pos e, if_pos e]
    · rw [if_neg e, if_neg e]
      obtain ⟨u, hu, eu⟩ := h
      exact ih ⟨u, (List.mem_cons.mp hu).resolve_left (fun z => e (by rw [← z]; exact eu)), eu⟩
theorem val_put (a : List Tp) (k : Kk) (v : Int) (k' : Kk) : valT (putT a k v) k' = if k = k' then v else valT a k' := by
  unfold putT
  split
  · rename_i h
    obtain ⟨u, hu, eu⟩ := List.any_eq_true.mp h
    have eu := of_decide_eq_true eu
    clear h
    induction a with
    | nil => cases hu
    | cons t a ih =>
      rw [List.map_cons, val_cons, val_cons]
      by_cases e : t.1 = k
      · rw [if_pos e]
        show (if t.1 = k' then v else _) = _
        by_cases e2 : k = k'
        · rw [if_pos e2, if_pos (e.trans e2)]
        · rw [if_neg e2, if_neg (fun z => e2 (e.symm.trans z)), if_neg (fun z => e2 (e.symm.trans z))]
          have keep : ∀ b : List Tp, valT (b.map fun t => if t.1 = k then (t.1, v) else t) k' = valT b k' := fun b => by
            induction b with
            | nil => rfl
            | cons w b ihb =>
              rw [List.map_cons, val_cons, val_cons, ihb]
              by_cases e3 : w.1 = k
              · rw [if_pos e3]
                rw [if_neg (show ¬ (w.1, v).1 = k' from fun z => e2 (e3.symm.trans z)), if_neg (fun z => e2 (e3.symm.trans z))]
              · rw [if_neg e3]
          exact keep a
      · rw [if_neg e]
        have hu' : u ∈ a := (List.mem_cons.mp hu).resolve_left fun z => e (by rw [← z]; exact eu)
        rw [ih hu']
        by_cases e2 : k = k'
        · rw [if_pos e2, if_neg (fun z => e (z.trans e2.symm)), if_pos e2]
        · rw [if_neg e2, if_neg e2]
  · rename_i h
    have hn : ∀ t ∈ a, t.1 ≠ k := fun t ht e => h (List.any_eq_true.mpr ⟨t, ht, decide_eq_true e⟩)
    by_cases e : k = k'
    · rw [if_pos e, val_app_none (by rw [← e]; exact hn), val_cons, if_pos e]
    · rw [if_neg e]
      by_cases ex : ∃ t ∈ a, t.1 = k'
      · exact val_app_some ex
      · have hk : ∀ t ∈ a, t.1 ≠ k' := fun t ht z => ex ⟨t, ht, z⟩
        rw [val_app_none hk, val_cons, if_neg e]
        show (0 : Int) = _
        rw [val_miss hk]
theorem addAll_val : ∀ (l a : List Tp) (k : Kk), valT (addAll a l) k = valT a k + sumAt l k
  | [], a, k => by show valT a k = valT a k + 0; omega
  | t :: l, a, k => by
    show valT (addAll (putT a t.1 (valT a t.1 + t.2)) l) k = _
    rw [addAll_val l, val_put, sumAt_cons]
    by_cases e : t.1 = k
    · rw [if_pos e, if_pos e, e]; omega
    · rw [if_neg e, if_neg e]; omega
theorem addAll_nk : ∀ (l a : List Tp), Nk a → Nk (addAll a l)
  | [], a, h => h
  | t :: l, a, h => addAll_nk l _ (putT_nodup h)
theorem addAll_mem : ∀ (l a : List Tp) (t : Tp), t ∈ addAll a l → t.1 ∈ a.map (·.1) ∨ t.1 ∈ l.map (·.1)
  | [], a, t, h => .inl (List.mem_map_of_mem h)
  | u :: l, a, t, h => by
    rcases addAll_mem l _ t h with z | z
    · obtain ⟨v, hv, e⟩ := List.mem_map.mp z
      rcases putT_mem hv with y | y
      · exact .inl (by rw [← e]; exact List.mem_map_of_mem y)
      · exact .inr (by rw [← e, y]; exact List.mem_cons_self)
    · exact .inr (List.mem_cons_of_mem _ z)
theorem sum_can (l : List Tp) : Can (lst (addAll [] l)) ∧ ∀ k, valT (lst (addAll [] l)) k = sumAt l k := by
  have nk : Nk (addAll [] l) := addAll_nk l [] List.nodup_nil
  obtain ⟨h1, h2⟩ := can_lst nk
  refine ⟨h1, fun k => ?_⟩
  rw [h2, addAll_val]
  show 0 + _ = _
  omega
theorem addS_can {a b : List Tp} (ha : Can a) (hb : Can b) : Can (addS a b) ∧ ∀ k, valT (addS a b) k = valT a k + valT b k := by
  have nk : Nk (addAll [] (a ++ b)) := addAll_nk _ [] List.nodup_nil
  obtain ⟨h1, h2⟩ := can_canon nk
  refine ⟨h1, fun k => ?_⟩
  show valT (canon _) k = _
  rw [h2, addAll_val, sumAt_app, sumAt_val (up_nodup ha.up), sumAt_val (up_nodup hb.up)]
  show 0 + _ = _
  omega
def timS (n : Int) (s : List Tp) : List Tp := if n = 0 then [] else mulS n s
theorem can_nil : Can [] := ⟨List.Pairwise.nil, fun t ht => by cases ht⟩
theorem val_mul (n : Int) : ∀ (s : List Tp) (k : Kk), valT (mulS n s) k = n * valT s k
  | [], k => by show (0 : Int) = n * 0; rw [Int.mul_zero]
  | t :: s, k => by
    show valT ((t.1, n * t.2) :: mulS n s) k = _
    rw [val_cons, val_cons, val_mul n s k]
    by_cases e : t.1 = k
    · rw [if_pos e, if_pos e]
    · rw [if_neg e, if_neg e]
theorem timS_can {n : Int} {s : List Tp} (h : Can s) : Can (timS n s) ∧ ∀ k, valT (timS n s) k = n * valT s k := by
  unfold timS
  split
  · rename_i e
    exact ⟨can_nil, fun k => by rw [e, Int.zero_mul]; rfl⟩
  · rename_i e
    refine ⟨⟨List.pairwise_map.mpr h.up, fun t ht => ?_⟩, val_mul n s⟩
    obtain ⟨u, hu, rfl⟩ := List.mem_map.mp ht
    exact Int.mul_ne_zero e (h.nz u hu)
def Ln (n : Nat) (s : List Tp) : Prop := ∀ t ∈ s, t.1.1.length = n
theorem mv_can {rm : List Int} {s : List Tp} (h : Can s) (hl : Ln rm.length s) : Can (mvS rm s) := by
  refine ⟨List.pairwise_map.mpr (h.up.imp_of_mem fun {a b} ha hb z => ?_), fun t ht => ?_⟩
  · show kl (mvK rm a.1) (mvK rm b.1) = true
    rw [kl_mv (hl a ha) (hl b hb)]
    exact z
  · obtain ⟨u, hu, rfl⟩ := List.mem_map.mp ht
    exact h.nz u hu
def unK (rm : List Int) (k : Kk) : Kk := (List.zipWith (· - ·) k.1 rm, k.2)
theorem zip_un : ∀ {xs rm : List Int}, xs.length = rm.length → List.zipWith (· - ·) (List.zipWith (· + ·) xs rm) rm = xs
  | [], _, _ => by simp
  | x :: xs, [], h => by simp at h
  | x :: xs, r :: rm, h => by
    rw [List.zipWith_cons_cons, List.zipWith_cons_cons, zip_un (by simpa using h)]
    congr 1
    omega
theorem un_zip : ∀ {xs rm : List Int}, xs.length = rm.length → List.zipWith (· + ·) (List.zipWith (· - ·) xs rm) rm = xs
  | [], _, _ => by simp
  | x :: xs, [], h => by simp at h
  | x :: xs, r :: rm, h => by
    rw [List.zipWith_cons_cons, List.zipWith_cons_cons, un_zip (by simpa using h)]
    congr 1
    omega
theorem mv_val {rm : List Int} : ∀ {s : List Tp}, Ln rm.length s → ∀ k : Kk, valT (mvS rm s) k = if k.1.length = rm.length then valT s (unK rm k) else 0
  | [], _, k => by split <;> rfl
  | t :: s, hl, k => by
    have ht := hl t List.mem_cons_self
    have ih := mv_val (s := s) (fun u hu => hl u (List.mem_cons_of_mem _ hu)) k
    show valT ((mvK rm t.1, t.2) :: mvS rm s) k = _
    rw [val_cons, ih, val_cons]
    by_cases e : k.1.length = rm.length
    · rw [if_pos e, if_pos e]
      have iff : mvK rm t.1 = k ↔ t.1 = unK rm k := by
        constructor
        · intro z; rw [← z]; exact Prod.ext (zip_un ht).symm rfl
        · intro z; rw [z]; exact Prod.ext (un_zip e) rfl
      by_cases z : mvK rm t.1 = k
      · rw [if_pos z, if_pos (iff.mp z)]
      · rw [if_neg z, if_neg (fun y => z (iff.mpr y))]
    · rw [if_neg e, if_neg e, if_neg]
      intro z
      apply e
      rw [← z]
      show (List.zipWith _ t.1.1 rm).length = _
      rw [List.length_zipWith, ht, Nat.min_self]
def Sm (i : Int) : Prop := i.natAbs < 2 ^ 1900
theorem sh_int {i : Int} (h : Sm i) : (PyData.shown (.int i)).length ≤ 580 := by
  have h2 : i.natAbs < 10 ^ 573 := Nat.lt_of_lt_of_le h (by decide +kernel)
  have := PySem.int_text_length_le10 (by decide) h2
  show (Str.ofString (toString i)).length ≤ 580
  rw [PySem.ofString_length]
  omega
theorem sm_log {i : Int} (h : Sm i) : i.natAbs.log2 < 1920 := Nat.lt_of_lt_of_le (PySem.Flt.log2_lt_of (by decide) h) (by decide)
theorem ints_ok : ∀ {xs : List Int}, (∀ x ∈ xs, Sm x) → PyData.showableAll (xs.map PyData.int) = true ∧ PyData.hasDictAll (xs.map PyData.int) = false ∧ PyData.leavesShortAll 580 (xs.map PyData.int) = true ∧ PyData.bulkAll (xs.map PyData.int) = xs.length
  | [], _ => ⟨rfl, rfl, rfl, rfl⟩
  | x :: xs, h => by
    obtain ⟨h1, h2, h3, h4⟩ := ints_ok fun y hy => h y (List.mem_cons_of_mem _ hy)
    have hx := h x List.mem_cons_self
    simp only [List.map_cons, PyData.showableAll, PyData.showable, PyData.hasDictAll, PyData.hasDict, PyData.leavesShortAll, PyData.leavesShort, PyData.bulkAll, PyData.bulk, h1, h2, h3, h4, List.length_cons, Bool.and_true, Bool.or_false, decide_eq_true_eq]
    exact ⟨sm_log hx, trivial, sh_int hx, by omega⟩
structure RpT (t : Tp) : Prop where
  ln : t.1.1.length ≤ 4
  co : ∀ x ∈ t.1.1, Sm x
  wy : Sm t.1.2
  nu : Sm t.2
theorem trip_ok {t : Tp} (h : RpT t) : (dT t).showable = true ∧ (dT t).hasDict = false ∧ (dT t).leavesShort 580 = true ∧ (dT t).bulk ≤ 7 := by
  obtain ⟨h1, h2, h3, h4⟩ := ints_ok h.co
  have hl := h.ln
  simp only [PyData.showable, PyData.showableAll, PyData.hasDict, PyData.hasDictAll, PyData.leavesShort, PyData.leavesShortAll, PyData.bulk, PyData.bulkAll, h1, h2, h3, h4, Bool.and_true, Bool.true_and, Bool.or_false, Bool.and_eq_true, decide_eq_true_eq]
  exact ⟨⟨sm_log h.wy, sm_log h.nu⟩, trivial, ⟨sh_int h.wy, sh_int h.nu⟩, by omega⟩
def RpS (s : List Tp) : Prop := ∀ t ∈ s, RpT t
theorem show_ok : ∀ {s : List Tp}, RpS s → PyData.showableAll (s.map dT) = true ∧ PyData.hasDictAll (s.map dT) = false ∧ PyData.leavesShortAll 580 (s.map dT) = true ∧ PyData.bulkAll (s.map dT) ≤ 8 * s.length
  | [], _ => ⟨rfl, rfl, rfl, Nat.le_refl _⟩
  | t :: s, h => by
    obtain ⟨h1, h2, h3, h4⟩ := show_ok (s := s) fun y hy => h y (List.mem_cons_of_mem _ hy)
    obtain ⟨g1, g2, g3, g4⟩ := trip_ok (h t List.mem_cons_self)
    rw [List.map_cons, PyData.showableAll, PyData.hasDictAll, PyData.leavesShortAll, PyData.bulkAll, h1, h2, h3, g1, g2, g3, List.length_cons]
    exact ⟨rfl, rfl, rfl, by omega⟩
theorem shows_ok : ∀ {ss : List (List Tp)}, (∀ s ∈ ss, RpS s) → PyData.showableAll (ss.map dS) = true ∧ PyData.hasDictAll (ss.map dS) = false ∧ PyData.leavesShortAll 580 (ss.map dS) = true ∧ PyData.bulkAll (ss.map dS) ≤ 8 * (ss.map List.length).sum + ss.length
  | [], _ => ⟨rfl, rfl, rfl, Nat.le_refl _⟩
  | s :: ss, h => by
    obtain ⟨h1, h2, h3, h4⟩ := shows_ok (ss := ss) fun y hy => h y (List.mem_cons_of_mem _ hy)
    obtain ⟨g1, g2, g3, g4⟩ := show_ok (h s List.mem_cons_self)
    rw [List.map_cons, PyData.showableAll, PyData.hasDictAll, PyData.leavesShortAll, PyData.bulkAll, h1, h2, h3, PyData.showable, PyData.hasDict, PyData.leavesShort, PyData.bulk, g1, g2, g3, List.length_cons, List.map_cons, List.sum_cons]
    exact ⟨rfl, rfl, rfl, by omega⟩
theorem depths_le : ∀ (ds : List D) (n : Nat), (∀ d ∈ ds, d.depth ≤ n) → PyData.depthAll ds ≤ n
  | [], n, _ => by simp [PyData.depthAll]
  | d :: ds, n, h => by
    rw [PyData.depthAll]
    exact Nat.max_le.mpr ⟨h d List.mem_cons_self, depths_le ds n fun e he => h e (List.mem_cons_of_mem _ he)⟩
theorem depth_dT' (a : Tp) : (dT a).depth ≤ 3 := by
  have := depth_ints a.1.1
  simp [PyData.depthAll, PyData.depth]
  omega
theorem depth_dS (s : List Tp) : (dS s).depth ≤ 4 := by
  rw [PyData.depth]
  have := depths_le (s.map dT) 3 fun d hd => by obtain ⟨t, _, rfl⟩ := List.mem_map.mp hd; exact depth_dT' t
  omega
theorem ok_fit {d : D} (h1 : d.showable = true) (h2 : d.hasDict = false) (h3 : d.leavesShort 580 = true) (h4 : d.bulk ≤ 16100) (h5 : d.depth ≤ 8) : ReprOk d := by
  refine ⟨h1, h2, ?_, h5⟩
  have := PyData.shown_le_bulk 580 (by decide) d h3
  rw [sizeLine_eq]
  have e : (580 + 2) * d.bulk ≤ 582 * 16100 := Nat.mul_le_mul_left _ h4
  omega
theorem rp_shows {ss : List (List Tp)} (h : ∀ s ∈ ss, RpS s) (hl : (ss.map List.length).sum ≤ 2000) (h4 : ss.length ≤ 4) : ReprOk (.tuple (ss.map dS)) := by
  obtain ⟨h1, h2, h3, h5⟩ := shows_ok h
  refine ok_fit (by rw [PyData.showable]; exact h1) (by rw [PyData.hasDict]; exact h2) (by rw [PyData.leavesShort]; exact h3) (by rw [PyData.bulk]; omega) ?_
  rw [PyData.depth]
  have := depths_le (ss.map dS) 4 fun d hd => by obtain ⟨t, _, rfl⟩ := List.mem_map.mp hd; exact depth_dS t
  omega
theorem rp_show {s : List Tp} (h : RpS s) (hl : s.length ≤ 2000) : ReprOk (dS s) := by
  obtain ⟨h1, h2, h3, h5⟩ := show_ok h
  exact ok_fit (by rw [PyData.showable]; exact h1) (by rw [PyData.hasDict]; exact h2) (by rw [PyData.leavesShort]; exact h3) (by rw [PyData.bulk]; omega) (Nat.le_trans (depth_dS s) (by decide))
theorem rp_pair {i j : Int} (h : Sm i) (h' : Sm j) : ReprOk (.tuple [.int i, .int j]) := by
  obtain ⟨h1, h2, h3, h5⟩ := ints_ok (xs := [i, j]) fun x hx => by
    rcases List.mem_cons.mp hx with e | e
    · rw [e]; exact h
    · rw [List.mem_singleton.mp e]; exact h'
  refine ok_fit (by rw [PyData.showable]; exact h1) (by rw [PyData.hasDict]; exact h2) (by rw [PyData.leavesShort]; exact h3) (by rw [PyData.bulk]; exact Nat.le_trans (Nat.le_of_eq h5) (show (2 : Nat) ≤ 16100 from by decide)) ?_
  rw [PyData.depth]
  have := depth_ints [i, j]
  have e : PyData.depthAll [PyData.int i, PyData.int j] ≤ 1 := this
  omega
theorem cut_mem {xs : List D} {i j : Option Int} {d : D} (h : d ∈ DW.cutD xs i j) : d ∈ xs := List.mem_of_mem_drop (List.mem_of_mem_take h)
theorem cut_len (xs : List D) (i j : Option Int) : (DW.cutD xs i j).length ≤ xs.length := by
  unfold DW.cutD
  rw [List.length_take, List.length_drop]
  omega
theorem addS_nilR {s : List Tp} (h : Can s) : addS s [] = s := by
  obtain ⟨h1, h2⟩ := addS_can h can_nil
  exact can_ext h1 h fun k => by rw [h2]; show _ + 0 = _; omega
theorem addS_nilL {s : List Tp} (h : Can s) : addS [] s = s := by
  obtain ⟨h1, h2⟩ := addS_can can_nil h
  exact can_ext h1 h fun k => by rw [h2]; show 0 + _ = _; omega
theorem eqv_dK (a b : Kk) : PyData.eqv (dK a) (dK b) = decide (a = b) := by
  rw [PyData.eqv, PyData.eqvAll, PyData.eqvAll, PyData.eqvAll, eqv_iv, PyData.eqv, Bool.and_true]
  by_cases h : a.1 = b.1 <;> by_cases h' : a.2 = b.2
  · rw [show a = b from Prod.ext h h']; simp
  · have : a ≠ b := fun z => h' (by rw [z])
    simp [h, h', this]
  · have : a ≠ b := fun z => h (by rw [z])
    simp [h, this]
  · have : a ≠ b := fun z => h (by rw [z])
    simp [h, this]
theorem shaped_dK (a : Kk) : SeqAt.shaped (dK a) = true := by
  have := depth_dK a
  unfold SeqAt.shaped
  rw [Bool.and_eq_true]
  refine ⟨by rw [PyData.canLay0, PyData.canLayAll0, PyData.canLay0, canLay_ints]; rfl, decide_eq_true (by omega)⟩
def pK (k : Kk) : D → Bool
  | .tuple [x, y, _] => PyData.eqv (.tuple [x, y]) (dK k)
  | _ => false
theorem pK_dT (k : Kk) (t : Tp) : pK k (dT t) = decide (t.1 = k) := eqv_dK t.1 k
theorem due_out (k : Kk) : ∀ {s : List Tp} {out : List D}, Paired (fun d r => ∃ t : Tp, d = dT t ∧ r = .int t.2) ((s.map dT).filter (pK k)) out → ∃ ns : List Int, out ++ [.int 0] = ns.map PyData.int ∧ ns.head? = some (valT s k)
  | [], _, h => by cases h; exact ⟨[0], rfl, rfl⟩
  | t :: s, out, h => by
    rw [List.map_cons, List.filter_cons, pK_dT] at h
    rw [val_cons]
    by_cases e : t.1 = k
    · rw [if_pos (decide_eq_true e)] at h
      rw [if_pos e]
      cases h with
      | cons h1 h2 =>
        obtain ⟨u, eu, rfl⟩ := h1
        obtain ⟨ns, e1, _⟩ := due_out k h2
        exact ⟨u.2 :: ns, by rw [List.cons_append, e1]; rfl, by rw [← dT_inj eu]; rfl⟩
    · rw [if_neg (by rw [decide_eq_false e]; exact Bool.false_ne_true)] at h
      rw [if_neg e]
      exact due_out k h
theorem max_of : ∀ {ns : List Int}, ns ≠ [] → ∃ z ∈ ns, ∀ n ∈ ns, n ≤ z
  | [], h => absurd rfl h
  | [n], _ => ⟨n, List.mem_singleton.mpr rfl, fun m hm => by rw [List.mem_singleton.mp hm]; exact Int.le_refl _⟩
  | n :: m :: ns, _ => by
    obtain ⟨z, hz, h⟩ := max_of (ns := m :: ns) (by simp)
    by_cases e : n ≤ z
    · exact ⟨z, List.mem_cons_of_mem _ hz, fun k hk => (List.mem_cons.mp hk).elim (fun y => by rw [y]; exact e) (h k)⟩
    · exact ⟨n, List.mem_cons_self, fun k hk => (List.mem_cons.mp hk).elim (fun y => by rw [y]; exact Int.le_refl _) fun y => by have := h k y; omega⟩
theorem at_head {ns : List Int} {v : Int} (h : ns.head? = some v) : atI (ns.map PyData.int) 0 = some (.int v) := by
  cases ns with
  | nil => cases h
  | cons n ns =>
    injection h with h
    subst h
    exact atI_nat (j := 0) rfl
structure ShF (r : Int) (s : List Tp) : Prop where
  ok : ShOk r s
  can : Can s
  rp : RpS s
  len : s.length ≤ 700
theorem shf_val {r : Int} {s : List Tp} (h : ShF r s) (k : Kk) : Sm (valT s k) := by
  rcases valT_mem s k with e | ⟨t, ht, _, e⟩
  · rw [e]; show (0 : Nat) < 2 ^ 1900; exact Nat.pow_pos (by decide)
  · rw [e]; exact (h.rp t ht).nu
theorem seq_up {K : PySem.W.Frag} {H H' : Hp} {a : Addr} {xs : List V} (e : ∀ b o, H b = some o → H' b = some o) (h : SqL K H a xs) : SqL K H' a xs := Same.seq (fun b o q => e b o q) h
theorem cutV63 (ns : List Int) : ∃ ms : List Int, cutV (ns.map V.int) none (some 63) = ms.map V.int ∧ ms.length ≤ 63 := by
  refine ⟨ns.take (HT.sIx ns.length ns.length (some 63)), ?_, ?_⟩
  · unfold cutV
    rw [HT.sIx_none, List.drop_zero, Nat.sub_zero, List.length_map, List.map_take]
  · rw [show HT.sIx ns.length ns.length (some 63) = min 63 ns.length from HT.sIx_nat _ _ 63, List.length_take]
    omega
theorem disp3 {x y z : V} : mergeK [] [(kCells, x), (kMixed, y), (kDraws, z)] = [(kCells, x), (kMixed, y), (kDraws, z)] := by
  simp [mergeK, putK, k_cm, k_cd, k_md]
theorem pow_le {x : Int} {a b : Nat} (h : x.natAbs < 2 ^ a) (l : a ≤ b) : x.natAbs < 2 ^ b := Nat.lt_of_lt_of_le h (Nat.pow_le_pow_right (by decide) l)
end
end K9
/-! enumerate over lists and tuples, while, a > b of data -/
namespace PySem
open AutoSeq1 (wpAny_loadPart')
theorem meets_enumerate_newT (l : Addr) (items : Array Value) (n : Nat) (dct : Option Addr) (sl : Array (Option Value)) :
    Meets (Builtin.«enumerate.__new__» ⟨[.type "enumerate", .ref l], []⟩) (fun _ R s => s.heap.get? l = some { cls := .type "tuple", dict := dct, data := .seq items n, slots := sl } ∧
      R (.ok (.ret (.ref (s.heap.push { cls := .type "tuple_iterator", data := .fields #[.ref l, .int 0 0] }).objs.size)))
        { s with heap := (s.heap.push { cls := .type "tuple_iterator", data := .fields #[.ref l, .int 0 0] }).push { cls := .type "enumerate", data := .fields #[.none, .bool false, .ref s.heap.objs.size, rawInt 0, .none, .none] } }) :=
  .of_wp fun prog w A R s h => by
    obtain ⟨hp, g, d, tk, os⟩ := s; obtain ⟨hl, h⟩ := h
    have hsub := sub_enumerate
    have hL : Heap.IsTuple (Shared.heap ⟨hp, g, d, tk, os⟩) l items := ⟨_, hl, rfl, n, rfl⟩
    wp_walk using wpAny_loadPart' hl
    refine wpAny_stack_any fun st => wpAny_pure ?_
    split
    · rename_i c _ _ _ _ _
      cases (c == Value.type "enumerate")
      · wp_walk using wpAny_loadPart' hl, wpAny_pyIter_tuple hL
        exact ⟨_, rfl, h⟩
      · wp_walk using wpAny_loadPart' hl, wpAny_pyIter_tuple hL
        exact ⟨_, rfl, h⟩
    · wp_walk using wpAny_loadPart' hl, wpAny_pyIter_tuple hL
      exact ⟨_, rfl, h⟩
section
variable {prog : Program} {w : World} {A : Around} {E : Value → Shared → Prop} {s : Shared}
theorem call_enumerate_tuple {l : Addr} {items : Array Value} {Q : Value → Shared → Prop} (hL : s.heap.IsTuple l items)
    (h : ∀ h', IsEnum h' (s.heap.objs.size + 1) s.heap.objs.size 0 .none → h'.IsTupleIter s.heap.objs.size l 0 → h'.objs.size = s.heap.objs.size + 2 →
      (∀ b o, s.heap.get? b = some o → h'.get? b = some o) → Q (.ref (s.heap.objs.size + 1)) { s with heap := h' }) :
    wpAny (model prog w) A (call (.type "enumerate") [.ref l]) Q E s := by
  obtain ⟨⟨c, dct, dt, sl⟩, hl, hc, n, hd⟩ := hL
  replace hc : c = .type "tuple" := hc
  replace hd : dt = .seq items n := hd
  subst hc hd
  refine callType_new F.called_enumerate (by decide) (F.typeCall_enumerate_1 _) (F.newCall_enumerate_1 _) (fun obj => F.args_object_init_2 obj _) F.entry_enumerate_new
    (meets_enumerate_newT l items n dct sl) ⟨hl, ?_⟩
  have hz : (s.heap.push { cls := .type "tuple_iterator", data := .fields #[.ref l, .int 0 0] }).objs.size = s.heap.objs.size + 1 := Heap.size_push ..
  show _ ∧ _
  rw [hz]
  have he : IsEnum ((s.heap.push { cls := .type "tuple_iterator", data := .fields #[.ref l, .int 0 0] }).push
      { cls := .type "enumerate", data := .fields #[.none, .bool false, .ref s.heap.objs.size, rawInt 0, .none, .none] }) (s.heap.objs.size + 1) s.heap.objs.size 0 .none := by
    have := Heap.get?_push_size (s.heap.push { cls := .type "tuple_iterator", data := .fields #[.ref l, .int 0 0] })
      (o := { cls := .type "enumerate", data := .fields #[.none, .bool false, .ref s.heap.objs.size, rawInt 0, .none, .none] }) rfl
    rw [hz] at this; exact this
  refine ⟨⟨_, he, rfl⟩, h _ he ⟨_, Heap.get?_push_of_some _ (Heap.get?_push_size _ rfl), rfl, rfl⟩ (by rw [Heap.size_push, hz]) fun b o x => Heap.get?_push_of_some _ (Heap.get?_push_of_some _ x)⟩
end
end PySem
namespace DW
open PySem PySem.W L2 RZ PyProof.Rows
def IteT (K : PySem.W.Frag) (a : Addr) : It :=
  ⟨fun i H => ∃ (xs : List V) (x : V), SqT K H a xs ∧ xs[i]? = some x, fun i H v H' => ∃ T x, v = .ref T ∧ H T = none ∧ H' = upd H T (.tup [.int (i : Nat), x]) ∧ ∀ xs, SqT K H a xs → xs[i]? = some x, fun i H => ∃ xs : List V, SqT K H a xs ∧ xs.length ≤ i⟩
theorem turn_enumT {P : Program} {w : World} {K : PySem.W.Frag} {elts : List Expr} {kk : Nat} {tpos : Pos} (a e it : Addr) (hai : a ≠ it) (hae : a ≠ e) :
    Turn P w K (.Tuple elts kk tpos) (IteT K a) [e, it] e (fun i h => (∃ old, IsEnum h e it ((i : Nat) : Int) old) ∧ h.IsTupleIter it a i ∧ e ≠ it) where
  mem := by simp
  obj := fun i h st b hb => by
    obtain ⟨⟨old, he⟩, ⟨o, ho, hc, hd⟩, _⟩ := st
    have e' : b = e ∨ b = it := by simpa using hb
    rcases e' with z | z
    · rw [z]; exact ⟨_, he, fun v q => nomatch q⟩
    · rw [z]; exact ⟨o, ho, fun v q => by rw [hd] at q; cases q⟩
  keep := fun i h h' st k => let ⟨⟨old, he⟩, hi, hne⟩ := st; ⟨⟨old, k e (by simp) _ he⟩, hi.at fun o q => k it (by simp) o q, hne⟩
  item := by
    intro X hP hw hK hc i pins s σ H E I hf st hg
    subst hP hw hK
    obtain ⟨⟨old, he⟩, hit, hne⟩ := st
    obtain ⟨xs, x, hq, hx⟩ := hg
    obtain ⟨its, rv, p, hz⟩ := I.tuple hq
    obtain ⟨u, hu, ru⟩ := rv.get hx
    have hel : e < s.heap.objs.size := Heap.lt_size he
    have hil : it < s.heap.objs.size := by obtain ⟨_, q, _⟩ := hit; exact Heap.lt_size q
    have hlt : i < its.toArray.size := by
      have := (List.getElem?_eq_some_iff.mp hu).1
      simpa using this
    refine wpAny_pyNext_enum_itemD (Draws.tuple (prog := X.prog) (w := X.w) (A := X.A.in1) (show X.A.in1.handled = none from I.ok.hd hc) it a hai its.toArray) he (i := i) ⟨hit, p⟩ hlt hne (by simp [hne, Ne.symm hae]) fun x' h' tk hPx ho st' hT hsz hk => ?_
    have ex : x' = u := by
      have h1 : its.toArray[i]? = some x' := hPx
      rw [show its.toArray[i]? = some u from by simpa using hu] at h1
      injection h1 with h1
      exact h1.symm
    subst ex
    refine ⟨_, rfl, wpAny_letOwnedTupleGo_enum (s := { s with heap := h', toks := tk + 1 }) ho fun h'' he' sb => ?_⟩
    have hT2 : h''.get? s.heap.objs.size = some { cls := .type "tuple", data := .seq #[.int i tk, x'] } := (sb.2 _ (Nat.ne_of_gt hel)).trans hT
    have new : ObjOk X.prog X.w (upd H s.heap.objs.size (.tup [.int (i : Nat), x])) h'' s.heap.objs.size (.tup [.int (i : Nat), x]) :=
      ⟨by show 2 ≤ sizeLine; decide, [.int i tk, x'], .cons ⟨_, rfl⟩ (.cons ru .nil), ⟨_, hT2, rfl, _, rfl⟩⟩
    have I1 : Inv X pins σ (upd H s.heap.objs.size (.tup [.int (i : Nat), x])) { s with heap := h'', toks := tk + 1 } :=
      I.turnedNew (ch := [e, it]) (fun b ob hb q => (sb.2 b (fun z => hb (by simp [z]))).trans (hk b ob (fun z => hb (by simp [z])) (fun z => hb (by simp [z])) q)) hf (Nat.le_refl _) new
    refine ⟨.ref s.heap.objs.size, _, I1, rfl, ⟨_, x, rfl, I.hok.fresh (Nat.le_refl _), rfl, fun ys hy => by rw [I.tuple_inj hy hq]; exact hx⟩, ⟨⟨x', ?_⟩, st'.1.at fun o q => (sb.2 it (Ne.symm hne)).trans q, hne⟩, fun b hb => ?_⟩
    · have e1 : ((i + 1 : Nat) : Int) = (i : Int) + 1 := by omega
      rw [e1]; exact he'
    · have hb' : b < s.heap.objs.size := by
        have e' : b = e ∨ b = it := by simpa using hb
        rcases e' with z | z
        · rw [z]; exact hel
        · rw [z]; exact hil
      rw [upd_ne (Nat.ne_of_lt hb')]
      exact (hf b hb).1
  done := by
    intro X hP hw hK hc i pins s σ H E I hf st hg
    subst hP hw hK
    obtain ⟨⟨old, he⟩, hit, hne⟩ := st
    obtain ⟨xs, hq, hx⟩ := hg
    obtain ⟨its, rv, p, hz⟩ := I.tuple hq
    obtain ⟨f0, f1, f2, f3, f4, f5⟩ := hf it (by simp)
    have hl := rv.length
    have D := Draws.tuple (prog := X.prog) (w := X.w) (A := X.A.in1) (show X.A.in1.handled = none from I.ok.hd hc) it a hai its.toArray
    have hT : s.TypeIs (.ref e) "enumerate" := ⟨_, he, rfl⟩
    show wpAny _ _ (pyNext (.ref e)) _ _ _
    unfold pyNext
    refine wpAny_bind (wpAny_attempt (wpAny_callSpecial?_slot (name := Str.ofString "__next__") hT F.slot_enumerate_next
      (wpAny_call_entry F.slot_enumerate_next hT F.entry_enumerate_next ?_ (F.args_enumerate_next_1 _))))
    show wpAny _ _ (field (.ref e) 2 >>= _) _ _ _
    refine wpAny_bind (wpAny_field he rfl (x := .ref it) rfl ?_)
    refine wpAny_bind (wpAny_nextOf_tuple_end (show X.A.in1.handled = none from I.ok.hd hc) hit p (by simp; omega) fun h' x he' hx' => ?_)
    obtain ⟨o, ho, hcc⟩ := hx'
    refine wpAny_bind (wpAny_isInstance (T := "StopIteration") (b := true) ⟨o, ho, hcc⟩ isSubtype_stop ?_)
    exact wpAny_pure ⟨rfl, I.turned (t' := s.toks) (fun b o hb q => he' b o hb q) f0 f1 f3 f4 f5⟩
  self := fun A i s Q E st h => let ⟨⟨_, he⟩, _⟩ := st; wpAny_pyIter_enum he h
def iEnumA (K : PySem.W.Frag) (ta : TA) : TI := fun σ H R => ta σ H fun vs H1 => ∃ a xs, vs = [.ref a] ∧ ((SqL K H1 a xs ∧ R (Ite K a) H1) ∨ (SqT K H1 a xs ∧ R (IteT K a) H1))
theorem pi_enumA {X : Cx} {e : Expr} {ta : TA} {p pos tpos : Pos} {elts : List Expr} {kk : Nat} (hg : Gl X "enumerate") (hm : X.mg "enumerate" = none) (ha : PA X [e] ta) (hs : starEach [e] X.env = [(false, eval e X.env)] := by rfl) :
    PI X (.Tuple elts kk tpos) (.Call (.Name "enumerate" p) [e] [] pos) (iEnumA X.K ta) := by
  refine ⟨fun pins s σ H R I h => ?_⟩
  refine Call_ (ld_blt I hg hm boot_enumerate (PyProof.Rows.callWith_type1 (thn (ha.run pos pins s σ H _ I h) fun us s1 ⟨vs, H1, I1, r1, q1⟩ => ?_) hs rfl))
  obtain ⟨a, xs, ex, q1⟩ := q1
  subst ex
  cases r1 with
  | cons r rr =>
    cases rr
    cases r
    have fresh2 : ∀ b ∈ [s1.heap.objs.size + 1, s1.heap.objs.size], FpOk X pins H1 b := fun b hb => by
      have e' : b = s1.heap.objs.size + 1 ∨ b = s1.heap.objs.size := by simpa using hb
      have hle : s1.heap.objs.size ≤ b := by
        rcases e' with z | z
        · rw [z]; exact Nat.le_add_right _ _
        · rw [z]; exact Nat.le_refl _
      exact I1.fpOk hle (I1.hok.fresh hle)
    rcases q1 with ⟨hq, q⟩ | ⟨hq, q⟩
    · obtain ⟨its, rv, p', hz⟩ := I1.list hq
      refine call_enumerate_list p'.isList fun h' he hit hsz hk => wpAny_pyIter_enum he ?_
      have I2 : Inv X pins σ H1 { s1 with heap := h' } := I1.kept (t' := s1.toks) hk
      exact ⟨s1.heap.objs.size + 1, [s1.heap.objs.size + 1, s1.heap.objs.size], _, _, H1, rfl, I2, turn_enum a (s1.heap.objs.size + 1) s1.heap.objs.size, ⟨⟨.none, he⟩, hit, Nat.succ_ne_self _⟩, fresh2, q⟩
    · obtain ⟨its, rv, p', hz⟩ := I1.tuple hq
      obtain ⟨o1, ho1, _⟩ := id p'
      have hal : a < s1.heap.objs.size := Heap.lt_size ho1
      refine call_enumerate_tuple (show s1.heap.IsTuple a its.toArray from p') fun h' he hit hsz hk => wpAny_pyIter_enum he ?_
      have I2 : Inv X pins σ H1 { s1 with heap := h' } := I1.kept (t' := s1.toks) hk
      exact ⟨s1.heap.objs.size + 1, [s1.heap.objs.size + 1, s1.heap.objs.size], _, _, H1, rfl, I2, turn_enumT a (s1.heap.objs.size + 1) s1.heap.objs.size (Nat.ne_of_lt hal) (Nat.ne_of_lt (Nat.lt_succ_of_lt hal)), ⟨⟨.none, he⟩, hit, Nat.succ_ne_self _⟩, fresh2, q⟩
/-! ### the data of enumerate -/
def enumD (ds : List D) : List D := (List.range ds.length).map fun i => .tuple [.int (i : Nat), ds.getD i .none]
theorem enumD_len (ds : List D) : (enumD ds).length = ds.length := by unfold enumD; rw [List.length_map, List.length_range]
theorem enumD_at {ds : List D} {i : Nat} {d : D} (h : ds[i]? = some d) : (enumD ds)[i]? = some (.tuple [.int (i : Nat), d]) := by
  have hi : i < ds.length := (List.getElem?_eq_some_iff.mp h).1
  unfold enumD
  rw [List.getElem?_map, List.getElem?_range hi]
  show some (PyData.tuple [.int (i : Nat), ds.getD i .none]) = _
  rw [List.getD_eq_getElem?_getD, h]
  rfl
theorem wk_enumL {K : PySem.W.Frag} {a : Addr} {xs : List D} : WkD (Ite K a) (enumD xs) (GDt [(.ref a, .list xs)]) := by
  have get : ∀ {M : Addr → Prop} {H : Hp}, (∀ p ∈ [(V.ref a, PyData.list xs)], Dt M H p.1 p.2) → (∃ vs, H a = some (.lst vs) ∧ DtA M H vs xs) := fun {M H} h => by
    obtain ⟨a', vs, e, h1, _, h3⟩ := (h _ List.mem_cons_self).lst_inv
    cases e
    exact ⟨vs, h1, h3⟩
  refine ⟨gdt_mv, fun M H i h hi => ?_, fun M H h => ?_, fun M H i x H' kn h hi y => ?_⟩
  · obtain ⟨vs, h1, h3⟩ := get h
    rw [enumD_len] at hi
    have e1 : i < vs.length := by rw [h3.length]; omega
    exact ⟨vs, vs[i], SqL.of h1, by simp [e1]⟩
  · obtain ⟨vs, h1, h3⟩ := get h
    exact ⟨vs, SqL.of h1, by rw [enumD_len, h3.length]; omega⟩
  · obtain ⟨vs, h1, h3⟩ := get h
    obtain ⟨T, v, rfl, n, rfl, f1⟩ := y
    obtain ⟨p, e1, t1⟩ := h3.back (f1 vs (SqL.of h1))
    exact ⟨fun b o e => by rw [upd_ne (ne_of_none e n)]; exact e, _, enumD_at e1, pair_dt kn n (.int _) t1⟩
theorem wk_enumT {K : PySem.W.Frag} {a : Addr} {xs : List D} : WkD (IteT K a) (enumD xs) (GDt [(.ref a, .tuple xs)]) := by
  have get : ∀ {M : Addr → Prop} {H : Hp}, (∀ p ∈ [(V.ref a, PyData.tuple xs)], Dt M H p.1 p.2) → (∃ vs, H a = some (.tup vs) ∧ DtA M H vs xs) := fun {M H} h => by
    obtain ⟨a', vs, e, h1, _, h3⟩ := (h _ List.mem_cons_self).tup_inv
    cases e
    exact ⟨vs, h1, h3⟩
  refine ⟨gdt_mv, fun M H i h hi => ?_, fun M H h => ?_, fun M H i x H' kn h hi y => ?_⟩
  · obtain ⟨vs, h1, h3⟩ := get h
    rw [enumD_len] at hi
    have e1 : i < vs.length := by rw [h3.length]; omega
    exact ⟨vs, vs[i], SqT.of h1, by simp [e1]⟩
  · obtain ⟨vs, h1, h3⟩ := get h
    exact ⟨vs, SqT.of h1, by rw [enumD_len, h3.length]; omega⟩
  · obtain ⟨vs, h1, h3⟩ := get h
    obtain ⟨T, v, rfl, n, rfl, f1⟩ := y
    obtain ⟨p, e1, t1⟩ := h3.back (f1 vs (SqT.of h1))
    exact ⟨fun b o e => by rw [upd_ne (ne_of_none e n)]; exact e, _, enumD_at e1, pair_dt kn n (.int _) t1⟩
section
variable {F : Fc} {X : Cx} {e a b c : Expr} {es : List Sl} {Φ : D → Prop} {K : Ek} {pos p : Pos} {s : Stmt} {ss : List Stmt} {H H' : Hp} {σ : L2.St}
theorem it_enum {r : List Expr} {n : Nat} {tpos p : Pos} {Ψ : List D → Prop} (hg : Gl X "enumerate") (hm : X.mg "enumerate" = none)
    (h : W F X a es fun d => ∃ xs, (d = .tuple xs ∨ d = .list xs) ∧ Ψ (enumD xs))
    (hs : starEach [a] X.env = [(false, eval a X.env)] := by rfl) : It1 F X (.Tuple r n tpos) (.Call (.Name "enumerate" p) [a] [] pos) es Ψ := fun σ H s R k => by
  refine ⟨_, pi_enumA hg hm (pa_cons can_e pa_nil hs) hs, ?_⟩
  refine h σ H s _ fun v d H' s' x t ⟨xs, e, q⟩ => ?_
  rcases e with e | e
  · subst e
    obtain ⟨a1, v1, rfl, h1, _, _⟩ := id t.tup_inv
    exact ⟨a1, v1, rfl, .inr ⟨SqT.of h1, k _ (GDt [(.ref a1, .tuple xs)]) _ H' s' x (fun p hp => by
      rw [List.mem_singleton.mp hp]; exact t) wk_enumT q⟩⟩
  · subst e
    obtain ⟨a1, v1, rfl, h1, _, _⟩ := id t.lst_inv
    exact ⟨a1, v1, rfl, .inl ⟨SqL.of h1, k _ (GDt [(.ref a1, .list xs)]) _ H' s' x (fun p hp => by
      rw [List.mem_singleton.mp hp]; exact t) wk_enumL q⟩⟩
/-! ### while -/
theorem ws_while {body : List Stmt} (hp : PassesOwn (model X.prog X.w) X.A X.env X.xe) (Pv : Nat → List Sl → Prop) (h0 : ∃ m, Pv m es)
    (h : ∀ m es1, Pv m es1 → T F X c es1 fun b => if b = true then WB F X body es1 { nx := fun es2 => ∃ m', m' < m ∧ Pv m' es2, ct := fun es2 => ∃ m', m' < m ∧ Pv m' es2, bk := K.nx, rt := K.rt } else K.nx es1) :
    WS F X (.While c body [] pos) es K := fun σ H D s g => by
  refine ⟨_, ps_while hp can_t can_b, ?_⟩
  obtain ⟨m0, p0⟩ := h0
  refine ⟨fun m σ' H' => ∃ es', Sg F H' σ' es' ∧ Tr F H σ es H' σ' es' ∧ Pv m es', ⟨m0, es, s, Tr.refl, p0⟩, ?_⟩
  rintro m σ' H' ⟨es', s', t', inv⟩
  refine h m es' inv σ' H' s' _ fun b H1 s1 x1 q => ?_
  have t1 : Tr F H σ es H1 σ' es' := t'.trans (Tr.of x1.mx)
  cases b with
  | true =>
    rw [if_pos rfl] at q ⊢
    refine ⟨fun σ2 H2 => ∃ m', m' < m ∧ ∃ es2, Sg F H2 σ2 es2 ∧ Tr F H σ es H2 σ2 es2 ∧ Pv m' es2, fun σ2 H2 ⟨m', hm, es2, q1, q2, q3⟩ => ⟨m', hm, es2, q1, q2, q3⟩, ?_⟩
    exact q σ' H1 _ s1 ⟨fun σ4 H4 es4 s4 t4 ⟨m', hm, q4⟩ => ⟨m', hm, es4, s4, t1.trans t4, q4⟩, g.rt, fun σ4 H4 es4 s4 t4 q4 => g.nx σ4 H4 es4 s4 (t1.trans t4) q4, fun σ4 H4 es4 s4 t4 ⟨m', hm, q4⟩ => ⟨m', hm, es4, s4, t1.trans t4, q4⟩⟩
  | false =>
    rw [if_neg Bool.false_ne_true] at q ⊢
    exact g.nx σ' H1 es' s1 t1 q
def rGtD (K : PySem.W.Frag) : R2 := fun x y H Q => ∃ d e, Dp K H x d ∧ Dp K H y e ∧ PySem.W.alike d e = true ∧ d ≠ .none ∧ min d.depth e.depth ≤ 8 ∧ Q (.bl (PySem.W.dataLt e d)) H
theorem op_gtD (hu : X.A.units + 64 < cLine) : OpR X (compareOp .Gt) (rGtD X.K) := by
  intro pins s σ H x y v u Q I rx ry h
  obtain ⟨d, e, hd, he, al, nn, dp, q⟩ := h
  obtain ⟨as, r1⟩ := Dp.reads I d x v hd rx
  obtain ⟨bs, r2⟩ := Dp.reads I e y u he ry
  exact PySem.W.gt_data r1 r2 al nn (by omega) ⟨.bl _, H, I, rfl, q⟩
theorem od_gtD {d e : D} (hu : X.A.units + 64 < cLine) (al : PySem.W.alike d e = true) (nn : d ≠ .none) (dp : min d.depth e.depth ≤ 8) (n1 : PySem.W.alike d d = true) (n2 : PySem.W.alike e e = true) : OpD X (compareOp .Gt) d e (.bool (PySem.W.dataLt e d)) := fun M H v u kn hv hu' Q q =>
  ⟨_, op_gtD hu, d, e, hv.dp _ _ (alike_nd _ n1), hu'.dp _ _ (alike_nd _ n2), al, nn, dp, q _ H same0 (.bl _)⟩
end
end DW
namespace K4
open PySem PySem.W L2 RZ PyProof.Rows DW K9
def sgn (s : Int) : Int := if 0 < s then 1 else -1
def ax (s : Int) : Nat := s.natAbs - 1
def stp (xs : List Int) (s : Int) : List Int := xs.take (ax s) ++ [xs.getD (ax s) 0 + sgn s] ++ xs.drop (ax s + 1)
def ky (x : List Int) (s : Int) : Kk := if 0 < s then (x, s) else (stp x s, -s)
def wk : List Int → List Int → List Tp
  | _, [] => []
  | x, s :: r => (ky x s, sgn s) :: wk (stp x s) r
def we : List Int → List Int → List Int
  | x, [] => x
  | x, s :: r => we (stp x s) r
def org (r : Int) : List Int := List.replicate r.toNat 0
theorem org_len {r : Int} (h : 1 ≤ r) : ((org r).length : Int) = r := by unfold org; rw [List.length_replicate]; omega
theorem org_nb {r : Int} {b : Nat} : Nb b (org r) := fun x hx => by rw [(List.mem_replicate.mp hx).2]; exact Nat.zero_le _
theorem we_snoc (s : Int) : ∀ (r x : List Int), we x (r ++ [s]) = stp (we x r) s
  | [], x => rfl
  | t :: r, x => we_snoc s r (stp x t)
theorem wk_snoc (s : Int) : ∀ (r x : List Int), wk x (r ++ [s]) = wk x r ++ [(ky (we x r) s, sgn s)]
  | [], x => rfl
  | t :: r, x => by
    show (ky x t, sgn t) :: wk (stp x t) (r ++ [s]) = _
    rw [wk_snoc s r (stp x t)]
    rfl
theorem wk_len : ∀ (r x : List Int), (wk x r).length = r.length
  | [], _ => rfl
  | t :: r, x => by
    show (wk (stp x t) r).length + 1 = r.length + 1
    rw [wk_len r]
theorem sgn_pm (s : Int) : sgn s = 1 ∨ sgn s = -1 := by unfold sgn; split; exact .inl rfl; exact .inr rfl
theorem ax_lt {s : Int} {n : Nat} (h : StOk n s) : ax s < n := by
  obtain ⟨h0, h1, h2⟩ := h
  unfold ax
  omega
theorem stp_len {xs : List Int} {s : Int} (h : StOk xs.length s) : (stp xs s).length = xs.length := by
  have := ax_lt h
  unfold stp
  rw [List.length_append, List.length_append, List.length_take, List.length_drop, List.length_singleton]
  omega
theorem getD_nb {xs : List Int} {b : Nat} (h : Nb b xs) (i : Nat) : (xs.getD i 0).natAbs ≤ b := by
  rw [List.getD_eq_getElem?_getD]
  cases e : xs[i]? with
  | none => exact Nat.zero_le _
  | some x => exact h x (List.mem_of_getElem? e)
theorem stp_nb {xs : List Int} {s : Int} {b : Nat} (h : Nb b xs) : Nb (b + 1) (stp xs s) := fun x hx => by
  unfold stp at hx
  rcases List.mem_append.mp hx with z | z
  · rcases List.mem_append.mp z with z | z
    · have := h x (List.mem_of_mem_take z); omega
    · rw [List.mem_singleton.mp z]
      have := getD_nb h (ax s)
      rcases sgn_pm s with e | e <;> rw [e] <;> omega
  · have := h x (List.mem_of_mem_drop z); omega
theorem nb_up {xs : List Int} {a b : Nat} (h : Nb a xs) (l : a ≤ b) : Nb b xs := fun x hx => Nat.le_trans (h x hx) l
theorem we_len {r : Int} : ∀ {row x : List Int}, AllS r row → (x.length : Int) = r → ((we x row).length : Int) = r
  | [], x, _, h => h
  | t :: row, x, ha, h => by
    have e := stp_len (xs := x) (s := t) (by rw [h]; exact ha t List.mem_cons_self)
    exact we_len (row := row) (x := stp x t) (fun s hs => ha s (List.mem_cons_of_mem _ hs)) (by rw [e]; exact h)
theorem we_nb {b : Nat} : ∀ {row x : List Int}, Nb b x → Nb (b + row.length) (we x row) := by
  intro row
  induction row generalizing b with
  | nil => intro x h; exact h
  | cons t row ih => intro x h; exact nb_up (ih (stp_nb (s := t) h)) (by rw [List.length_cons]; omega)
theorem ky_ok {r : Int} {x : List Int} {s : Int} (hx : (x.length : Int) = r) (hs : StOk r s) : KOk r (ky x s) := by
  obtain ⟨h0, h1, h2⟩ := id hs
  unfold ky
  split
  · exact ⟨hx, by show 1 ≤ s; omega, h2⟩
  · exact ⟨by show ((stp x s).length : Int) = r; rw [stp_len (by rw [hx]; exact hs)]; exact hx, by show 1 ≤ -s; omega, by show -s ≤ r; omega⟩
theorem ky_nb {b : Nat} {x : List Int} {s : Int} (h : Nb b x) : Nb (b + 1) (ky x s).1 := by
  unfold ky
  split
  · exact nb_up h (by omega)
  · exact stp_nb h
theorem wk_ok {r : Int} : ∀ {row x : List Int} {b : Nat}, AllS r row → (x.length : Int) = r → Nb b x → ∀ t ∈ wk x row, KOk r t.1 ∧ Nb (b + row.length) t.1.1
  | [], _, _, _, _, _, t, ht => by cases ht
  | s :: row, x, b, ha, hx, hb, t, ht => by
    have hs := ha s List.mem_cons_self
    rcases List.mem_cons.mp ht with e | ht
    · subst e
      exact ⟨ky_ok hx hs, nb_up (ky_nb hb) (by rw [List.length_cons]; omega)⟩
    · have := wk_ok (row := row) (x := stp x s) (b := b + 1) (fun s hs => ha s (List.mem_cons_of_mem _ hs)) (by rw [stp_len (by rw [hx]; exact hs)]; exact hx) (stp_nb hb) t ht
      exact ⟨this.1, nb_up this.2 (by rw [List.length_cons]; omega)⟩
/-! ### sums -/
def sm (l : List Tp) : List Tp := lst (addAll [] l)
theorem canon_sm (l : List Tp) : canon (addAll [] l) = sm l := by
  have nk : Nk (addAll [] l) := addAll_nk l [] List.nodup_nil
  exact can_ext (can_canon nk).1 (can_lst nk).1 fun k => by rw [(can_canon nk).2]; exact ((can_lst nk).2 k).symm
theorem sm_can (l : List Tp) : Can (sm l) := (sum_can l).1
theorem sm_self {s : List Tp} (h : Can s) : sm s = s := can_ext (sum_can s).1 h fun k => by rw [show valT (sm s) k = _ from (sum_can s).2 k, sumAt_val (up_nodup h.up)]
theorem sm_mem {l : List Tp} {t : Tp} (h : t ∈ sm l) : ∃ u ∈ l, u.1 = t.1 := by
  have h1 : t ∈ (addAll [] l).filter fun t => decide (t.2 ≠ 0) := List.mem_mergeSort.mp h
  rcases addAll_mem l [] t (List.mem_filter.mp h1).1 with z | z
  · cases z
  · obtain ⟨u, hu, e⟩ := List.mem_map.mp z
    exact ⟨u, hu, e⟩
theorem sm_len (l : List Tp) : (sm l).length ≤ l.length := by
  have h1 := addAll_len l []
  have h2 : ((addAll [] l).filter fun t => decide (t.2 ≠ 0)).length ≤ (addAll [] l).length := List.length_filter_le _ _
  unfold sm lst
  rw [List.length_mergeSort]
  rw [List.length_nil] at h1
  omega
def sh (r : Int) (row : List Int) : List Tp := sm (wk (org r) row)
/-! ### rooms along a room -/
def abI (i : Int) : Int := if i < 0 then -i else i
def jx (d : List Int) : Nat := d.findIdx fun x => decide (x ≠ 0)
def isZ (d : List Int) : Bool := d.all fun x => decide (x = 0)
def lead (d : List Int) : Int := d.getD (jx d) 0
def mlt (x d : List Int) : Int := x.getD (jx d) 0 / abI (lead d) * sgn (lead d)
def fst1 (x d : List Int) : List Int := List.zipWith (fun a b => a - mlt x d * b) x d
def frs (x d : List Int) : List Int := if isZ d = true then x else fst1 x d
def rbS (s : List Tp) (d : List Int) : List Tp := sm (s.map fun t => ((frs t.1.1 d, t.1.2), t.2))
def rlS (s : List Tp) (d : List Int) : List Tp := sm (s.map fun t => ((fst1 t.1.1 d, t.1.2), t.2))
def fold (s : List Tp) (d : List Int) : List Tp := if isZ d = true then s else rlS s d
theorem rb_fold {s : List Tp} {d : List Int} (h : Can s) : rbS s d = fold s d := by
  unfold rbS fold frs
  by_cases z : isZ d = true
  · simp only [z, if_true]
    show sm (s.map fun t => t) = s
    rw [List.map_id']
    exact sm_self h
  · simp only [z, if_false]
    rfl
theorem jx_lt {d : List Int} (h : isZ d = false) : jx d < d.length := by
  unfold jx
  rw [List.findIdx_lt_length]
  unfold isZ at h
  obtain ⟨x, hx, e⟩ := List.all_eq_false.mp h
  exact ⟨x, hx, by simpa using e⟩
theorem lead_ne {d : List Int} (h : isZ d = false) : lead d ≠ 0 := by
  have hj := jx_lt h
  have := List.findIdx_getElem (xs := d) (p := fun x => decide (x ≠ 0)) (w := hj)
  unfold lead
  rw [List.getD_eq_getElem?_getD, List.getElem?_eq_getElem hj]
  exact of_decide_eq_true this
theorem lead_nb {d : List Int} {b : Nat} (h : Nb b d) : (lead d).natAbs ≤ b := getD_nb h _
theorem abI_pos {i : Int} (h : i ≠ 0) : 0 < abI i := by unfold abI; split <;> omega
theorem abI_nat (i : Int) : abI i = (i.natAbs : Int) := by unfold abI; split <;> omega
theorem div_nb {x k : Int} {b : Nat} (hx : x.natAbs ≤ b) (hk : 0 < k) : (x / k).natAbs ≤ b := by
  have h1 : x / k ≤ (x.natAbs : Int) := by
    rcases Int.lt_or_le x 0 with n | n
    · have : x / k < 0 := Int.ediv_neg_of_neg_of_pos n hk
      omega
    · exact Int.le_trans (Int.ediv_le_self _ n) (by omega)
  have h2 : -(x.natAbs : Int) ≤ x / k := by
    rcases Int.lt_or_le x 0 with n | n
    · have : x ≤ x / k := by
        rw [Int.le_ediv_iff_mul_le hk]
        have h3 : x * k ≤ x * 1 := Int.mul_le_mul_of_nonpos_left (Int.le_of_lt n) (by omega)
        omega
      omega
    · have : 0 ≤ x / k := Int.ediv_nonneg n (Int.le_of_lt hk)
      omega
  omega
theorem mlt_nb {x d : List Int} {b : Nat} (hx : Nb b x) (hz : isZ d = false) : (mlt x d).natAbs ≤ b := by
  have h := div_nb (getD_nb hx (jx d)) (abI_pos (lead_ne hz))
  unfold mlt
  rcases sgn_pm (lead d) with e | e <;> rw [e] <;> omega
theorem zip_nb {x d : List Int} {m : Int} {a b c : Nat} (hx : Nb a x) (hd : Nb b d) (hm : m.natAbs ≤ c) : Nb (a + c * b) (List.zipWith (fun a b => a - m * b) x d) := by
  induction x generalizing d with
  | nil => intro y hy; cases hy
  | cons p x ih =>
    cases d with
    | nil => intro y hy; cases hy
    | cons q d =>
      intro y hy
      rw [List.zipWith_cons_cons] at hy
      rcases List.mem_cons.mp hy with e | hy
      · subst e
        have h1 := hx p List.mem_cons_self
        have h2 := hd q List.mem_cons_self
        have h3 : (m * q).natAbs ≤ c * b := by rw [Int.natAbs_mul]; exact Nat.mul_le_mul hm h2
        omega
      · exact ih (fun z hz => hx z (List.mem_cons_of_mem _ hz)) (fun z hz => hd z (List.mem_cons_of_mem _ hz)) y hy
theorem frs_nb {x d : List Int} {b : Nat} (hx : Nb b x) (hd : Nb 40 d) : Nb (b * 41) (frs x d) := by
  unfold frs
  split
  · exact nb_up hx (by omega)
  · rename_i z
    exact nb_up (zip_nb hx hd (mlt_nb hx (by simpa using z))) (by omega)
theorem frs_len {x d : List Int} (h : x.length = d.length) : (frs x d).length = x.length := by
  unfold frs fst1
  split
  · rfl
  · rw [List.length_zipWith]; omega
theorem fst_frs {x d : List Int} (h : isZ d = false) : fst1 x d = frs x d := by unfold frs; rw [h]; rfl
/-! ### leading rooms -/
def lsR (a b : List Int) : List Int := List.zipWith (· - ·) a b
theorem zip_neg : ∀ (a b : List Int), List.zipWith (· + ·) a (b.map (-1 * ·)) = lsR a b
  | [], _ => rfl
  | _ :: _, [] => rfl
  | x :: a, y :: b => by
    show (x + -1 * y) :: List.zipWith (· + ·) a (b.map (-1 * ·)) = (x - y) :: lsR a b
    rw [zip_neg a b]
    congr 1
    omega
theorem ls_len {a b : List Int} (h : a.length = b.length) : (lsR a b).length = a.length := by unfold lsR; rw [List.length_zipWith]; omega
theorem ls_nb : ∀ {a b : List Int} {m n : Nat}, Nb m a → Nb n b → Nb (m + n) (lsR a b)
  | [], _, _, _, _, _, y, hy => by cases hy
  | _ :: _, [], _, _, _, _, y, hy => by cases hy
  | p :: a, q :: b, m, n, h, g, y, hy => by
    rcases List.mem_cons.mp (show y ∈ (p - q) :: lsR a b from hy) with e | hy
    · have h1 := h p List.mem_cons_self
      have h2 := g q List.mem_cons_self
      omega
    · exact ls_nb (fun z hz => h z (List.mem_cons_of_mem _ hz)) (fun z hz => g z (List.mem_cons_of_mem _ hz)) y hy
theorem pl_nb : ∀ {a b : List Int} {m n : Nat}, Nb m a → Nb n b → Nb (m + n) (List.zipWith (· + ·) a b)
  | [], _, _, _, _, _, y, hy => by cases hy
  | _ :: _, [], _, _, _, _, y, hy => by cases hy
  | p :: a, q :: b, m, n, h, g, y, hy => by
    rcases List.mem_cons.mp (show y ∈ (p + q) :: List.zipWith (· + ·) a b from hy) with e | hy
    · have h1 := h p List.mem_cons_self
      have h2 := g q List.mem_cons_self
      omega
    · exact pl_nb (fun z hz => h z (List.mem_cons_of_mem _ hz)) (fun z hz => g z (List.mem_cons_of_mem _ hz)) y hy
def rle (a b : List Int) : Bool := dataLe false id (iv a) (iv b)
theorem sort_iv (l : List (List Int)) : (l.map iv).mergeSort (dataLe false id) = (l.mergeSort rle).map iv :=
  (List.map_mergeSort (r := rle) (s := dataLe false id) (f := iv) fun _ _ _ _ => rfl).symm
def nearL (F G : List Tp) (d : List Int) : List (List Int) := match F with
  | [] => []
  | t :: _ => (G.filter fun u => decide (u.1.2 = t.1.2) && decide (u.2 = t.2)).map fun u => frs (lsR u.1.1 t.1.1) d
def nearS (F G : List Tp) (d : List Int) : List (List Int) := (nearL F G d).mergeSort rle
def leadL (F G : List Tp) (d : List Int) : List (List Int) := (nearS F G d).filter fun m => decide (fold (mvS m F) d = G)
def leadD (r : Int) (one other : List Int) : D :=
  if we (org r) one = we (org r) other then
    (if fold (sh r one) (we (org r) one) = [] then (if fold (sh r other) (we (org r) one) = [] then .none else .tuple []) else .tuple ((leadL (fold (sh r one) (we (org r) one)) (fold (sh r other) (we (org r) one)) (we (org r) one)).map iv))
  else .tuple []
/-- what is known of a show rolled -/
structure Fo (r : Int) (b : Nat) (s : List Tp) : Prop where
  can : Can s
  each : ∀ t ∈ s, KOk r t.1 ∧ Nb b t.1.1
  len : s.length ≤ 40
theorem fo_sh {r : Int} {row : List Int} (r1 : 1 ≤ r) (ha : AllS r row) (hl : row.length ≤ 40) : Fo r 40 (sh r row) := by
  refine ⟨sm_can _, fun t ht => ?_, Nat.le_trans (sm_len _) (by rw [wk_len]; exact hl)⟩
  obtain ⟨u, hu, e⟩ := sm_mem ht
  have h := wk_ok (b := 0) ha (org_len r1) org_nb u hu
  rw [e] at h
  exact ⟨h.1, nb_up h.2 (by omega)⟩
theorem fo_fold {r : Int} {s : List Tp} {d : List Int} {b : Nat} (h : Fo r b s) (hd : (d.length : Int) = r) (nd : Nb 40 d) : Fo r (b * 41) (fold s d) := by
  rw [← rb_fold h.can]
  refine ⟨sm_can _, fun t ht => ?_, Nat.le_trans (sm_len _) (by rw [List.length_map]; exact h.len)⟩
  obtain ⟨u, hu, e⟩ := sm_mem ht
  obtain ⟨v, hv, rfl⟩ := List.mem_map.mp hu
  obtain ⟨h1, h2⟩ := h.each v hv
  have e : (frs v.1.1 d, v.1.2) = t.1 := e
  rw [← e]
  exact ⟨⟨by show ((frs v.1.1 d).length : Int) = r; rw [frs_len (by have := h1.1; omega)]; exact h1.1, h1.2⟩, frs_nb h2 nd⟩
theorem near_ok {r : Int} {F G : List Tp} {d : List Int} {b : Nat} (hF : Fo r b F) (hG : Fo r b G) (hd : (d.length : Int) = r) (nd : Nb 40 d) : ∀ m ∈ nearL F G d, (m.length : Int) = r ∧ Nb ((b + b) * 41) m := by
  intro m hm
  cases F with
  | nil => cases hm
  | cons t F =>
    obtain ⟨u, hu, rfl⟩ := List.mem_map.mp hm
    obtain ⟨h1, h2⟩ := hG.each u (List.mem_filter.mp hu).1
    obtain ⟨h3, h4⟩ := hF.each t List.mem_cons_self
    have e1 : u.1.1.length = t.1.1.length := by have := h1.1; have := h3.1; omega
    have e2 := ls_len e1
    exact ⟨by rw [frs_len (by have := h1.1; omega), e2]; exact h1.1, frs_nb (ls_nb h2 h4) nd⟩
theorem near_len {F G : List Tp} {d : List Int} : (nearL F G d).length ≤ G.length := by
  cases F with
  | nil => exact Nat.zero_le _
  | cons t F =>
    show ((G.filter _).map _).length ≤ _
    rw [List.length_map]
    exact List.length_filter_le _ _
theorem can_mv {r : Int} {F : List Tp} {m : List Int} {b : Nat} (hF : Fo r b F) (hm : (m.length : Int) = r) : Can (mvS m F) := mv_can hF.can fun t ht => by have := (hF.each t ht).1.1; omega
/-! ### the order -/
theorem lt_first : ∀ (xs ys : List Int), xs.length = ys.length → (∀ x ∈ xs, x = 0) → isZ ys = false → ∀ l m, lxt (keyToksAll (xs.map PyData.int) ++ l) (keyToksAll (ys.map PyData.int) ++ m) = decide (0 < lead ys)
  | [], [], _, _, h, _, _ => by cases h
  | [], _ :: _, h, _, _, _, _ => by cases h
  | _ :: _, [], h, _, _, _, _ => by cases h
  | x :: xs, y :: ys, h, hx, hz, l, m => by
    have e := hx x List.mem_cons_self
    subst e
    simp only [List.map_cons, keyToksAll, keyToks, List.cons_append, List.nil_append, lx]
    by_cases hy : y = 0
    · subst hy
      have hz' : isZ ys = false := by unfold isZ at hz ⊢; rw [List.all_cons] at hz; simpa using hz
      have el : lead (0 :: ys) = lead ys := by
        unfold lead jx
        rw [List.findIdx_cons]
        simp
      rw [lt_first xs ys (by simpa using h) (fun x h => hx x (List.mem_cons_of_mem _ h)) hz' l m, el]
      simp [itemLt]
    · have el : lead (y :: ys) = y := by
        unfold lead jx
        rw [List.findIdx_cons]
        simp [hy]
      rw [el]
      by_cases h1 : 0 < y
      · simp [itemLt, h1]
      · have h2 : y < 0 := by omega
        simp [itemLt, h1, h2]
theorem ahead_eq {d : List Int} (h : isZ d = false) : dataLt (iv (List.replicate d.length 0)) (iv d) = decide (0 < lead d) := by
  show lxt (keyToks (iv (List.replicate d.length 0))) (keyToks (iv d)) = _
  have e : ∀ xs : List Int, keyToks (iv xs) = keyToksAll (xs.map PyData.int) ++ [] := fun xs => by simp [keyToks]
  rw [e, e]
  exact lt_first _ _ (by rw [List.length_replicate]) (fun x hx => (List.mem_replicate.mp hx).2) h _ _
theorem mlt_ahead {x d : List Int} : mlt x d = if 0 < lead d then x.getD (jx d) 0 / abI (lead d) else -(x.getD (jx d) 0 / abI (lead d)) := by
  unfold mlt sgn
  split <;> omega
end K4
namespace DW
open PySem PySem.W L2 RZ PyProof.Rows
section
variable {F : Fc} {X : Cx} {e a b c : Expr} {es : List Sl} {Φ : D → Prop} {K : Ek} {pos p : Pos} {s : Stmt} {ss : List Stmt} {H H' : Hp} {σ : L2.St}
/-- x += e, whole numbers -/
theorem ws_augAdd {i : Nat} {x : Str} {pos' : Pos} {m : Int} (he : es[i]? = some (.d (.int m))) (hN : X.N.Nodup) (hi : X.N[i]? = some x) (hx : Loc X.env.scope x) (hl : i < es.length)
    (h : W F X e es fun d => ∃ n : Int, d = .int n ∧ K.nx (es.set i (.d (.int (m + n))))) (hf : X.fn x = true ∨ X.env.scope.names.lookup x = some .local := by exact Or.inr rfl) : WS F X (.AugAssign (.Name x pos') .Add e pos) es K := fun σ H D s g => by
  refine ⟨_, ps_aug hN hi hx can_e ip_add hf, ?_⟩
  obtain ⟨v, h1, h2⟩ := s.dat i _ he
  obtain rfl := h2.int_inv
  refine ⟨_, h1, ?_⟩
  refine h σ H s _ fun v d H1 s1 x1 t1 ⟨n, en, q⟩ => ?_
  subst en
  obtain rfl := t1.int_inv
  exact ⟨m, n, rfl, rfl, g.nx _ H1 _ (s1.set hl (.int (m + n))) ((Tr.of x1.mx).trans Tr.set) q⟩
end
end DW
namespace DW
open PySem PySem.W L2 RZ PyProof.Rows
section
variable {F : Fc} {X : Cx} {e a b c : Expr} {es : List Sl} {Φ : D → Prop} {K : Ek} {pos p p1 p2 : Pos} {s : Stmt} {ss : List Stmt} {H H' : Hp} {σ : L2.St}
/-- own != [] -/
theorem t_neO {i : Nat} {x : Str} {ds : List D} {Ψ : Bool → Prop} (hu : X.A.units + 64 < cLine) (he : es[i]? = some (.own ds)) (sh : SeqAt.shaped (.list ds) = true) (q : Ψ (!PyData.eqv (.list ds) (.list []))) (hN : X.N[i]? = some x := by rfl)
    (hv : Vis X.env.scope x := by first | exact Or.inl rfl | exact Or.inr (Or.inl rfl) | exact Or.inr (Or.inr rfl)) (hd : (x == ("__debug__" : Str)) = false := by decide) (hcd : (x == ("__classdict__" : Str)) = false := by decide) (hm : behindInMarks .NotEq (.List [] p2) = false := by first | exact nomark _ | rfl) :
    T F X (.Compare (.Name x p1) [.NotEq] [.List [] p2] pos) es Ψ := fun σ H s Q k => by
  refine ⟨_, pt_cmpR (op_neD hu) (pv i hN hv hd hcd) (pe_lst pa_nil) hm, ?_⟩
  obtain ⟨l, q1, q0, _, xs, q2, q3⟩ := s.own i _ he rfl
  refine ⟨.ref l, q1, by show 0 ≤ sizeLine; exact Nat.zero_le _, fun e hn => ?_⟩
  have s1 := s.new (o := .lst []) hn
  obtain ⟨l', r1, _, _, ys, r2, r3⟩ := s1.own i _ he rfl
  rw [q1] at r1
  cases r1
  refine ⟨_, _, .lst (SqL.of r2) (DtA.dp _ _ (by have := shaped_nd sh; simpa [PyData.hasDict] using this) r3), Dt.dp (M := fun _ => False) (.list []) _ rfl (.lst upd_same id .nil), sh, shaped_l0, _, rfl, k _ _ s1 (ExM.new hn) q⟩
where
  shaped_l0 : SeqAt.shaped (.list []) = true := shapedL_ints []
/-- own[i] -/
theorem w_ixO {i : Nat} {x : Str} {ds : List D} (he : es[i]? = some (.own ds)) (h : W F X b es fun y => ∃ j d, y = .int j ∧ atI ds j = some d ∧ Φ d) (hs : PlainIx b := by exact fun _ _ => rfl) (hN : X.N[i]? = some x := by rfl)
    (hv : Vis X.env.scope x := by first | exact Or.inl rfl | exact Or.inr (Or.inl rfl) | exact Or.inr (Or.inr rfl)) (hd : (x == ("__debug__" : Str)) = false := by decide) (hcd : (x == ("__classdict__" : Str)) = false := by decide) : W F X (.Subscript (.Name x p1) b pos) es Φ := fun σ H s Q k => by
  refine ⟨_, pe_ix ix_list (pv i hN hv hd hcd) can_e hs, ?_⟩
  obtain ⟨l, q1, _⟩ := s.own i _ he rfl
  refine ⟨.ref l, q1, ?_⟩
  refine h σ H s _ fun u y H2 s2 x2 t2 ⟨j, d, e2, ha, q⟩ => ?_
  subst e2
  obtain ⟨l', r1, _, _, ys, g1, g3⟩ := s2.own i _ he rfl
  rw [q1] at r1
  cases r1
  have hx : ixN ys.length j = ixN ds.length j := by rw [g3.length]
  unfold atI at ha
  cases hj : ixN ds.length j with
  | none => rw [hj] at ha; cases ha
  | some n =>
    rw [hj] at ha
    obtain ⟨w, e3, t3⟩ := g3.get (i := n) ha
    refine ⟨l, ys, j, w, rfl, t2.int_inv, SqL.of g1, ?_, k w d H2 s2 x2 t3 q⟩
    unfold atI
    rw [hx, hj]
    exact e3
end
end DW
namespace DW
open PySem PySem.W L2 RZ PyProof.Rows
/-! ### isinstance of any data, instances too -/
structure InsF (K : PySem.W.Frag) (C : Addr) : Prop where
  cl : Cls K C
  fc : PySem.W.findIn K (.ref C) "__class__" = some (some (.builtin "object.__class__"))
  fg : PySem.W.specialIn K (.builtin "object.__class__") "__get__" = some (some (.builtin "getset_descriptor.__get__"))
  ft : PySem.W.takesIn K (.builtin "object.__class__") = some true
  fo : PySem.W.mroIn K C (.type "object") = some true
  tup : PySem.W.kitOne K (.ref C) (.type "tuple") = some false
  int : PySem.W.kitOne K (.ref C) (.type "int") = some false
  bool : PySem.W.kitOne K (.ref C) (.type "bool") = some false
  str : PySem.W.kitOne K (.ref C) (.type "str") = some false
def AnyIs (K : PySem.W.Frag) (d : D) (n : String) (k : Bool) : Prop := (tyD d ≠ "?" ∧ kitB (tyD d) n = some k) ∨ ∃ C, d = insD C ∧ InsF K C ∧ PySem.W.kitOne K (.ref C) (.type n) = some k
section
variable {F : Fc} {X : Cx} {e a b c : Expr} {es : List Sl} {Φ : D → Prop} {pos p pos' pn apos cpos : Pos}
theorem w_isA {x y : Str} {p2 : Pos} {n : String} (hg : Gl X x) (hm : X.mg x = none) (hv : bootBuiltins x = some (.builtin "isinstance")) (hg2 : Gl X y) (hm2 : X.mg y = none) (hv2 : bootBuiltins y = some (.type n))
    (h : W F X a es fun d => ∃ k, AnyIs X.K d n k ∧ Φ (.bool k)) (hn : x ≠ "__name__" := by decide) (hdb : (x == ("__debug__" : Str)) = false := by decide) (hn2 : y ≠ "__name__" := by decide) (hdb2 : (y == ("__debug__" : Str)) = false := by decide)
    (he : starEach [a, .Name y p2] X.env = (false, eval a X.env) :: starEach [.Name y p2] X.env := by rfl) (he2 : starEach [.Name y p2] X.env = (false, eval (.Name y p2) X.env) :: starEach [] X.env := by rfl) (hpl : (backTo pos (starEach [.Name y p2] X.env)).any (·.1) = false := by rfl) :
    W F X (.Call (.Name x p) [a, .Name y p2] [] pos) es Φ := fun σ H s Q k => by
  refine ⟨_, pe_callB call_isi hg hm hv (pa_cons can_e (pa_cons (pe_bltn (v := .ty n) hg2 hm2 hv2 rfl hn2 hdb2) pa_nil he2) he) hn hdb he hpl, ?_⟩
  refine h σ H s _ fun v d H1 s1 x1 t1 ⟨kk, e, q⟩ => ?_
  rcases e with ⟨e1, e2⟩ | ⟨C, rfl, f, e2⟩
  · exact ⟨v, .ty n, _, _, kk, rfl, .ty n, ty_of e1 t1, kit_ty e2, k _ _ H1 s1 x1 (.bl kk) q⟩
  · cases t1 with
    | ins h1 h2 => exact ⟨_, .ty n, _, _, kk, rfl, .ty n, .base (.ins h1 f.cl f.fc f.fg f.ft f.fo), e2, k _ _ H1 s1 x1 (.bl kk) q⟩
/-- {} as data -/
theorem w_dct0 (q : Φ (.dict [])) : W F X (.Dict [] [] pos) es Φ := fun σ H s Q k => by
  refine ⟨_, pe_dnewK, fun p hp => ?_⟩
  exact k _ _ _ (s.new hp) (ExM.new hp) (.dct upd_same (nm s.kn hp) True.intro) q
/-- str(an integer) -/
theorem cd_strI {i : Int} (h : i.natAbs.log2 < 1920) : CallD X (.type "str") [.int i] (.str (toString i)) := fun M H vs kn hh Q q => by
  obtain ⟨v, rfl, t⟩ := dta1 hh
  obtain rfl := t.int_inv
  exact ⟨_, call_str_int, i, rfl, h, q _ H same0 (.str _)⟩
end
end DW
namespace A3
open PySem PySem.W L2 RZ PyProof.Rows DW K9
structure Be (mg : Str → Option Value) : Prop where
  b : Bi mg
  en : mg "enumerate" = none
  st : mg "str" = none
/-- any value: at most n more than what is drawn -/
inductive Wd (K : PySem.W.Frag) (n : Nat) : D → Prop
  | non : Wd K n .none
  | bl (b : Bool) : Wd K n (.bool b)
  | int {i : Int} : i.natAbs ≤ 2 ^ 1000 + n → Wd K n (.int i)
  | str {x : Str} : x.length ≤ 1000 + n → Wd K n (.str x)
  | lst {ds : List D} : ds.length ≤ 3000 + n → (∀ d ∈ ds, Wd K n d) → Wd K n (.list ds)
  | tup {ds : List D} : ds.length ≤ 3000 + n → (∀ d ∈ ds, Wd K n d) → Wd K n (.tuple ds)
  | dct : Wd K n (.dict [])
  | ins {C : Addr} : InsF K C → Wd K n (insD C)
def Ay (K : PySem.W.Frag) (d : D) : Prop := ∃ n, n ≤ 100 ∧ Wd K n d
def isT : D → Bool
  | .tuple _ => true
  | _ => false
def isN : D → Bool
  | .int _ => true
  | .bool _ => true
  | _ => false
def isB : D → Bool
  | .bool _ => true
  | _ => false
def isS : D → Bool
  | .str _ => true
  | _ => false
def isI : D → Bool
  | .int _ => true
  | _ => false
variable {K : PySem.W.Frag} {n : Nat} {d : D}
theorem ay_tup (h : Wd K n d) : AnyIs K d "tuple" (isT d) := by
  cases h with
  | ins f => exact .inr ⟨_, rfl, f, f.tup⟩
  | _ => exact .inl ⟨by simp [tyD], by simp only [tyD, isT]; decide +kernel⟩
theorem ay_int (h : Wd K n d) : AnyIs K d "int" (isN d) := by
  cases h with
  | ins f => exact .inr ⟨_, rfl, f, f.int⟩
  | _ => exact .inl ⟨by simp [tyD], by simp only [tyD, isN]; decide +kernel⟩
theorem ay_bool (h : Wd K n d) : AnyIs K d "bool" (isB d) := by
  cases h with
  | ins f => exact .inr ⟨_, rfl, f, f.bool⟩
  | _ => exact .inl ⟨by simp [tyD], by simp only [tyD, isB]; decide +kernel⟩
theorem ay_str (h : Wd K n d) : AnyIs K d "str" (isS d) := by
  cases h with
  | ins f => exact .inr ⟨_, rfl, f, f.str⟩
  | _ => exact .inl ⟨by simp [tyD], by simp only [tyD, isS]; decide +kernel⟩
theorem Wd.mono {m : Nat} (e : n ≤ m) : Wd K n d → Wd K m d := fun h => by
  induction h with
  | non => exact .non
  | bl b => exact .bl b
  | int h => exact .int (by omega)
  | str h => exact .str (by omega)
  | lst h _ ih => exact .lst (by omega) ih
  | tup h _ ih => exact .tup (by omega) ih
  | dct => exact .dct
  | ins f => exact .ins f
theorem Ay.mem {ds : List D} (h : Ay K (.tuple ds)) : ds.length ≤ 3100 ∧ ∀ d ∈ ds, Ay K d := by
  obtain ⟨n, hn, w⟩ := h
  cases w with
  | tup h1 h2 => exact ⟨by omega, fun d hd => ⟨n, hn, h2 d hd⟩⟩
/-! what a show is, of any value -/
def roomB (r : Int) : D → Bool
  | .tuple ds => decide ((ds.length : Int) = r) && ds.all isI
  | _ => false
def dirB (r : Int) : D → Bool
  | .int i => decide (1 ≤ i) && decide (i ≤ r)
  | _ => false
def nzB : D → Bool
  | .int i => decide (i ≠ 0)
  | _ => false
def len3 : D → Bool
  | .tuple [_, _, _] => true
  | _ => false
def tripB (r : Int) : D → Bool
  | .tuple [a, b, c] => roomB r a && (dirB r b && nzB c)
  | _ => false
def keyD : D → D
  | .tuple [a, b, _] => .tuple [a, b]
  | d => d
def ascB : List D → Bool
  | a :: b :: l => dataLt a b && ascB (b :: l)
  | _ => true
def showB (r : Int) : D → Bool
  | .tuple ds => ds.all (tripB r) && ascB (ds.map keyD)
  | _ => false
theorem ints_of : ∀ {ds : List D}, ds.all isI = true → ∃ xs : List Int, ds = xs.map PyData.int
  | [], _ => ⟨[], rfl⟩
  | d :: ds, h => by
    rw [List.all_cons, Bool.and_eq_true] at h
    obtain ⟨xs, rfl⟩ := ints_of h.2
    cases d with
    | int i => exact ⟨i :: xs, rfl⟩
    | _ => simp [isI] at h
theorem room_of {r : Int} {d : D} (h : roomB r d = true) : ∃ xs : List Int, d = iv xs ∧ (xs.length : Int) = r := by
  cases d with
  | tuple ds =>
    simp only [roomB, Bool.and_eq_true, decide_eq_true_eq] at h
    obtain ⟨xs, rfl⟩ := ints_of h.2
    exact ⟨xs, rfl, by simpa using h.1⟩
  | _ => simp [roomB] at h
theorem trip_of {r : Int} {d : D} (h : tripB r d = true) : ∃ t : Tp, d = dT t ∧ TOk r t := by
  unfold tripB at h
  split at h
  · rename_i a b c
    rw [Bool.and_eq_true, Bool.and_eq_true] at h
    obtain ⟨h1, h2, h3⟩ := h
    obtain ⟨xs, rfl, e⟩ := room_of h1
    cases b with
    | int i =>
      cases c with
      | int n =>
        simp only [dirB, Bool.and_eq_true, decide_eq_true_eq] at h2
        simp only [nzB, decide_eq_true_eq] at h3
        exact ⟨((xs, i), n), rfl, ⟨e, h2.1, h2.2⟩, h3⟩
      | _ => simp [nzB] at h3
    | _ => simp [dirB] at h2
  · cases h
theorem trips_of {r : Int} : ∀ {ds : List D}, ds.all (tripB r) = true → ∃ s : List Tp, ds = s.map dT ∧ ∀ t ∈ s, TOk r t
  | [], _ => ⟨[], rfl, fun _ h => nomatch h⟩
  | d :: ds, h => by
    rw [List.all_cons, Bool.and_eq_true] at h
    obtain ⟨t, rfl, ht⟩ := trip_of h.1
    obtain ⟨s, rfl, hs⟩ := trips_of h.2
    exact ⟨t :: s, rfl, fun u hu => by
      rcases List.mem_cons.mp hu with e | e
      · rw [e]; exact ht
      · exact hs u e⟩
theorem ascB_asc : ∀ {s : List Tp}, ascB ((s.map dT).map keyD) = true → Asc s
  | [], _ => trivial
  | [t], _ => trivial
  | t :: u :: s, h => by
    simp only [List.map_cons, ascB, Bool.and_eq_true] at h
    exact ⟨h.1, ascB_asc (s := u :: s) h.2⟩
theorem show_of {r : Int} {d : D} (h : showB r d = true) : ∃ s : List Tp, d = dS s ∧ (∀ t ∈ s, TOk r t) ∧ Asc s := by
  cases d with
  | tuple ds =>
    simp only [showB, Bool.and_eq_true] at h
    obtain ⟨s, rfl, hs⟩ := trips_of h.1
    exact ⟨s, rfl, hs, ascB_asc h.2⟩
  | _ => simp [showB] at h
abbrev SpW (K : PySem.W.Frag) : Sp := Pu (fun ds => ∃ d, ds = [d] ∧ Ay K d) (fun ds v => ∀ d, ds = [d] → v = .bool (isI d))
abbrev SpAny (K : PySem.W.Frag) (g : Int → D → Bool) : Sp := Pu (fun ds => ∃ (r : Int) (d : D), ds = [.int r, d] ∧ Ay K d) (fun ds v => ∀ (r : Int) (d : D), ds = [.int r, d] → v = .bool (g r d))
end A3
namespace A7
open PySem PySem.W L2 RZ PyProof.Rows DW K9 A3
def topS (i : Nat) : Stmt := PySem.Challenge.pw_stilewalks_k07_shows_among_any_values.main.body.getD i (.Pass ⟨0, 0, 0, 0⟩)
abbrev KnP (P : Program) (w : World) (K : PySem.W.Frag) (mg : Str → Option Value) (base : Heap) (x : Str) (i : Nat) (k : Nat) (ps : List Str) (sp : Sp) : Prop := Kn P w K mg base x x (topS i) k ps sp
end A7
namespace A7
open PySem PySem.W L2 RZ PyProof.Rows DW K9 K4 A3
local macro_rules | `(tactic| walk_at "dw") => `(tactic| first
  | ((with_reducible show W _ _ (.Name _ _) _ _); first
    | refine w_var (i := 0) rfl (q := ?_)
    | refine w_var (i := 1) rfl (q := ?_)
    | refine w_var (i := 2) rfl (q := ?_)
    | refine w_var (i := 3) rfl (q := ?_)
    | refine w_var (i := 4) rfl (q := ?_)
    | refine w_var (i := 5) rfl (q := ?_)
    | refine w_var (i := 6) rfl (q := ?_)
    | refine w_var (i := 7) rfl (q := ?_)
    | refine w_var (i := 8) rfl (q := ?_)
    | refine w_var (i := 9) rfl (q := ?_)
    | refine w_var (i := 10) rfl (q := ?_)
    | refine w_var (i := 11) rfl (q := ?_)
    | refine w_var (i := 12) rfl (q := ?_)
    | refine w_var (i := 13) rfl (q := ?_)
    | refine w_var (i := 14) rfl (q := ?_)
    | refine w_var (i := 15) rfl (q := ?_))
  | ((with_reducible show W _ _ (.Constant (.int _) _ _) _ _); refine w_int ?_)
  | ((with_reducible show W _ _ (.Constant (.bool _) _ _) _ _); refine w_bool ?_)
  | ((with_reducible show W _ _ (.Constant .none _ _) _ _); refine w_none ?_)
  | ((with_reducible show W _ _ (.Constant (.str _) _ _) _ _); refine w_str ?_)
  | ((with_reducible show W _ _ (.BoolOp .And (_ :: _ :: _) _) _ _); refine w_andV ?_)
  | ((with_reducible show W _ _ (.BoolOp .Or (_ :: _ :: _) _) _ _); refine w_orV ?_)
  | ((with_reducible show W _ _ (.BoolOp _ [_] _) _ _); refine w_one ?_)
  | ((with_reducible show W _ _ (.UnaryOp .Not _ _) _ _); refine w_notV ?_)
  | ((with_reducible show W _ _ (.UnaryOp .USub _ _) _ _); refine w_un ?_)
  | ((with_reducible show W _ _ (.BinOp _ _ _ _) _ _); refine w_bin ?_)
  | ((with_reducible show W _ _ (.Tuple _ _ _) _ _); refine w_tup ?_)
  | ((with_reducible show W _ _ (.Compare _ [_] _ _) _ _); refine w_cmp (h := ?_))
  | ((with_reducible show W _ _ (.Compare _ [_, _] _ _) _ _); refine w_chain (h := ?_))
  | ((with_reducible show T _ _ (.Compare _ [_] _ _) _ _); refine t_cmp (h := ?_))
  | ((with_reducible show T _ _ (.Compare _ [_, _] _ _) _ _); refine t_chain (h := ?_))
  | ((with_reducible show T _ _ (.UnaryOp .Not _ _) _ _); refine t_not ?_)
  | ((with_reducible show T _ _ (.Call _ _ _ _) _ _); refine t_val ?_)
  | ((with_reducible show T _ _ (.BoolOp .And _ _) _ _); refine t_w ?_)
  | ((with_reducible show T _ _ (.BoolOp .Or _ _) _ _); refine t_w ?_)
  | ((with_reducible show T _ _ (.Name _ _) _ _); refine t_val ?_)
  | ((with_reducible show TW _ _ (.BoolOp .And [_] _) _ _); refine tw_and1 ?_)
  | ((with_reducible show TW _ _ (.BoolOp .Or [_] _) _ _); refine tw_or1 ?_)
  | ((with_reducible show TW _ _ (.BoolOp .And (_ :: _ :: _) _) _ _); refine tw_and ?_)
  | ((with_reducible show TW _ _ (.BoolOp .Or (_ :: _ :: _) _) _ _); refine tw_or ?_)
  | ((with_reducible show WS _ _ (.Return (some _) _) _ _); refine ws_ret ?_)
  | ((with_reducible show WS _ _ (.If _ _ _ _) _ _); refine ws_if ?_)
  | ((with_reducible show WS _ _ (.Pass _) _ _); refine ws_pass ?_)
  | ((with_reducible show WA _ _ [] _ _); refine wa_nil ?_)
  | ((with_reducible show WA _ _ (_ :: _) _ _); refine wa_cons ?_)
  | ((with_reducible show WK _ _ [] _ _); refine wk_nil ?_)
  | ((with_reducible show WK _ _ (_ :: _) _ _); refine wk_cons ?_)
  | ((with_reducible show WP _ _ none _ _); refine wp_none ?_)
  | ((with_reducible show WP _ _ (some _) _ _); refine wp_some ?_)
  | ((with_reducible show WB _ _ [] _ _); refine wb_nil ?_)
  | ((with_reducible show WB _ _ (_ :: _) _ _); refine wb_cons ?_)
  | ((with_reducible show WB _ _ (defBody _) _ _); refine wb_cons ?_)
  | ((with_reducible show ∃ z, OpD _ (binaryOp .Add) (.int _) (.int _) z ∧ _); refine ⟨_, od_add, ?_⟩)
  | ((with_reducible show ∃ z, OpD _ (binaryOp .Sub) (.int _) (.int _) z ∧ _); refine ⟨_, od_sub, ?_⟩)
  | ((with_reducible show ∃ z, OpD _ (compareOp .Lt) (.int _) (.int _) z ∧ _); refine ⟨_, od_lt, ?_⟩)
  | ((with_reducible show ∃ z, OpD _ (compareOp .Lt) (.int _) (.int _) (.bool z) ∧ _); refine ⟨_, od_lt, ?_⟩)
  | ((with_reducible show ∃ z, OpD _ (compareOp .LtE) (.int _) (.int _) z ∧ _); refine ⟨_, od_le, ?_⟩)
  | ((with_reducible show ∃ z, OpD _ (compareOp .LtE) (.int _) (.int _) (.bool z) ∧ _); refine ⟨_, od_le, ?_⟩)
  | ((with_reducible show ∃ z, OpD _ (compareOp .Gt) (.int _) (.int _) z ∧ _); refine ⟨_, od_gt, ?_⟩)
  | ((with_reducible show ∃ z, OpD _ (compareOp .Gt) (.int _) (.int _) (.bool z) ∧ _); refine ⟨_, od_gt, ?_⟩)
  | ((with_reducible show ∃ z, OpD _ (compareOp .GtE) (.int _) (.int _) z ∧ _); refine ⟨_, od_ge, ?_⟩)
  | ((with_reducible show ∃ z, OpD _ (compareOp .GtE) (.int _) (.int _) (.bool z) ∧ _); refine ⟨_, od_ge, ?_⟩)
  | ((with_reducible show ∃ z, OpD _ (compareOp .Eq) (.int _) (.int _) z ∧ _); refine ⟨_, od_eqI, ?_⟩)
  | ((with_reducible show ∃ z, OpD _ (compareOp .Eq) (.int _) (.int _) (.bool z) ∧ _); refine ⟨_, od_eqI, ?_⟩)
  | ((with_reducible show ∃ z, OpD _ (compareOp .NotEq) (.int _) (.int _) z ∧ _); refine ⟨_, od_neI, ?_⟩)
  | ((with_reducible show ∃ z, OpD _ (compareOp .NotEq) (.int _) (.int _) (.bool z) ∧ _); refine ⟨_, od_neI, ?_⟩)
  | ((with_reducible show ∃ z, OpD _ (compareOp .Is) (.bool _) (.bool _) z ∧ _); refine ⟨_, od_isB, ?_⟩)
  | ((with_reducible show ∃ z, OpD _ (compareOp .Is) (.bool _) (.bool _) (.bool z) ∧ _); refine ⟨_, od_isB, ?_⟩)
  | ((with_reducible show ∃ z, OpD _ (compareOp .IsNot) (.bool _) (.bool _) z ∧ _); refine ⟨_, od_notB, ?_⟩)
  | ((with_reducible show ∃ z, OpD _ (compareOp .IsNot) (.bool _) (.bool _) (.bool z) ∧ _); refine ⟨_, od_notB, ?_⟩)
  | ((with_reducible show ∃ z, OpD _ (binaryOp .Pow) (.int _) (.int _) z ∧ _); refine ⟨_, od_pow (by exact ⟨by decide, by decide, by decide⟩), ?_⟩)
  | ((with_reducible show ∃ z, OpD _ (compareOp .NotEq) (.str _) (.str _) (.bool z) ∧ _); refine ⟨_, od_neS, ?_⟩)
  | ((with_reducible show ∃ z, OpD _ (compareOp .Eq) (.str _) (.str _) (.bool z) ∧ _); refine ⟨_, od_eqS, ?_⟩)
  | ((with_reducible show ∃ z, OpD _ (compareOp .Eq) (.str _) (.str _) z ∧ _); refine ⟨_, od_eqS, ?_⟩)
  | ((with_reducible show ∃ z, UnD _ (unaryOp .USub) (.int _) z ∧ _); refine ⟨_, ud_neg, ?_⟩)
  | ((with_reducible show ∃ i, PyData.int _ = PyData.int i ∧ _); refine ⟨_, rfl, ?_⟩)
  | ((with_reducible show ∃ i, PyData.bool _ = PyData.bool i ∧ _); refine ⟨_, rfl, ?_⟩)
  | ((with_reducible show ∃ i, PyData.tuple _ = PyData.tuple i ∧ _); refine ⟨_, rfl, ?_⟩)
  | ((with_reducible show ∃ i, PyData.list _ = PyData.list i ∧ _); refine ⟨_, rfl, ?_⟩)
  | ((with_reducible show List.length [_] ≤ sizeLine ∧ _); refine ⟨len_le1, ?_⟩)
  | ((with_reducible show List.length [_, _] ≤ sizeLine ∧ _); refine ⟨len_le2, ?_⟩)
  | ((with_reducible show List.length [_, _, _] ≤ sizeLine ∧ _); refine ⟨len_le3, ?_⟩))
section
variable {P : Program} {w : World} {K : PySem.W.Frag} {mg : Str → Option Value} {base : Heap} {f : Addr} {fd : FuncData}
theorem fin2 {g : Int → D → Bool} {r : Int} {d v : D} (h : v = .bool (g r d)) : ∀ (r' : Int) (d' : D), [PyData.int r, d] = [PyData.int r', d'] → v = .bool (g r' d') := fun r' d' e => by
  injection e with e1 e
  injection e with e2 _
  injection e1 with e1
  rw [← e1, ← e2]; exact h
theorem fin1 {g : D → Bool} {d v : D} (h : v = .bool (g d)) : ∀ (d' : D), [d] = [d'] → v = .bool (g d') := fun d' e => by
  injection e with e1 _
  rw [← e1]; exact h
theorem outB {g : D → Bool} : ∀ {ds out : List D}, Paired (fun d r => r = PyData.bool (g d)) ds out → out = (ds.map g).map PyData.bool
  | [], _, h => by cases h; rfl
  | d :: ds, _, h => by
    cases h with
    | cons h1 h2 => subst h1; rw [outB h2]; rfl
theorem all_g {g : D → Bool} (ds : List D) : (ds.map g).all id = ds.all g := by rw [List.all_map]; rfl
abbrev s_is_whole : Stmt := topS 11
abbrev n_is_whole : List Str := ["thing"]
theorem sc_is_whole : FnScope ["thing"] ["thing"] (defScope s_is_whole) := ⟨rfl, rfl, rfl, by decide +kernel, rfl, by decide +kernel, by decide +kernel⟩
theorem isI_eq (d : D) : isI d = (isN d && !isB d) := by cases d <;> rfl
theorem ok_is_whole (B : Be mg) (F : Fun K "is_whole" "is_whole" s_is_whole f fd) : FnG P w K mg base 1 f fd ["thing"] (SpW K) := by
  refine ok_pu F sc_is_whole (fun ds h => by obtain ⟨d, rfl, _⟩ := h; rfl) (by decide) fun cdv A outer s H E hr F ds hw h => ?_
  obtain ⟨d, rfl, n, hn, wd⟩ := h
  repeat walk_at "dw"
  refine w_isA rfl B.b.isi PyProof.Rows.boot_isinstance rfl B.b.int PyProof.Rows.boot_int ?_
  repeat walk_at "dw"
  refine ⟨isN d, ay_int wd, _, rfl, ?_⟩
  cases e : isN d with
  | false =>
    refine iteF rfl ?_
    exact fin1 (by rw [isI_eq, e]; rfl)
  | true =>
    refine iteT rfl ?_
    repeat walk_at "dw"
    refine w_isA rfl B.b.isi PyProof.Rows.boot_isinstance rfl B.b.bool PyProof.Rows.boot_bool ?_
    repeat walk_at "dw"
    refine ⟨isB d, ay_bool wd, _, rfl, ?_⟩
    exact fin1 (by rw [isI_eq, e]; rfl)
abbrev s_is_direction : Stmt := topS 13
abbrev n_is_direction : List Str := ["r", "thing"]
theorem sc_is_direction : FnScope ["r", "thing"] ["r", "thing"] (defScope s_is_direction) := ⟨rfl, rfl, rfl, by decide +kernel, rfl, by decide +kernel, by decide +kernel⟩
theorem ok_is_direction (B : Be mg) (F : Fun K "is_direction" "is_direction" s_is_direction f fd) (k1 : KnP P w K mg base "is_whole" 11 1 ["thing"] (SpW K)) : FnG P w K mg base 2 f fd ["r", "thing"] (SpAny K dirB) := by
  refine ok_pu F sc_is_direction (fun ds h => by obtain ⟨r, d, rfl, _⟩ := h; rfl) (by decide) fun cdv A outer s H E hr F ds hw h => ?_
  obtain ⟨r, d, rfl, ha⟩ := h
  repeat walk_at "dw"
  refine w_call k1 hr rfl ?_
  repeat walk_at "dw"
  refine ⟨⟨d, rfl, ha⟩, fun v hv => ?_⟩
  obtain rfl := hv d rfl
  refine ⟨_, rfl, ?_⟩
  cases d with
  | int i =>
    refine iteT rfl ?_
    repeat walk_at "dw"
    by_cases h1 : 1 ≤ i
    · refine iteT (decide_eq_true h1) ?_
      repeat walk_at "dw"
      exact fin2 (by simp [dirB, h1])
    · refine iteF (decide_eq_false h1) ?_
      exact fin2 (by simp [dirB, h1])
  | _ =>
    refine iteF (by simp [isI]) ?_
    exact fin2 rfl
abbrev s_is_room : Stmt := topS 21
abbrev n_is_room : List Str := ["r", "thing", "item"]
theorem sc_is_room : FnScope ["r", "thing", "item"] ["r", "thing"] (defScope s_is_room) := ⟨rfl, rfl, rfl, by decide +kernel, rfl, by decide +kernel, by decide +kernel⟩
theorem ok_is_room (B : Be mg) (F : Fun K "is_room" "is_room" s_is_room f fd) (k1 : KnP P w K mg base "is_whole" 11 1 ["thing"] (SpW K)) : FnG P w K mg base 2 f fd ["r", "thing"] (SpAny K roomB) := by
  refine ok_pu F sc_is_room (fun ds h => by obtain ⟨r, d, rfl, _⟩ := h; rfl) (by decide) fun cdv A outer s H E hr F ds hw h => ?_
  obtain ⟨r, d, rfl, ha⟩ := h
  repeat walk_at "dw"
  refine w_isA rfl B.b.isi PyProof.Rows.boot_isinstance rfl B.b.tup PyProof.Rows.boot_tuple ?_
  repeat walk_at "dw"
  refine ⟨isT d, ay_tup ha.choose_spec.2, _, rfl, ?_⟩
  cases d with
  | tuple ds =>
    refine iteT rfl ?_
    repeat walk_at "dw"
    refine w_callB rfl B.b.len PySem.boot_len ?_
    repeat walk_at "dw"
    refine ⟨_, cd_len_t, ?_⟩
    repeat walk_at "dw"
    by_cases h1 : (ds.length : Int) = r
    · refine iteT (decide_eq_true h1) ?_
      repeat walk_at "dw"
      refine w_callB rfl B.b.all PyProof.Rows.boot_all ?_
      repeat walk_at "dw"
      refine w_l (wl_lc [("item", 2)] (L := [2]) rfl sc_is_room.nd (blkOk_by (N := n_is_room) (sc := defScope s_is_room) (by decide +kernel)) (by decide) rfl (h := ?_))
      refine lc_map (fun d r => r = .bool (isI d)) ?_
      refine it_tup ?_
      repeat walk_at "dw"
      refine ⟨by rw [sizeLine_eq]; have := ha.mem.1; omega, fun d hd F' e1 e2 s H C cl fp => ?_, fun out ho => ?_⟩
      · skip
        refine tg_name (i := 2) sc_is_room.nd rfl (by first | exact .inl rfl | exact .inr rfl) (by exact (by decide : 2 < 3)) ?_
        intro s H C cl fp
        refine w_call k1 hr rfl ?_
        repeat walk_at "dw"
        exact ⟨⟨d, rfl, ha.mem.2 d hd⟩, fun v hv => hv d rfl⟩
      · repeat walk_at "dw"
        rw [outB ho]
        refine ⟨_, cd_all rfl, ?_⟩
        exact fin2 (by rw [all_g]; simp [roomB, h1])
    · refine iteF (decide_eq_false h1) ?_
      exact fin2 (by simp [roomB, h1])
  | _ =>
    refine iteF rfl ?_
    exact fin2 rfl
abbrev s_is_passage : Stmt := topS 27
abbrev n_is_passage : List Str := ["r", "room", "i"]
theorem sc_is_passage : FnScope ["r", "room", "i"] ["r", "room", "i"] (defScope s_is_passage) := ⟨rfl, rfl, rfl, by decide +kernel, rfl, by decide +kernel, by decide +kernel⟩
abbrev SpPas (K : PySem.W.Frag) : Sp := Pu (fun ds => ∃ (r : Int) (a b : D), ds = [.int r, a, b] ∧ Ay K a ∧ Ay K b) (fun ds v => ∀ (r : Int) (a b : D), ds = [.int r, a, b] → v = .bool (roomB r a && dirB r b))
theorem fin3 {r : Int} {a b v : D} (h : v = .bool (roomB r a && dirB r b)) : ∀ (r' : Int) (a' b' : D), [PyData.int r, a, b] = [PyData.int r', a', b'] → v = .bool (roomB r' a' && dirB r' b') := fun r' a' b' e => by
  injection e with e1 e
  injection e with e2 e
  injection e with e3 _
  injection e1 with e1
  rw [← e1, ← e2, ← e3]; exact h
theorem ok_is_passage (F : Fun K "is_passage" "is_passage" s_is_passage f fd) (k1 : KnP P w K mg base "is_room" 21 2 ["r", "thing"] (SpAny K roomB)) (k2 : KnP P w K mg base "is_direction" 13 2 ["r", "thing"] (SpAny K dirB)) : FnG P w K mg base 3 f fd ["r", "room", "i"] (SpPas K) := by
  refine ok_pu F sc_is_passage (fun ds h => by obtain ⟨r, a, b, rfl, _⟩ := h; rfl) (by decide) fun cdv A outer s H E hr F ds hw h => ?_
  obtain ⟨r, a, b, rfl, ha, hb⟩ := h
  repeat walk_at "dw"
  refine w_call k1 hr rfl ?_
  repeat walk_at "dw"
  refine ⟨⟨r, a, rfl, ha⟩, fun v hv => ?_⟩
  obtain rfl := hv _ _ rfl
  refine ⟨_, rfl, ?_⟩
  cases e : roomB r a with
  | false => exact iteF rfl (fin3 (by rw [e]; rfl))
  | true =>
    refine iteT rfl ?_
    repeat walk_at "dw"
    refine w_call k2 hr rfl ?_
    repeat walk_at "dw"
    refine ⟨⟨r, b, rfl, hb⟩, fun v hv => ?_⟩
    exact fin3 (by rw [hv _ _ rfl, e]; rfl)
abbrev s_is_triple : Stmt := topS 28
abbrev n_is_triple : List Str := ["r", "thing"]
theorem sc_is_triple : FnScope ["r", "thing"] ["r", "thing"] (defScope s_is_triple) := ⟨rfl, rfl, rfl, by decide +kernel, rfl, by decide +kernel, by decide +kernel⟩
theorem len3_of (ds : List D) (h : ds.length = 3) : ∃ a b c, ds = [a, b, c] := by
  match ds, h with
  | [a, b, c], _ => exact ⟨a, b, c, rfl⟩
theorem trip_ne (r : Int) (ds : List D) (h : ds.length ≠ 3) : tripB r (.tuple ds) = false := by
  unfold tripB
  split
  · rename_i e; injection e with e; rw [e] at h; exact (h rfl).elim
  · rfl
theorem ok_is_triple (B : Be mg) (F : Fun K "is_triple" "is_triple" s_is_triple f fd) (k1 : KnP P w K mg base "is_passage" 27 3 ["r", "room", "i"] (SpPas K)) (k2 : KnP P w K mg base "is_whole" 11 1 ["thing"] (SpW K)) : FnG P w K mg base 4 f fd ["r", "thing"] (SpAny K tripB) := by
  refine ok_pu F sc_is_triple (fun ds h => by obtain ⟨r, d, rfl, _⟩ := h; rfl) (by decide) fun cdv A outer s H E hr F ds hw h => ?_
  obtain ⟨r, d, rfl, ha⟩ := h
  repeat walk_at "dw"
  refine w_isA rfl B.b.isi PyProof.Rows.boot_isinstance rfl B.b.tup PyProof.Rows.boot_tuple ?_
  repeat walk_at "dw"
  refine ⟨isT d, ay_tup ha.choose_spec.2, _, rfl, ?_⟩
  cases d with
  | tuple ds =>
    refine iteF rfl ?_
    repeat walk_at "dw"
    refine w_callB rfl B.b.len PySem.boot_len ?_
    repeat walk_at "dw"
    refine ⟨_, cd_len_t, ?_⟩
    repeat walk_at "dw"
    by_cases h3 : ds.length = 3
    · obtain ⟨a, b, c, rfl⟩ := len3_of ds h3
      have hm := ha.mem.2
      have aa := hm a (by simp)
      have ab := hm b (by simp)
      have ac := hm c (by simp)
      refine iteF rfl ?_
      repeat walk_at "dw"
      refine w_call k1 hr rfl ?_
      repeat walk_at "dw"
      refine w_ixT (h := ?_)
      repeat walk_at "dw"
      refine ⟨_, _, _, rfl, rfl, atI0, ?_⟩
      repeat walk_at "dw"
      refine w_ixT (h := ?_)
      repeat walk_at "dw"
      refine ⟨_, _, _, rfl, rfl, atI1, ?_⟩
      repeat walk_at "dw"
      refine ⟨⟨r, a, b, rfl, aa, ab⟩, fun v hv => ?_⟩
      obtain rfl := hv _ _ _ rfl
      refine ⟨_, rfl, ?_⟩
      cases e : (roomB r a && dirB r b) with
      | false => exact iteF rfl (fin2 (by simp only [tripB]; rw [← Bool.and_assoc, e]; rfl))
      | true =>
        refine iteT rfl ?_
        repeat walk_at "dw"
        refine w_call (k2.up (by decide)) hr rfl ?_
        repeat walk_at "dw"
        refine w_ixT (h := ?_)
        repeat walk_at "dw"
        refine ⟨_, _, _, rfl, rfl, atI2, ?_⟩
        repeat walk_at "dw"
        refine ⟨⟨c, rfl, ac⟩, fun v hv => ?_⟩
        obtain rfl := hv _ rfl
        refine ⟨_, rfl, ?_⟩
        cases c with
        | int i =>
          refine iteT rfl ?_
          repeat walk_at "dw"
          refine w_ixT (h := ?_)
          repeat walk_at "dw"
          refine ⟨_, _, _, rfl, rfl, atI2, ?_⟩
          repeat walk_at "dw"
          exact fin2 (by simp only [tripB]; rw [← Bool.and_assoc, e]; simp [nzB])
        | _ => exact iteF (by simp [isI]) (fin2 (by simp only [tripB]; rw [← Bool.and_assoc, e]; rfl))
    · refine iteT (by simp; omega) ?_
      repeat walk_at "dw"
      exact fin2 (by rw [trip_ne r ds h3])
  | _ =>
    refine iteT rfl ?_
    refine iteT rfl ?_
    repeat walk_at "dw"
    exact fin2 rfl
end
end A7
namespace A7
open PySem PySem.W L2 RZ PyProof.Rows DW K9 K4 A3
local macro_rules | `(tactic| walk_at "dw") => `(tactic| first
  | ((with_reducible show W _ _ (.Name _ _) _ _); first
    | refine w_var (i := 0) rfl (q := ?_)
    | refine w_var (i := 1) rfl (q := ?_)
    | refine w_var (i := 2) rfl (q := ?_)
    | refine w_var (i := 3) rfl (q := ?_)
    | refine w_var (i := 4) rfl (q := ?_)
    | refine w_var (i := 5) rfl (q := ?_)
    | refine w_var (i := 6) rfl (q := ?_)
    | refine w_var (i := 7) rfl (q := ?_)
    | refine w_var (i := 8) rfl (q := ?_)
    | refine w_var (i := 9) rfl (q := ?_)
    | refine w_var (i := 10) rfl (q := ?_)
    | refine w_var (i := 11) rfl (q := ?_)
    | refine w_var (i := 12) rfl (q := ?_)
    | refine w_var (i := 13) rfl (q := ?_)
    | refine w_var (i := 14) rfl (q := ?_)
    | refine w_var (i := 15) rfl (q := ?_))
  | ((with_reducible show W _ _ (.Constant (.int _) _ _) _ _); refine w_int ?_)
  | ((with_reducible show W _ _ (.Constant (.bool _) _ _) _ _); refine w_bool ?_)
  | ((with_reducible show W _ _ (.Constant .none _ _) _ _); refine w_none ?_)
  | ((with_reducible show W _ _ (.Constant (.str _) _ _) _ _); refine w_str ?_)
  | ((with_reducible show W _ _ (.BoolOp .And (_ :: _ :: _) _) _ _); refine w_andV ?_)
  | ((with_reducible show W _ _ (.BoolOp .Or (_ :: _ :: _) _) _ _); refine w_orV ?_)
  | ((with_reducible show W _ _ (.BoolOp _ [_] _) _ _); refine w_one ?_)
  | ((with_reducible show W _ _ (.UnaryOp .Not _ _) _ _); refine w_notV ?_)
  | ((with_reducible show W _ _ (.UnaryOp .USub _ _) _ _); refine w_un ?_)
  | ((with_reducible show W _ _ (.BinOp _ _ _ _) _ _); refine w_bin ?_)
  | ((with_reducible show W _ _ (.Tuple _ _ _) _ _); refine w_tup ?_)
  | ((with_reducible show W _ _ (.Compare _ [_] _ _) _ _); refine w_cmp (h := ?_))
  | ((with_reducible show W _ _ (.Compare _ [_, _] _ _) _ _); refine w_chain (h := ?_))
  | ((with_reducible show T _ _ (.Compare _ [_] _ _) _ _); refine t_cmp (h := ?_))
  | ((with_reducible show T _ _ (.Compare _ [_, _] _ _) _ _); refine t_chain (h := ?_))
  | ((with_reducible show T _ _ (.UnaryOp .Not _ _) _ _); refine t_not ?_)
  | ((with_reducible show T _ _ (.Call _ _ _ _) _ _); refine t_val ?_)
  | ((with_reducible show T _ _ (.BoolOp .And _ _) _ _); refine t_w ?_)
  | ((with_reducible show T _ _ (.BoolOp .Or _ _) _ _); refine t_w ?_)
  | ((with_reducible show T _ _ (.Name _ _) _ _); refine t_val ?_)
  | ((with_reducible show TW _ _ (.BoolOp .And [_] _) _ _); refine tw_and1 ?_)
  | ((with_reducible show TW _ _ (.BoolOp .Or [_] _) _ _); refine tw_or1 ?_)
  | ((with_reducible show TW _ _ (.BoolOp .And (_ :: _ :: _) _) _ _); refine tw_and ?_)
  | ((with_reducible show TW _ _ (.BoolOp .Or (_ :: _ :: _) _) _ _); refine tw_or ?_)
  | ((with_reducible show WS _ _ (.Return (some _) _) _ _); refine ws_ret ?_)
  | ((with_reducible show WS _ _ (.If _ _ _ _) _ _); refine ws_if ?_)
  | ((with_reducible show WS _ _ (.Pass _) _ _); refine ws_pass ?_)
  | ((with_reducible show WA _ _ [] _ _); refine wa_nil ?_)
  | ((with_reducible show WA _ _ (_ :: _) _ _); refine wa_cons ?_)
  | ((with_reducible show WK _ _ [] _ _); refine wk_nil ?_)
  | ((with_reducible show WK _ _ (_ :: _) _ _); refine wk_cons ?_)
  | ((with_reducible show WP _ _ none _ _); refine wp_none ?_)
  | ((with_reducible show WP _ _ (some _) _ _); refine wp_some ?_)
  | ((with_reducible show WB _ _ [] _ _); refine wb_nil ?_)
  | ((with_reducible show WB _ _ (_ :: _) _ _); refine wb_cons ?_)
  | ((with_reducible show WB _ _ (defBody _) _ _); refine wb_cons ?_)
  | ((with_reducible show ∃ z, OpD _ (binaryOp .Add) (.int _) (.int _) z ∧ _); refine ⟨_, od_add, ?_⟩)
  | ((with_reducible show ∃ z, OpD _ (binaryOp .Sub) (.int _) (.int _) z ∧ _); refine ⟨_, od_sub, ?_⟩)
  | ((with_reducible show ∃ z, OpD _ (compareOp .Lt) (.int _) (.int _) z ∧ _); refine ⟨_, od_lt, ?_⟩)
  | ((with_reducible show ∃ z, OpD _ (compareOp .Lt) (.int _) (.int _) (.bool z) ∧ _); refine ⟨_, od_lt, ?_⟩)
  | ((with_reducible show ∃ z, OpD _ (compareOp .LtE) (.int _) (.int _) z ∧ _); refine ⟨_, od_le, ?_⟩)
  | ((with_reducible show ∃ z, OpD _ (compareOp .LtE) (.int _) (.int _) (.bool z) ∧ _); refine ⟨_, od_le, ?_⟩)
  | ((with_reducible show ∃ z, OpD _ (compareOp .Gt) (.int _) (.int _) z ∧ _); refine ⟨_, od_gt, ?_⟩)
  | ((with_reducible show ∃ z, OpD _ (compareOp .Gt) (.int _) (.int _) (.bool z) ∧ _); refine ⟨_, od_gt, ?_⟩)
  | ((with_reducible show ∃ z, OpD _ (compareOp .GtE) (.int _) (.int _) z ∧ _); refine ⟨_, od_ge, ?_⟩)
  | ((with_reducible show ∃ z, OpD _ (compareOp .GtE) (.int _) (.int _) (.bool z) ∧ _); refine ⟨_, od_ge, ?_⟩)
  | ((with_reducible show ∃ z, OpD _ (compareOp .Eq) (.int _) (.int _) z ∧ _); refine ⟨_, od_eqI, ?_⟩)
  | ((with_reducible show ∃ z, OpD _ (compareOp .Eq) (.int _) (.int _) (.bool z) ∧ _); refine ⟨_, od_eqI, ?_⟩)
  | ((with_reducible show ∃ z, OpD _ (compareOp .NotEq) (.int _) (.int _) z ∧ _); refine ⟨_, od_neI, ?_⟩)
  | ((with_reducible show ∃ z, OpD _ (compareOp .NotEq) (.int _) (.int _) (.bool z) ∧ _); refine ⟨_, od_neI, ?_⟩)
  | ((with_reducible show ∃ z, OpD _ (compareOp .Is) (.bool _) (.bool _) z ∧ _); refine ⟨_, od_isB, ?_⟩)
  | ((with_reducible show ∃ z, OpD _ (compareOp .Is) (.bool _) (.bool _) (.bool z) ∧ _); refine ⟨_, od_isB, ?_⟩)
  | ((with_reducible show ∃ z, OpD _ (compareOp .IsNot) (.bool _) (.bool _) z ∧ _); refine ⟨_, od_notB, ?_⟩)
  | ((with_reducible show ∃ z, OpD _ (compareOp .IsNot) (.bool _) (.bool _) (.bool z) ∧ _); refine ⟨_, od_notB, ?_⟩)
  | ((with_reducible show ∃ z, OpD _ (binaryOp .Pow) (.int _) (.int _) z ∧ _); refine ⟨_, od_pow (by exact ⟨by decide, by decide, by decide⟩), ?_⟩)
  | ((with_reducible show ∃ z, OpD _ (compareOp .NotEq) (.str _) (.str _) (.bool z) ∧ _); refine ⟨_, od_neS, ?_⟩)
  | ((with_reducible show ∃ z, OpD _ (compareOp .Eq) (.str _) (.str _) (.bool z) ∧ _); refine ⟨_, od_eqS, ?_⟩)
  | ((with_reducible show ∃ z, OpD _ (compareOp .Eq) (.str _) (.str _) z ∧ _); refine ⟨_, od_eqS, ?_⟩)
  | ((with_reducible show ∃ z, UnD _ (unaryOp .USub) (.int _) z ∧ _); refine ⟨_, ud_neg, ?_⟩)
  | ((with_reducible show ∃ i, PyData.int _ = PyData.int i ∧ _); refine ⟨_, rfl, ?_⟩)
  | ((with_reducible show ∃ i, PyData.bool _ = PyData.bool i ∧ _); refine ⟨_, rfl, ?_⟩)
  | ((with_reducible show ∃ i, PyData.tuple _ = PyData.tuple i ∧ _); refine ⟨_, rfl, ?_⟩)
  | ((with_reducible show ∃ i, PyData.list _ = PyData.list i ∧ _); refine ⟨_, rfl, ?_⟩)
  | ((with_reducible show List.length [_] ≤ sizeLine ∧ _); refine ⟨len_le1, ?_⟩)
  | ((with_reducible show List.length [_, _] ≤ sizeLine ∧ _); refine ⟨len_le2, ?_⟩)
  | ((with_reducible show List.length [_, _, _] ≤ sizeLine ∧ _); refine ⟨len_le3, ?_⟩))
section
variable {P : Program} {w : World} {K : PySem.W.Frag} {mg : Str → Option Value} {base : Heap} {f : Addr} {fd : FuncData}
abbrev s_is_show : Stmt := topS 29
abbrev n_is_show : List Str := ["r", "thing", "passages", "item", "room", "i", "_", "one", "other"]
theorem sc_is_show : FnScope ["r", "thing", "passages", "item", "room", "i", "_", "one", "other"] ["r", "thing"] (defScope s_is_show) := ⟨rfl, rfl, rfl, by decide +kernel, rfl, by decide +kernel, by decide +kernel⟩
theorem asc_mem : ∀ {ks : List Kk} {d : D}, d ∈ pairs (ks.map dK) ((ks.map dK).drop 1) → ∃ a b : Kk, d = .tuple [dK a, dK b]
  | [], d, h => by simp [pairs] at h
  | [a], d, h => by simp [pairs] at h
  | a :: b :: ks, d, h => by
    have e : pairs ((a :: b :: ks).map dK) (((a :: b :: ks).map dK).drop 1) = .tuple [dK a, dK b] :: pairs ((b :: ks).map dK) (((b :: ks).map dK).drop 1) := rfl
    rw [e] at h
    rcases List.mem_cons.mp h with h | h
    · exact ⟨a, b, h⟩
    · exact asc_mem h
theorem asc_out : ∀ {ks : List Kk} {out : List D}, Paired (fun d r => ∃ a b : Kk, d = .tuple [dK a, dK b] ∧ r = .bool (dataLt (dK a) (dK b))) (pairs (ks.map dK) ((ks.map dK).drop 1)) out → ∃ bs : List Bool, out = bs.map PyData.bool ∧ bs.all id = ascB (ks.map dK)
  | [], out, h => by cases h; exact ⟨[], rfl, rfl⟩
  | [a], out, h => by cases h; exact ⟨[], rfl, rfl⟩
  | a :: b :: ks, out, h => by
    have e : pairs ((a :: b :: ks).map dK) (((a :: b :: ks).map dK).drop 1) = .tuple [dK a, dK b] :: pairs ((b :: ks).map dK) (((b :: ks).map dK).drop 1) := rfl
    rw [e] at h
    cases h with
    | cons h1 h2 =>
      obtain ⟨a', b', e1, rfl⟩ := h1
      injection e1 with e1
      injection e1 with e1 e2
      injection e2 with e2 _
      obtain ⟨bs, rfl, h3⟩ := asc_out h2
      refine ⟨dataLt (dK a') (dK b') :: bs, rfl, ?_⟩
      rw [List.all_cons, h3, ← dK_inj e1, ← dK_inj e2]
      rfl
theorem show_trip {r : Int} {s : List Tp} (h : ∀ t ∈ s, TOk r t) : (s.map dT).all (tripB r) = true := by
  rw [List.all_eq_true]
  intro d hd
  obtain ⟨t, ht, rfl⟩ := List.mem_map.mp hd
  obtain ⟨⟨h1, h2, h3⟩, h4⟩ := h t ht
  simp only [dT, tripB, roomB, dirB, nzB, iv, Bool.and_eq_true, decide_eq_true_eq, List.length_map, List.all_map]
  exact ⟨⟨h1, by rw [List.all_eq_true]; intro x _; rfl⟩, ⟨h2, h3⟩, h4⟩
theorem keys_map (s : List Tp) : (s.map dT).map keyD = (s.map (·.1)).map dK := by rw [List.map_map, List.map_map]; rfl
theorem ok_is_show (B : Be mg) (F : Fun K "is_show" "is_show" s_is_show f fd) (k1 : KnP P w K mg base "is_triple" 28 4 ["r", "thing"] (SpAny K tripB)) : FnG P w K mg base 5 f fd ["r", "thing"] (SpAny K showB) := by
  refine ok_pu F sc_is_show (fun ds h => by obtain ⟨r, d, rfl, _⟩ := h; rfl) (by decide) fun cdv A outer s H E hr F ds hw h => ?_
  obtain ⟨r, d, rfl, ha⟩ := h
  repeat walk_at "dw"
  refine w_isA rfl B.b.isi PyProof.Rows.boot_isinstance rfl B.b.tup PyProof.Rows.boot_tuple ?_
  repeat walk_at "dw"
  refine ⟨isT d, ay_tup ha.choose_spec.2, _, rfl, ?_⟩
  cases d with
  | tuple ds =>
    have hlen : ds.length ≤ sizeLine := by rw [sizeLine_eq]; have := ha.mem.1; omega
    refine iteF rfl ?_
    repeat walk_at "dw"
    refine w_callB rfl B.b.all PyProof.Rows.boot_all ?_
    repeat walk_at "dw"
    refine w_l (wl_lc [("item", 3)] (L := [3]) rfl sc_is_show.nd (blkOk_by (N := n_is_show) (sc := defScope s_is_show) (by decide +kernel)) (by decide) rfl (h := ?_))
    refine lc_map (fun d v => v = .bool (tripB r d)) ?_
    refine it_tup ?_
    repeat walk_at "dw"
    refine ⟨hlen, fun d hd F' e1 e2 s H C cl fp => ?_, fun out ho => ?_⟩
    · skip
      refine tg_name (i := 3) sc_is_show.nd rfl (by first | exact .inl rfl | exact .inr rfl) (by exact (by decide : 3 < 9)) ?_
      intro s H C cl fp
      refine w_call k1 hr rfl ?_
      repeat walk_at "dw"
      exact ⟨⟨r, d, rfl, ha.mem.2 d hd⟩, fun v hv => hv _ _ rfl⟩
    repeat walk_at "dw"
    rw [outB ho]
    refine ⟨_, cd_all rfl, _, rfl, ?_⟩
    rw [all_g]
    cases ea : ds.all (tripB r) with
    | false =>
      refine iteT rfl ?_
      repeat walk_at "dw"
      exact fin2 (by simp [showB, ea])
    | true =>
      refine iteF rfl ?_
      obtain ⟨sh, rfl, hs⟩ := trips_of ea
      repeat walk_at "dw"
      refine ws_setLc [("room", 4), ("i", 5), ("_", 6)] (L := [4, 5, 6]) (i := 2) rfl sc_is_show.nd rfl rfl (by exact (by decide : 2 < 9)) rfl (blkOk_by (N := n_is_show) (sc := defScope s_is_show) (by decide +kernel)) (by decide) rfl ?_
      refine lc_map (fun d r => ∃ t : Tp, d = dT t ∧ r = dK t.1) ?_
      refine it_tup ?_
      repeat walk_at "dw"
      refine ⟨hlen, fun d hd F' e1 e2 s H C cl fp => ?_, fun out ho => ?_⟩
      · obtain ⟨t, ht, rfl⟩ := List.mem_map.mp hd
        refine tg_tup rfl rfl ?_
        refine tgl_cons (L := [4]) (L' := [5, 6]) ?_
        refine tg_name (i := 4) sc_is_show.nd rfl (by first | exact .inl rfl | exact .inr rfl) (by exact (by decide : 4 < 9)) ?_
        refine tgl_cons (L := [5]) (L' := [6]) ?_
        refine tg_name (i := 5) sc_is_show.nd rfl (by first | exact .inl rfl | exact .inr rfl) (by exact (by decide : 5 < 9)) ?_
        refine tgl_cons (L := [6]) (L' := []) ?_
        refine tg_name (i := 6) sc_is_show.nd rfl (by first | exact .inl rfl | exact .inr rfl) (by exact (by decide : 6 < 9)) ?_
        refine tgl_nil ?_
        intro s H C cl fp
        repeat walk_at "dw"
        exact ⟨t, rfl, rfl⟩
      have eo := out_keys ho
      subst eo
      rw [show (sh.map fun t => dK t.1) = (sh.map (·.1)).map dK by rw [List.map_map]; rfl]
      repeat walk_at "dw"
      refine w_callB rfl B.b.all PyProof.Rows.boot_all ?_
      repeat walk_at "dw"
      refine w_l (wl_lc [("one", 7), ("other", 8)] (L := [7, 8]) rfl sc_is_show.nd (blkOk_by (N := n_is_show) (sc := defScope s_is_show) (by decide +kernel)) (by decide) rfl (h := ?_))
      refine lc_map (fun d r => ∃ a b : Kk, d = .tuple [dK a, dK b] ∧ r = .bool (dataLt (dK a) (dK b))) ?_
      refine it_zip rfl B.b.zip ?_
      repeat walk_at "dw"
      refine w_l (wl_slL ?_)
      repeat walk_at "dw"
      refine ⟨_, _, .inr rfl, ?_, fun d hd F' e1 e2 s H C cl fp => ?_, fun out ho => ?_⟩
      · rw [DW.pairs_len, List.length_map, List.length_map]
        rw [List.length_map] at hlen
        omega
      · rw [show DW.cutD _ (some 1) none = _ from cut_lo _ 1] at hd
        obtain ⟨a, b, rfl⟩ := asc_mem hd
        refine tg_tup rfl rfl ?_
        refine tgl_cons (L := [7]) (L' := [8]) ?_
        refine tg_name (i := 7) sc_is_show.nd rfl (by first | exact .inl rfl | exact .inr rfl) (by exact (by decide : 7 < 9)) ?_
        refine tgl_cons (L := [8]) (L' := []) ?_
        refine tg_name (i := 8) sc_is_show.nd rfl (by first | exact .inl rfl | exact .inr rfl) (by exact (by decide : 8 < 9)) ?_
        refine tgl_nil ?_
        intro s H C cl fp
        repeat walk_at "dw"
        refine ⟨_, od_ltD hr.ro.units (alike_dK a b) (fun z => nomatch z) (Nat.le_trans (Nat.min_le_left _ _) (depth_dK a)) (alike_dK a a) (alike_dK b b), ?_⟩
        exact ⟨a, b, rfl, rfl⟩
      rw [show DW.cutD _ (some 1) none = _ from cut_lo _ 1] at ho
      obtain ⟨bs, rfl, hb⟩ := asc_out ho
      repeat walk_at "dw"
      refine ⟨_, cd_all rfl, ?_⟩
      exact fin2 (by rw [hb]; simp only [showB]; rw [ea, keys_map]; rfl)
  | _ =>
    refine iteT rfl ?_
    refine iteT rfl ?_
    repeat walk_at "dw"
    exact fin2 rfl
end
end A7
namespace A7
open PySem PySem.W L2 RZ PyProof.Rows DW K9 A3
local macro_rules | `(tactic| walk_at "dw") => `(tactic| first
  | ((with_reducible show W _ _ (.Name _ _) _ _); first
    | refine w_var (i := 0) rfl (q := ?_)
    | refine w_var (i := 1) rfl (q := ?_)
    | refine w_var (i := 2) rfl (q := ?_)
    | refine w_var (i := 3) rfl (q := ?_)
    | refine w_var (i := 4) rfl (q := ?_)
    | refine w_var (i := 5) rfl (q := ?_)
    | refine w_var (i := 6) rfl (q := ?_)
    | refine w_var (i := 7) rfl (q := ?_)
    | refine w_var (i := 8) rfl (q := ?_)
    | refine w_var (i := 9) rfl (q := ?_)
    | refine w_var (i := 10) rfl (q := ?_)
    | refine w_var (i := 11) rfl (q := ?_)
    | refine w_var (i := 12) rfl (q := ?_)
    | refine w_var (i := 13) rfl (q := ?_)
    | refine w_var (i := 14) rfl (q := ?_)
    | refine w_var (i := 15) rfl (q := ?_))
  | ((with_reducible show W _ _ (.Constant (.int _) _ _) _ _); refine w_int ?_)
  | ((with_reducible show W _ _ (.Constant (.bool _) _ _) _ _); refine w_bool ?_)
  | ((with_reducible show W _ _ (.Constant .none _ _) _ _); refine w_none ?_)
  | ((with_reducible show W _ _ (.Constant (.str _) _ _) _ _); refine w_str ?_)
  | ((with_reducible show W _ _ (.BoolOp .And (_ :: _ :: _) _) _ _); refine w_andV ?_)
  | ((with_reducible show W _ _ (.BoolOp .Or (_ :: _ :: _) _) _ _); refine w_orV ?_)
  | ((with_reducible show W _ _ (.BoolOp _ [_] _) _ _); refine w_one ?_)
  | ((with_reducible show W _ _ (.UnaryOp .Not _ _) _ _); refine w_notV ?_)
  | ((with_reducible show W _ _ (.UnaryOp .USub _ _) _ _); refine w_un ?_)
  | ((with_reducible show W _ _ (.BinOp _ _ _ _) _ _); refine w_bin ?_)
  | ((with_reducible show W _ _ (.Tuple _ _ _) _ _); refine w_tup ?_)
  | ((with_reducible show W _ _ (.Compare _ [_] _ _) _ _); refine w_cmp (h := ?_))
  | ((with_reducible show W _ _ (.Compare _ [_, _] _ _) _ _); refine w_chain (h := ?_))
  | ((with_reducible show T _ _ (.Compare _ [_] _ _) _ _); refine t_cmp (h := ?_))
  | ((with_reducible show T _ _ (.Compare _ [_, _] _ _) _ _); refine t_chain (h := ?_))
  | ((with_reducible show T _ _ (.UnaryOp .Not _ _) _ _); refine t_not ?_)
  | ((with_reducible show T _ _ (.Call _ _ _ _) _ _); refine t_val ?_)
  | ((with_reducible show T _ _ (.BoolOp .And _ _) _ _); refine t_w ?_)
  | ((with_reducible show T _ _ (.BoolOp .Or _ _) _ _); refine t_w ?_)
  | ((with_reducible show T _ _ (.Name _ _) _ _); refine t_val ?_)
  | ((with_reducible show TW _ _ (.BoolOp .And [_] _) _ _); refine tw_and1 ?_)
  | ((with_reducible show TW _ _ (.BoolOp .Or [_] _) _ _); refine tw_or1 ?_)
  | ((with_reducible show TW _ _ (.BoolOp .And (_ :: _ :: _) _) _ _); refine tw_and ?_)
  | ((with_reducible show TW _ _ (.BoolOp .Or (_ :: _ :: _) _) _ _); refine tw_or ?_)
  | ((with_reducible show WS _ _ (.Return (some _) _) _ _); refine ws_ret ?_)
  | ((with_reducible show WS _ _ (.If _ _ _ _) _ _); refine ws_if ?_)
  | ((with_reducible show WS _ _ (.Pass _) _ _); refine ws_pass ?_)
  | ((with_reducible show WA _ _ [] _ _); refine wa_nil ?_)
  | ((with_reducible show WA _ _ (_ :: _) _ _); refine wa_cons ?_)
  | ((with_reducible show WK _ _ [] _ _); refine wk_nil ?_)
  | ((with_reducible show WK _ _ (_ :: _) _ _); refine wk_cons ?_)
  | ((with_reducible show WP _ _ none _ _); refine wp_none ?_)
  | ((with_reducible show WP _ _ (some _) _ _); refine wp_some ?_)
  | ((with_reducible show WB _ _ [] _ _); refine wb_nil ?_)
  | ((with_reducible show WB _ _ (_ :: _) _ _); refine wb_cons ?_)
  | ((with_reducible show WB _ _ (defBody _) _ _); refine wb_cons ?_)
  | ((with_reducible show ∃ z, OpD _ (binaryOp .Add) (.int _) (.int _) z ∧ _); refine ⟨_, od_add, ?_⟩)
  | ((with_reducible show ∃ z, OpD _ (binaryOp .Sub) (.int _) (.int _) z ∧ _); refine ⟨_, od_sub, ?_⟩)
  | ((with_reducible show ∃ z, OpD _ (compareOp .Lt) (.int _) (.int _) z ∧ _); refine ⟨_, od_lt, ?_⟩)
  | ((with_reducible show ∃ z, OpD _ (compareOp .Lt) (.int _) (.int _) (.bool z) ∧ _); refine ⟨_, od_lt, ?_⟩)
  | ((with_reducible show ∃ z, OpD _ (compareOp .LtE) (.int _) (.int _) z ∧ _); refine ⟨_, od_le, ?_⟩)
  | ((with_reducible show ∃ z, OpD _ (compareOp .LtE) (.int _) (.int _) (.bool z) ∧ _); refine ⟨_, od_le, ?_⟩)
  | ((with_reducible show ∃ z, OpD _ (compareOp .Gt) (.int _) (.int _) z ∧ _); refine ⟨_, od_gt, ?_⟩)
  | ((with_reducible show ∃ z, OpD _ (compareOp .Gt) (.int _) (.int _) (.bool z) ∧ _); refine ⟨_, od_gt, ?_⟩)
  | ((with_reducible show ∃ z, OpD _ (compareOp .GtE) (.int _) (.int _) z ∧ _); refine ⟨_, od_ge, ?_⟩)
  | ((with_reducible show ∃ z, OpD _ (compareOp .GtE) (.int _) (.int _) (.bool z) ∧ _); refine ⟨_, od_ge, ?_⟩)
  | ((with_reducible show ∃ z, OpD _ (compareOp .Eq) (.int _) (.int _) z ∧ _); refine ⟨_, od_eqI, ?_⟩)
  | ((with_reducible show ∃ z, OpD _ (compareOp .Eq) (.int _) (.int _) (.bool z) ∧ _); refine ⟨_, od_eqI, ?_⟩)
  | ((with_reducible show ∃ z, OpD _ (compareOp .NotEq) (.int _) (.int _) z ∧ _); refine ⟨_, od_neI, ?_⟩)
  | ((with_reducible show ∃ z, OpD _ (compareOp .NotEq) (.int _) (.int _) (.bool z) ∧ _); refine ⟨_, od_neI, ?_⟩)
  | ((with_reducible show ∃ z, OpD _ (compareOp .Is) (.bool _) (.bool _) z ∧ _); refine ⟨_, od_isB, ?_⟩)
  | ((with_reducible show ∃ z, OpD _ (compareOp .Is) (.bool _) (.bool _) (.bool z) ∧ _); refine ⟨_, od_isB, ?_⟩)
  | ((with_reducible show ∃ z, OpD _ (compareOp .IsNot) (.bool _) (.bool _) z ∧ _); refine ⟨_, od_notB, ?_⟩)
  | ((with_reducible show ∃ z, OpD _ (compareOp .IsNot) (.bool _) (.bool _) (.bool z) ∧ _); refine ⟨_, od_notB, ?_⟩)
  | ((with_reducible show ∃ z, OpD _ (binaryOp .Pow) (.int _) (.int _) z ∧ _); refine ⟨_, od_pow (by exact ⟨by decide, by decide, by decide⟩), ?_⟩)
  | ((with_reducible show ∃ z, OpD _ (compareOp .NotEq) (.str _) (.str _) (.bool z) ∧ _); refine ⟨_, od_neS, ?_⟩)
  | ((with_reducible show ∃ z, OpD _ (compareOp .Eq) (.str _) (.str _) (.bool z) ∧ _); refine ⟨_, od_eqS, ?_⟩)
  | ((with_reducible show ∃ z, OpD _ (compareOp .Eq) (.str _) (.str _) z ∧ _); refine ⟨_, od_eqS, ?_⟩)
  | ((with_reducible show ∃ z, UnD _ (unaryOp .USub) (.int _) z ∧ _); refine ⟨_, ud_neg, ?_⟩)
  | ((with_reducible show ∃ i, PyData.int _ = PyData.int i ∧ _); refine ⟨_, rfl, ?_⟩)
  | ((with_reducible show ∃ i, PyData.bool _ = PyData.bool i ∧ _); refine ⟨_, rfl, ?_⟩)
  | ((with_reducible show ∃ i, PyData.tuple _ = PyData.tuple i ∧ _); refine ⟨_, rfl, ?_⟩)
  | ((with_reducible show ∃ i, PyData.list _ = PyData.list i ∧ _); refine ⟨_, rfl, ?_⟩)
  | ((with_reducible show List.length [_] ≤ sizeLine ∧ _); refine ⟨len_le1, ?_⟩)
  | ((with_reducible show List.length [_, _] ≤ sizeLine ∧ _); refine ⟨len_le2, ?_⟩)
  | ((with_reducible show List.length [_, _, _] ≤ sizeLine ∧ _); refine ⟨len_le3, ?_⟩))
section
variable {P : Program} {w : World} {K : PySem.W.Frag} {mg : Str → Option Value} {base : Heap} {f : Addr} {fd : FuncData}
/-- a number below the one asked for -/
abbrev SpDraw : Sp := Dr (fun ds => ∃ n : Int, ds = [.int n] ∧ 1 ≤ n ∧ n < 2 ^ 60) (fun ds d => ∃ x : Int, d = .int x ∧ 0 ≤ x ∧ ∀ n : Int, ds = [.int n] → x < n)
abbrev s_draw : Stmt := topS 81
theorem sc_draw : FnScope ["_law_deck_here", "_law_many", "_law_number", "_law_cell"] ["_law_deck_here", "_law_many"] (defScope s_draw) := ⟨rfl, rfl, rfl, by decide +kernel, rfl, by decide +kernel, by decide +kernel⟩
theorem ok_draw (B : Bi mg) (F : Fun K "_law_draw" "_law_draw" s_draw f fd) : FnG P w K mg base 1 f fd ["_law_deck_here", "_law_many"] SpDraw := by
  refine ok_g F sc_draw (fun vs H Q E h => by
    obtain ⟨M, a, c, us, ds, rfl, _, _, _, t, ⟨n, rfl, _⟩, _⟩ := h
    rw [List.length_cons, t.length]; rfl) (fun cdv A outer s H vs Q E hr h => ?_)
  obtain ⟨M, a, c, us, ds, rfl, ⟨ma, mc, ac⟩, kn, ⟨ns, m, k, ha, hc, hl⟩, t, ⟨n, rfl, n1, n2⟩, q⟩ := h
  obtain ⟨u, rfl, tn⟩ := dta1 t
  obtain rfl := tn.int_inv
  have hu : (A.deeper (envOfC "_law_draw" (defScope s_draw) s.heap.objs.size f cdv)).units + 1 < cLine := by have := hr.ro.units; omega
  have hu2 : (A.deeper (envOfC "_law_draw" (defScope s_draw) s.heap.objs.size f cdv)).units + 64 < cLine := hr.ro.units
  have nd := sc_draw.nd
  have gd : ∀ {x : Str} {j : Nat} {p1 p2 p3 : Pos}, PE (cxOf CX0 P w K mg base n_draw "_law_draw" (defScope s_draw) f cdv A outer s H E).nox (.Subscript (.Name "_law_deck_here" p1) (.Constant (.str x) j p2) p3) (tDGet (tVar 0) (tC (.str x))) := pe_dget hu (pv 0) pe_str (fun _ _ => rfl)
  refine ⟨_, pss_cons (ps_dput hu (pv 0) pe_str (pe_op op_add gd pe_int) rfl)
    (pss_cons (ps_set (i := 2) nd rfl (.inl rfl) (pe_op op_add gd (pe_op op_mul pe_int gd)))
    (pss_cons (ps_if (pt_cmpR (op_neD hu2) gd (pe_lst pa_nil) (nomark _))
      (pss_cons (ps_set (i := 3) nd rfl (.inl rfl) (pe_bm0 PySem.F.plainAttrs_list PySem.F.slot_list_pop PySem.F.type_list_pop mt_pop gd))
      (pss_cons (ps_if (pt_cmpR op_ge (pv 3) (pe_op op_pow pe_int pe_int) (nomark _))
        (pss_cons (ps_expr (pe_bm PySem.F.plainAttrs_list PySem.F.slot_list_append PySem.F.type_list_append mt_append gd (pa_cons (pe_op op_fdivW (pv 3) (pe_callB (call_max2 rfl) rfl B.max PyProof.Rows.boot_max (pa_cons pe_int (pa_cons (pv 1) pa_nil)))) pa_nil)))
        (pss_one (ps_ret (pe_op op_mod (pe_callTy call_int1 rfl B.int PyProof.Rows.boot_int (pa_cons (pv 3) pa_nil)) (pv 1)))))
        pss_nil)
      (pss_one (ps_set (i := 2) nd rfl (.inl rfl) (pe_op op_add (pv 2) (pe_op op_mod (pe_callTy call_int1 rfl B.int PyProof.Rows.boot_int (pa_cons (pv 3) pa_nil)) pe_int))))))
      pss_nil)
    (pss_cons (ps_set (i := 2) nd rfl (.inl rfl) (pe_op op_mod (pe_callTy call_int1 rfl B.int PyProof.Rows.boot_int (pa_cons (pe_op op_add (pe_op op_mul (pv 2) pe_int) pe_int) pa_nil)) pe_int))
    (pss_cons (ps_set (i := 2) nd rfl (.inl rfl) (pe_op op_mod (pe_callTy call_int1 rfl B.int PyProof.Rows.boot_int (pa_cons (pe_op op_add (pe_op op_add (pe_op op_mul (pv 2) (pv 2)) (pe_op op_mul pe_int gd)) pe_int) pa_nil)) pe_int))
    (pss_cons (ps_set (i := 2) nd rfl (.inl rfl) (pe_op op_mod (pe_callTy call_int1 rfl B.int PyProof.Rows.boot_int (pa_cons (pe_op op_mul (pv 2) pe_int) pa_nil)) pe_int))
    (pss_one (ps_ret (pe_op op_mod (pe_callTy call_int1 rfl B.int PyProof.Rows.boot_int (pa_cons (pe_op op_fdiv (pv 2) pe_int) pa_nil)) (pv 1)))))))))
    , ?_⟩
  have fin : ∀ (x : Int) (H' : Hp) (ns' : List Int) {k' : Int}, (∀ b o, H b = some o → b ≠ a → b ≠ c → H' b = some o) → H' a = some (.dK (dk3 (.ref c) m k')) → H' c = some (.lst (ns'.map V.int)) → ns'.length ≤ 64 → Q (.int (x % n)) H' := fun x H' ns' k' ex hA hC hl =>
    q _ (.int (x % n)) H' ex ⟨ns', m, k', hA, hC, hl⟩ (.int _) ⟨_, rfl, Int.emod_nonneg _ (by omega), fun n' e => by
      injection e with e _
      injection e with e
      rw [← e]
      exact Int.emod_lt_of_pos _ (by omega)⟩
  refine ⟨.ref a, rfl, a, _, rfl, dg_d ha, k, 1, rfl, rfl, .ref a, rfl, a, _, rfl, dp_d ha, ?_⟩
  have h1 : upd H a (.dK (dk3 (.ref c) m (k + 1))) a = some (.dK (dk3 (.ref c) m (k + 1))) := upd_same
  have h1c : upd H a (.dK (dk3 (.ref c) m (k + 1))) c = some (.lst (ns.map V.int)) := by rw [upd_ne (Ne.symm ac)]; exact hc
  refine ⟨.ref a, rfl, a, _, rfl, dg_m h1, .ref a, rfl, a, _, rfl, dg_d h1, 61473, k + 1, rfl, rfl, .inl ⟨by decide, by decide⟩, m, _, rfl, rfl, ?_⟩
  generalize m + 61473 * (k + 1) = num
  refine ⟨.ref a, rfl, a, _, rfl, dg_c h1, by show 0 ≤ sizeLine; exact Nat.zero_le _, fun e he => ?_⟩
  have h2 : upd (upd H a (.dK (dk3 (.ref c) m (k + 1)))) e (.lst []) a = some (.dK (dk3 (.ref c) m (k + 1))) := by rw [upd_ne (ne_of_none h1 he)]; exact h1
  have h2c : upd (upd H a (.dK (dk3 (.ref c) m (k + 1)))) e (.lst []) c = some (.lst (ns.map V.int)) := by rw [upd_ne (ne_of_none h1c he)]; exact h1c
  have h2e : upd (upd H a (.dK (dk3 (.ref c) m (k + 1)))) e (.lst []) e = some (.lst (([] : List Int).map V.int)) := upd_same
  have x2 : ∀ b o, H b = some o → b ≠ a → b ≠ c → upd (upd H a (.dK (dk3 (.ref c) m (k + 1)))) e (.lst []) b = some o := fun b o q n1 _ => by
    have q1 : upd H a (.dK (dk3 (.ref c) m (k + 1))) b = some o := by rw [upd_ne n1]; exact q
    rw [upd_ne (ne_of_none q1 he)]; exact q1
  generalize upd (upd H a (.dK (dk3 (.ref c) m (k + 1)))) e (.lst []) = H2 at h2 h2c h2e x2 ⊢
  refine ⟨_, _, dp_ints h2c, dp_ints h2e, shapedL_ints _, shapedL_ints _, _, rfl, ?_⟩
  refine iteB (fun hb => ?_) fun hb => ?_
  · have hne : ns ≠ [] := fun z => by subst z; cases hb
    obtain ⟨z, hz⟩ : ∃ z, ns[ns.length - 1]? = some z := ⟨_, List.getElem?_eq_getElem (by have := List.length_pos_iff.mpr hne; omega)⟩
    refine ⟨.ref a, rfl, a, _, rfl, dg_c h2, .inl ⟨rfl, _, SqL.of h2c⟩, c, ns.map V.int, .int z, rfl, rfl, h2c, by rw [List.length_map, List.getElem?_map, hz]; rfl, ?_⟩
    have h3a : upd H2 c (.lst (ns.map V.int).dropLast) a = some (.dK (dk3 (.ref c) m (k + 1))) := by rw [upd_ne ac]; exact h2
    have h3c : upd H2 c (.lst (ns.map V.int).dropLast) c = some (.lst (ns.dropLast.map V.int)) := by rw [upd_same, List.map_dropLast]
    have x3 : ∀ b o, H b = some o → b ≠ a → b ≠ c → upd H2 c (.lst (ns.map V.int).dropLast) b = some o := fun b o q n1 n2 => by rw [upd_ne n2]; exact x2 b o q n1 n2
    have l3 : ns.dropLast.length ≤ 63 := by rw [List.length_dropLast]; omega
    generalize upd H2 c (.lst (ns.map V.int).dropLast) = H3 at h3a h3c x3 ⊢
    refine ⟨_, rfl, 10, 18, rfl, rfl, ⟨by decide, by decide, by decide⟩, _, _, rfl, rfl, _, rfl, ?_⟩
    refine DW.ite2 (fun hz => ?_) fun hz => ?_
    · refine ⟨.ref a, rfl, a, _, rfl, dg_c h3a, .inl ⟨rfl, _, SqL.of h3c⟩, _, rfl, _, rfl, 2, n, rfl, _, _, rfl, rfl, max_ok n1 n2, c, _, _, rfl, rfl, h3c, by rw [List.length_map, sizeLine_eq]; omega, ?_⟩
      refine ⟨_, rfl, .inl ⟨_, rfl, _, rfl, _, n, rfl, rfl, by omega, ?_⟩⟩
      refine fin _ _ (ns.dropLast ++ [z / (if n > 2 then n else 2)]) (fun b o q n1 n2 => by rw [upd_ne n2]; exact x3 b o q n1 n2) (by rw [upd_ne ac]; exact h3a) (by rw [upd_same, List.map_append]; rfl) (by rw [List.length_append]; show _ + 1 ≤ 64; omega)
    · refine ⟨_, rfl, _, rfl, .inl ⟨_, rfl, _, 2147483629, rfl, rfl, (show (0 : Int) < 2147483629 from by decide), _, _, rfl, rfl, ?_⟩⟩
      refine ⟨_, rfl, _, 39373, rfl, rfl, .inr ⟨by decide, by decide⟩, _, 73, rfl, rfl, .inl ⟨_, rfl, _, 2147483647, rfl, rfl, (show (0 : Int) < 2147483647 from by decide), ?_⟩⟩
      refine ⟨_, rfl, _, rfl, _, _, rfl, rfl, .inl (em64 _ _ (by decide) (by decide)), .ref a, rfl, a, _, rfl, dg_d h3a, 52713, _, rfl, rfl, .inl ⟨by decide, by decide⟩, _, _, rfl, rfl, _, 79, rfl, rfl, .inl ⟨_, rfl, _, 2147483587, rfl, rfl, (show (0 : Int) < 2147483587 from by decide), ?_⟩⟩
      refine ⟨_, rfl, _, 40692, rfl, rfl, .inr ⟨by decide, by decide⟩, .inl ⟨_, rfl, _, 2147483563, rfl, rfl, (show (0 : Int) < 2147483563 from by decide), ?_⟩⟩
      refine ⟨_, rfl, _, 64, rfl, rfl, ⟨by decide, by decide⟩, .inl ⟨_, rfl, _, rfl, _, n, rfl, rfl, by omega, ?_⟩⟩
      exact fin _ _ ns.dropLast x3 h3a h3c (by omega)
  · refine ⟨_, rfl, _, 39373, rfl, rfl, .inr ⟨by decide, by decide⟩, _, 73, rfl, rfl, .inl ⟨_, rfl, _, 2147483647, rfl, rfl, (show (0 : Int) < 2147483647 from by decide), ?_⟩⟩
    refine ⟨_, rfl, _, rfl, _, _, rfl, rfl, .inl (em64 _ _ (by decide) (by decide)), .ref a, rfl, a, _, rfl, dg_d h2, 52713, _, rfl, rfl, .inl ⟨by decide, by decide⟩, _, _, rfl, rfl, _, 79, rfl, rfl, .inl ⟨_, rfl, _, 2147483587, rfl, rfl, (show (0 : Int) < 2147483587 from by decide), ?_⟩⟩
    refine ⟨_, rfl, _, 40692, rfl, rfl, .inr ⟨by decide, by decide⟩, .inl ⟨_, rfl, _, 2147483563, rfl, rfl, (show (0 : Int) < 2147483563 from by decide), ?_⟩⟩
    refine ⟨_, rfl, _, 64, rfl, rfl, ⟨by decide, by decide⟩, .inl ⟨_, rfl, _, rfl, _, n, rfl, rfl, by omega, ?_⟩⟩
    exact fin _ _ ns x2 h2 h2c hl
end
end A7
namespace A7
open PySem PySem.W L2 RZ PyProof.Rows DW K9 A3
local macro_rules | `(tactic| walk_at "dw") => `(tactic| first
  | ((with_reducible show W _ _ (.Name _ _) _ _); first
    | refine w_var (i := 0) rfl (q := ?_)
    | refine w_var (i := 1) rfl (q := ?_)
    | refine w_var (i := 2) rfl (q := ?_)
    | refine w_var (i := 3) rfl (q := ?_)
    | refine w_var (i := 4) rfl (q := ?_)
    | refine w_var (i := 5) rfl (q := ?_)
    | refine w_var (i := 6) rfl (q := ?_)
    | refine w_var (i := 7) rfl (q := ?_)
    | refine w_var (i := 8) rfl (q := ?_)
    | refine w_var (i := 9) rfl (q := ?_)
    | refine w_var (i := 10) rfl (q := ?_)
    | refine w_var (i := 11) rfl (q := ?_)
    | refine w_var (i := 12) rfl (q := ?_)
    | refine w_var (i := 13) rfl (q := ?_)
    | refine w_var (i := 14) rfl (q := ?_)
    | refine w_var (i := 15) rfl (q := ?_))
  | ((with_reducible show W _ _ (.Constant (.int _) _ _) _ _); refine w_int ?_)
  | ((with_reducible show W _ _ (.Constant (.bool _) _ _) _ _); refine w_bool ?_)
  | ((with_reducible show W _ _ (.Constant .none _ _) _ _); refine w_none ?_)
  | ((with_reducible show W _ _ (.Constant (.str _) _ _) _ _); refine w_str ?_)
  | ((with_reducible show W _ _ (.BoolOp .And (_ :: _ :: _) _) _ _); refine w_andV ?_)
  | ((with_reducible show W _ _ (.BoolOp .Or (_ :: _ :: _) _) _ _); refine w_orV ?_)
  | ((with_reducible show W _ _ (.BoolOp _ [_] _) _ _); refine w_one ?_)
  | ((with_reducible show W _ _ (.UnaryOp .Not _ _) _ _); refine w_notV ?_)
  | ((with_reducible show W _ _ (.UnaryOp .USub _ _) _ _); refine w_un ?_)
  | ((with_reducible show W _ _ (.BinOp _ _ _ _) _ _); refine w_bin ?_)
  | ((with_reducible show W _ _ (.Tuple _ _ _) _ _); refine w_tup ?_)
  | ((with_reducible show W _ _ (.Compare _ [_] _ _) _ _); refine w_cmp (h := ?_))
  | ((with_reducible show W _ _ (.Compare _ [_, _] _ _) _ _); refine w_chain (h := ?_))
  | ((with_reducible show T _ _ (.Compare _ [_] _ _) _ _); refine t_cmp (h := ?_))
  | ((with_reducible show T _ _ (.Compare _ [_, _] _ _) _ _); refine t_chain (h := ?_))
  | ((with_reducible show T _ _ (.UnaryOp .Not _ _) _ _); refine t_not ?_)
  | ((with_reducible show T _ _ (.Call _ _ _ _) _ _); refine t_val ?_)
  | ((with_reducible show T _ _ (.BoolOp .And _ _) _ _); refine t_w ?_)
  | ((with_reducible show T _ _ (.BoolOp .Or _ _) _ _); refine t_w ?_)
  | ((with_reducible show T _ _ (.Name _ _) _ _); refine t_val ?_)
  | ((with_reducible show TW _ _ (.BoolOp .And [_] _) _ _); refine tw_and1 ?_)
  | ((with_reducible show TW _ _ (.BoolOp .Or [_] _) _ _); refine tw_or1 ?_)
  | ((with_reducible show TW _ _ (.BoolOp .And (_ :: _ :: _) _) _ _); refine tw_and ?_)
  | ((with_reducible show TW _ _ (.BoolOp .Or (_ :: _ :: _) _) _ _); refine tw_or ?_)
  | ((with_reducible show WS _ _ (.Return (some _) _) _ _); refine ws_ret ?_)
  | ((with_reducible show WS _ _ (.If _ _ _ _) _ _); refine ws_if ?_)
  | ((with_reducible show WS _ _ (.Pass _) _ _); refine ws_pass ?_)
  | ((with_reducible show WA _ _ [] _ _); refine wa_nil ?_)
  | ((with_reducible show WA _ _ (_ :: _) _ _); refine wa_cons ?_)
  | ((with_reducible show WK _ _ [] _ _); refine wk_nil ?_)
  | ((with_reducible show WK _ _ (_ :: _) _ _); refine wk_cons ?_)
  | ((with_reducible show WP _ _ none _ _); refine wp_none ?_)
  | ((with_reducible show WP _ _ (some _) _ _); refine wp_some ?_)
  | ((with_reducible show WB _ _ [] _ _); refine wb_nil ?_)
  | ((with_reducible show WB _ _ (_ :: _) _ _); refine wb_cons ?_)
  | ((with_reducible show WB _ _ (defBody _) _ _); refine wb_cons ?_)
  | ((with_reducible show ∃ z, OpD _ (binaryOp .Add) (.int _) (.int _) z ∧ _); refine ⟨_, od_add, ?_⟩)
  | ((with_reducible show ∃ z, OpD _ (binaryOp .Sub) (.int _) (.int _) z ∧ _); refine ⟨_, od_sub, ?_⟩)
  | ((with_reducible show ∃ z, OpD _ (compareOp .Lt) (.int _) (.int _) z ∧ _); refine ⟨_, od_lt, ?_⟩)
  | ((with_reducible show ∃ z, OpD _ (compareOp .Lt) (.int _) (.int _) (.bool z) ∧ _); refine ⟨_, od_lt, ?_⟩)
  | ((with_reducible show ∃ z, OpD _ (compareOp .LtE) (.int _) (.int _) z ∧ _); refine ⟨_, od_le, ?_⟩)
  | ((with_reducible show ∃ z, OpD _ (compareOp .LtE) (.int _) (.int _) (.bool z) ∧ _); refine ⟨_, od_le, ?_⟩)
  | ((with_reducible show ∃ z, OpD _ (compareOp .Gt) (.int _) (.int _) z ∧ _); refine ⟨_, od_gt, ?_⟩)
  | ((with_reducible show ∃ z, OpD _ (compareOp .Gt) (.int _) (.int _) (.bool z) ∧ _); refine ⟨_, od_gt, ?_⟩)
  | ((with_reducible show ∃ z, OpD _ (compareOp .GtE) (.int _) (.int _) z ∧ _); refine ⟨_, od_ge, ?_⟩)
  | ((with_reducible show ∃ z, OpD _ (compareOp .GtE) (.int _) (.int _) (.bool z) ∧ _); refine ⟨_, od_ge, ?_⟩)
  | ((with_reducible show ∃ z, OpD _ (compareOp .Eq) (.int _) (.int _) z ∧ _); refine ⟨_, od_eqI, ?_⟩)
  | ((with_reducible show ∃ z, OpD _ (compareOp .Eq) (.int _) (.int _) (.bool z) ∧ _); refine ⟨_, od_eqI, ?_⟩)
  | ((with_reducible show ∃ z, OpD _ (compareOp .NotEq) (.int _) (.int _) z ∧ _); refine ⟨_, od_neI, ?_⟩)
  | ((with_reducible show ∃ z, OpD _ (compareOp .NotEq) (.int _) (.int _) (.bool z) ∧ _); refine ⟨_, od_neI, ?_⟩)
  | ((with_reducible show ∃ z, OpD _ (compareOp .Is) (.bool _) (.bool _) z ∧ _); refine ⟨_, od_isB, ?_⟩)
  | ((with_reducible show ∃ z, OpD _ (compareOp .Is) (.bool _) (.bool _) (.bool z) ∧ _); refine ⟨_, od_isB, ?_⟩)
  | ((with_reducible show ∃ z, OpD _ (compareOp .IsNot) (.bool _) (.bool _) z ∧ _); refine ⟨_, od_notB, ?_⟩)
  | ((with_reducible show ∃ z, OpD _ (compareOp .IsNot) (.bool _) (.bool _) (.bool z) ∧ _); refine ⟨_, od_notB, ?_⟩)
  | ((with_reducible show ∃ z, OpD _ (binaryOp .Pow) (.int _) (.int _) z ∧ _); refine ⟨_, od_pow (by exact ⟨by decide, by decide, by decide⟩), ?_⟩)
  | ((with_reducible show ∃ z, OpD _ (compareOp .NotEq) (.str _) (.str _) (.bool z) ∧ _); refine ⟨_, od_neS, ?_⟩)
  | ((with_reducible show ∃ z, OpD _ (compareOp .Eq) (.str _) (.str _) (.bool z) ∧ _); refine ⟨_, od_eqS, ?_⟩)
  | ((with_reducible show ∃ z, OpD _ (compareOp .Eq) (.str _) (.str _) z ∧ _); refine ⟨_, od_eqS, ?_⟩)
  | ((with_reducible show ∃ z, UnD _ (unaryOp .USub) (.int _) z ∧ _); refine ⟨_, ud_neg, ?_⟩)
  | ((with_reducible show ∃ i, PyData.int _ = PyData.int i ∧ _); refine ⟨_, rfl, ?_⟩)
  | ((with_reducible show ∃ i, PyData.bool _ = PyData.bool i ∧ _); refine ⟨_, rfl, ?_⟩)
  | ((with_reducible show ∃ i, PyData.tuple _ = PyData.tuple i ∧ _); refine ⟨_, rfl, ?_⟩)
  | ((with_reducible show ∃ i, PyData.list _ = PyData.list i ∧ _); refine ⟨_, rfl, ?_⟩)
  | ((with_reducible show List.length [_] ≤ sizeLine ∧ _); refine ⟨len_le1, ?_⟩)
  | ((with_reducible show List.length [_, _] ≤ sizeLine ∧ _); refine ⟨len_le2, ?_⟩)
  | ((with_reducible show List.length [_, _, _] ≤ sizeLine ∧ _); refine ⟨len_le3, ?_⟩))
section
variable {P : Program} {w : World} {K : PySem.W.Frag} {mg : Str → Option Value} {base : Heap} {f : Addr} {fd : FuncData}
abbrev SpPick : Sp := Dr (fun ds => ∃ xs : List D, ds = [.list xs] ∧ 1 ≤ xs.length ∧ xs.length < 1000) (fun ds d => ∀ xs : List D, ds = [.list xs] → d ∈ xs)
abbrev s_l_pick : Stmt := topS 82
abbrev n_l_pick : List Str := ["_law_deck_here", "_law_some"]
theorem sc_l_pick : FnScope ["_law_deck_here", "_law_some"] ["_law_deck_here", "_law_some"] (defScope s_l_pick) := ⟨rfl, rfl, rfl, by decide +kernel, rfl, by decide +kernel, by decide +kernel⟩
theorem ok_l_pick (B : Bi mg) (F : Fun K "_law_pick" "_law_pick" s_l_pick f fd) (k1 : KnP P w K mg base "_law_draw" 81 1 ["_law_deck_here", "_law_many"] SpDraw) :
    FnG P w K mg base 2 f fd ["_law_deck_here", "_law_some"] SpPick := by
  refine ok_dr F sc_l_pick (fun ds h => by obtain ⟨_, rfl, _⟩ := h; rfl) (by decide) fun cdv A outer s H E hr F ds hw h => ?_
  obtain ⟨xs, rfl, h1, h2⟩ := h
  repeat walk_at "dw"
  refine w_ixL (h := ?_)
  repeat walk_at "dw"
  refine w_callk (i := 0) k1 hr rfl rfl (h := ?_)
  repeat walk_at "dw"
  refine w_callB rfl B.len PySem.boot_len ?_
  repeat walk_at "dw"
  refine ⟨_, cd_len_l, ?_⟩
  repeat walk_at "dw"
  refine ⟨⟨_, rfl, by omega, by omega⟩, fun d hd => ?_⟩
  obtain ⟨x, rfl, x0, x1⟩ := hd
  obtain ⟨d, e1, e2⟩ := atI_in x0 (x1 _ rfl)
  refine ⟨_, _, d, rfl, rfl, e1, fun xs' e => ?_⟩
  injection e with e _
  injection e with e
  rw [← e]
  exact e2
abbrev SpDirs : Sp := Dr (fun ds => ds = []) (fun _ d => ∃ r : Int, d = .int r ∧ 1 ≤ r ∧ r ≤ 4)
abbrev s_l_dirs : Stmt := topS 83
abbrev n_l_dirs : List Str := ["_law_deck_here"]
theorem sc_l_dirs : FnScope ["_law_deck_here"] ["_law_deck_here"] (defScope s_l_dirs) := ⟨rfl, rfl, rfl, by decide +kernel, rfl, by decide +kernel, by decide +kernel⟩
theorem ok_l_dirs (F : Fun K "_law_directions" "_law_directions" s_l_dirs f fd) (k1 : KnP P w K mg base "_law_pick" 82 2 ["_law_deck_here", "_law_some"] SpPick) :
    FnG P w K mg base 3 f fd ["_law_deck_here"] SpDirs := by
  refine ok_dr F sc_l_dirs (fun ds h => by subst h; rfl) (by decide) fun cdv A outer s H E hr F ds hw h => ?_
  subst h
  repeat walk_at "dw"
  refine w_callk (i := 0) k1 hr rfl rfl (h := ?_)
  repeat walk_at "dw"
  refine w_l (wl_lst ?_)
  repeat walk_at "dw"
  refine ⟨by rw [sizeLine_eq]; show 8 ≤ _; decide, ?_⟩
  repeat walk_at "dw"
  refine ⟨⟨_, rfl, by show 1 ≤ 8; decide, by show 8 < 1000; decide⟩, fun d hd => ?_⟩
  have hd := hd _ rfl
  simp only [List.mem_cons, List.not_mem_nil, or_false] at hd
  rcases hd with e | e | e | e | e | e | e | e <;> subst e <;> exact ⟨_, rfl, by decide, by decide⟩
abbrev SpStep : Sp := Dr (fun ds => ∃ r : Int, ds = [.int r] ∧ 1 ≤ r ∧ r ≤ 4) (fun ds d => ∃ s : Int, d = .int s ∧ ∀ r : Int, ds = [.int r] → StOk r s)
abbrev s_l_step : Stmt := topS 89
abbrev n_l_step : List Str := ["_law_deck_here", "_law_r", "_law_way"]
theorem sc_l_step : FnScope ["_law_deck_here", "_law_r", "_law_way"] ["_law_deck_here", "_law_r"] (defScope s_l_step) := ⟨rfl, rfl, rfl, by decide +kernel, rfl, by decide +kernel, by decide +kernel⟩
theorem ok_l_step (F : Fun K "_law_step" "_law_step" s_l_step f fd) (k1 : KnP P w K mg base "_law_draw" 81 1 ["_law_deck_here", "_law_many"] SpDraw) :
    FnG P w K mg base 2 f fd ["_law_deck_here", "_law_r"] SpStep := by
  refine ok_dr F sc_l_step (fun ds h => by obtain ⟨_, rfl, _⟩ := h; rfl) (by decide) fun cdv A outer s H E hr F ds hw h => ?_
  obtain ⟨r, rfl, r1, r4⟩ := h
  have post : ∀ x : Int, StOk r x → ∀ r' : Int, [PyData.int r] = [.int r'] → StOk r' x := fun x h r' e => by
    injection e with e _
    injection e with e
    rw [← e]; exact h
  repeat walk_at "dw"
  refine ws_set (i := 2) sc_l_step.nd rfl (.inl rfl) (by exact (by decide : 2 < 3)) ?_
  refine w_callk (i := 0) k1 hr rfl rfl (h := ?_)
  repeat walk_at "dw"
  refine ⟨_, od_mul (.inl ⟨by decide, by decide⟩), ?_⟩
  repeat walk_at "dw"
  refine ⟨⟨_, rfl, by omega, by omega⟩, fun d hd => ?_⟩
  obtain ⟨x, rfl, x0, x1⟩ := hd
  have x1 := x1 _ rfl
  repeat walk_at "dw"
  refine w_if ?_
  repeat walk_at "dw"
  refine DW.ite2 (fun h1 => ?_) fun h1 => ?_
  · repeat walk_at "dw"
    refine post _ ?_
    exact ⟨by omega, by omega, by omega⟩
  · repeat walk_at "dw"
    refine post _ ?_
    exact ⟨by omega, by omega, by omega⟩
abbrev SpUndone : Sp := Pu (fun ds => ∃ xs : List Int, ds = [.list (xs.map PyData.int)] ∧ xs.length ≤ 1000) (fun ds d => ∀ xs : List Int, ds = [.list (xs.map PyData.int)] → d = iv (xs.reverse.map fun x => -x))
abbrev s_l_undone : Stmt := topS 90
abbrev n_l_undone : List Str := ["_law_row_here", "_law_step_here"]
theorem sc_l_undone : FnScope ["_law_row_here", "_law_step_here"] ["_law_row_here"] (defScope s_l_undone) := ⟨rfl, rfl, rfl, by decide +kernel, rfl, by decide +kernel, by decide +kernel⟩
theorem ok_l_undone (B : Bi mg) (F : Fun K "_law_undone" "_law_undone" s_l_undone f fd) : FnG P w K mg base 1 f fd ["_law_row_here"] SpUndone := by
  refine ok_pu F sc_l_undone (fun ds h => by obtain ⟨_, rfl, _⟩ := h; rfl) (by decide) fun cdv A outer s H E hr F ds hw h => ?_
  obtain ⟨xs, rfl, hl⟩ := h
  repeat walk_at "dw"
  refine w_callTy rfl B.tup PyProof.Rows.boot_tuple ?_
  repeat walk_at "dw"
  refine w_l (wl_lc [("_law_step_here", 1)] (L := [1]) rfl sc_l_undone.nd (blkOk_by (N := n_l_undone) (sc := defScope s_l_undone) (by decide +kernel)) (by decide) rfl (h := ?_))
  refine lc_map (fun d r => ∃ t : Int, d = .int t ∧ r = .int (-t)) ?_
  refine it_lst ?_
  refine w_l (wl_revL ?_)
  repeat walk_at "dw"
  rw [← List.map_reverse]
  refine ⟨by rw [List.length_map, List.length_reverse, sizeLine_eq]; omega, fun d hd F' e1 e2 s H C cl fp => ?_, fun out ho => ?_⟩
  · obtain ⟨t, ht, rfl⟩ := List.mem_map.mp hd
    refine tg_name (i := 1) sc_l_undone.nd rfl (.inl rfl) (by exact (by decide : 1 < 2)) ?_
    intro s H C cl fp
    repeat walk_at "dw"
    rfl
  · repeat walk_at "dw"
    refine ⟨_, cd_tuple_l, fun xs' e => ?_⟩
    injection e with e _
    injection e with e
    rw [← int_inj e, outI_fun (fun t => -t) ho]
end
end A7
namespace A7
open PySem PySem.W L2 RZ PyProof.Rows DW K9 A3
local macro_rules | `(tactic| walk_at "dw") => `(tactic| first
  | ((with_reducible show W _ _ (.Name _ _) _ _); first
    | refine w_var (i := 0) rfl (q := ?_)
    | refine w_var (i := 1) rfl (q := ?_)
    | refine w_var (i := 2) rfl (q := ?_)
    | refine w_var (i := 3) rfl (q := ?_)
    | refine w_var (i := 4) rfl (q := ?_)
    | refine w_var (i := 5) rfl (q := ?_)
    | refine w_var (i := 6) rfl (q := ?_)
    | refine w_var (i := 7) rfl (q := ?_)
    | refine w_var (i := 8) rfl (q := ?_)
    | refine w_var (i := 9) rfl (q := ?_)
    | refine w_var (i := 10) rfl (q := ?_)
    | refine w_var (i := 11) rfl (q := ?_)
    | refine w_var (i := 12) rfl (q := ?_)
    | refine w_var (i := 13) rfl (q := ?_)
    | refine w_var (i := 14) rfl (q := ?_)
    | refine w_var (i := 15) rfl (q := ?_))
  | ((with_reducible show W _ _ (.Constant (.int _) _ _) _ _); refine w_int ?_)
  | ((with_reducible show W _ _ (.Constant (.bool _) _ _) _ _); refine w_bool ?_)
  | ((with_reducible show W _ _ (.Constant .none _ _) _ _); refine w_none ?_)
  | ((with_reducible show W _ _ (.Constant (.str _) _ _) _ _); refine w_str ?_)
  | ((with_reducible show W _ _ (.BoolOp .And (_ :: _ :: _) _) _ _); refine w_andV ?_)
  | ((with_reducible show W _ _ (.BoolOp .Or (_ :: _ :: _) _) _ _); refine w_orV ?_)
  | ((with_reducible show W _ _ (.BoolOp _ [_] _) _ _); refine w_one ?_)
  | ((with_reducible show W _ _ (.UnaryOp .Not _ _) _ _); refine w_notV ?_)
  | ((with_reducible show W _ _ (.UnaryOp .USub _ _) _ _); refine w_un ?_)
  | ((with_reducible show W _ _ (.BinOp _ _ _ _) _ _); refine w_bin ?_)
  | ((with_reducible show W _ _ (.Tuple _ _ _) _ _); refine w_tup ?_)
  | ((with_reducible show W _ _ (.Compare _ [_] _ _) _ _); refine w_cmp (h := ?_))
  | ((with_reducible show W _ _ (.Compare _ [_, _] _ _) _ _); refine w_chain (h := ?_))
  | ((with_reducible show T _ _ (.Compare _ [_] _ _) _ _); refine t_cmp (h := ?_))
  | ((with_reducible show T _ _ (.Compare _ [_, _] _ _) _ _); refine t_chain (h := ?_))
  | ((with_reducible show T _ _ (.UnaryOp .Not _ _) _ _); refine t_not ?_)
  | ((with_reducible show T _ _ (.Call _ _ _ _) _ _); refine t_val ?_)
  | ((with_reducible show T _ _ (.BoolOp .And _ _) _ _); refine t_w ?_)
  | ((with_reducible show T _ _ (.BoolOp .Or _ _) _ _); refine t_w ?_)
  | ((with_reducible show T _ _ (.Name _ _) _ _); refine t_val ?_)
  | ((with_reducible show TW _ _ (.BoolOp .And [_] _) _ _); refine tw_and1 ?_)
  | ((with_reducible show TW _ _ (.BoolOp .Or [_] _) _ _); refine tw_or1 ?_)
  | ((with_reducible show TW _ _ (.BoolOp .And (_ :: _ :: _) _) _ _); refine tw_and ?_)
  | ((with_reducible show TW _ _ (.BoolOp .Or (_ :: _ :: _) _) _ _); refine tw_or ?_)
  | ((with_reducible show WS _ _ (.Return (some _) _) _ _); refine ws_ret ?_)
  | ((with_reducible show WS _ _ (.If _ _ _ _) _ _); refine ws_if ?_)
  | ((with_reducible show WS _ _ (.Pass _) _ _); refine ws_pass ?_)
  | ((with_reducible show WA _ _ [] _ _); refine wa_nil ?_)
  | ((with_reducible show WA _ _ (_ :: _) _ _); refine wa_cons ?_)
  | ((with_reducible show WK _ _ [] _ _); refine wk_nil ?_)
  | ((with_reducible show WK _ _ (_ :: _) _ _); refine wk_cons ?_)
  | ((with_reducible show WP _ _ none _ _); refine wp_none ?_)
  | ((with_reducible show WP _ _ (some _) _ _); refine wp_some ?_)
  | ((with_reducible show WB _ _ [] _ _); refine wb_nil ?_)
  | ((with_reducible show WB _ _ (_ :: _) _ _); refine wb_cons ?_)
  | ((with_reducible show WB _ _ (defBody _) _ _); refine wb_cons ?_)
  | ((with_reducible show ∃ z, OpD _ (binaryOp .Add) (.int _) (.int _) z ∧ _); refine ⟨_, od_add, ?_⟩)
  | ((with_reducible show ∃ z, OpD _ (binaryOp .Sub) (.int _) (.int _) z ∧ _); refine ⟨_, od_sub, ?_⟩)
  | ((with_reducible show ∃ z, OpD _ (compareOp .Lt) (.int _) (.int _) z ∧ _); refine ⟨_, od_lt, ?_⟩)
  | ((with_reducible show ∃ z, OpD _ (compareOp .Lt) (.int _) (.int _) (.bool z) ∧ _); refine ⟨_, od_lt, ?_⟩)
  | ((with_reducible show ∃ z, OpD _ (compareOp .LtE) (.int _) (.int _) z ∧ _); refine ⟨_, od_le, ?_⟩)
  | ((with_reducible show ∃ z, OpD _ (compareOp .LtE) (.int _) (.int _) (.bool z) ∧ _); refine ⟨_, od_le, ?_⟩)
  | ((with_reducible show ∃ z, OpD _ (compareOp .Gt) (.int _) (.int _) z ∧ _); refine ⟨_, od_gt, ?_⟩)
  | ((with_reducible show ∃ z, OpD _ (compareOp .Gt) (.int _) (.int _) (.bool z) ∧ _); refine ⟨_, od_gt, ?_⟩)
  | ((with_reducible show ∃ z, OpD _ (compareOp .GtE) (.int _) (.int _) z ∧ _); refine ⟨_, od_ge, ?_⟩)
  | ((with_reducible show ∃ z, OpD _ (compareOp .GtE) (.int _) (.int _) (.bool z) ∧ _); refine ⟨_, od_ge, ?_⟩)
  | ((with_reducible show ∃ z, OpD _ (compareOp .Eq) (.int _) (.int _) z ∧ _); refine ⟨_, od_eqI, ?_⟩)
  | ((with_reducible show ∃ z, OpD _ (compareOp .Eq) (.int _) (.int _) (.bool z) ∧ _); refine ⟨_, od_eqI, ?_⟩)
  | ((with_reducible show ∃ z, OpD _ (compareOp .NotEq) (.int _) (.int _) z ∧ _); refine ⟨_, od_neI, ?_⟩)
  | ((with_reducible show ∃ z, OpD _ (compareOp .NotEq) (.int _) (.int _) (.bool z) ∧ _); refine ⟨_, od_neI, ?_⟩)
  | ((with_reducible show ∃ z, OpD _ (compareOp .Is) (.bool _) (.bool _) z ∧ _); refine ⟨_, od_isB, ?_⟩)
  | ((with_reducible show ∃ z, OpD _ (compareOp .Is) (.bool _) (.bool _) (.bool z) ∧ _); refine ⟨_, od_isB, ?_⟩)
  | ((with_reducible show ∃ z, OpD _ (compareOp .IsNot) (.bool _) (.bool _) z ∧ _); refine ⟨_, od_notB, ?_⟩)
  | ((with_reducible show ∃ z, OpD _ (compareOp .IsNot) (.bool _) (.bool _) (.bool z) ∧ _); refine ⟨_, od_notB, ?_⟩)
  | ((with_reducible show ∃ z, OpD _ (binaryOp .Pow) (.int _) (.int _) z ∧ _); refine ⟨_, od_pow (by exact ⟨by decide, by decide, by decide⟩), ?_⟩)
  | ((with_reducible show ∃ z, OpD _ (compareOp .NotEq) (.str _) (.str _) (.bool z) ∧ _); refine ⟨_, od_neS, ?_⟩)
  | ((with_reducible show ∃ z, OpD _ (compareOp .Eq) (.str _) (.str _) (.bool z) ∧ _); refine ⟨_, od_eqS, ?_⟩)
  | ((with_reducible show ∃ z, OpD _ (compareOp .Eq) (.str _) (.str _) z ∧ _); refine ⟨_, od_eqS, ?_⟩)
  | ((with_reducible show ∃ z, UnD _ (unaryOp .USub) (.int _) z ∧ _); refine ⟨_, ud_neg, ?_⟩)
  | ((with_reducible show ∃ i, PyData.int _ = PyData.int i ∧ _); refine ⟨_, rfl, ?_⟩)
  | ((with_reducible show ∃ i, PyData.bool _ = PyData.bool i ∧ _); refine ⟨_, rfl, ?_⟩)
  | ((with_reducible show ∃ i, PyData.tuple _ = PyData.tuple i ∧ _); refine ⟨_, rfl, ?_⟩)
  | ((with_reducible show ∃ i, PyData.list _ = PyData.list i ∧ _); refine ⟨_, rfl, ?_⟩)
  | ((with_reducible show List.length [_] ≤ sizeLine ∧ _); refine ⟨len_le1, ?_⟩)
  | ((with_reducible show List.length [_, _] ≤ sizeLine ∧ _); refine ⟨len_le2, ?_⟩)
  | ((with_reducible show List.length [_, _, _] ≤ sizeLine ∧ _); refine ⟨len_le3, ?_⟩))
section
variable {P : Program} {w : World} {K : PySem.W.Frag} {mg : Str → Option Value} {base : Heap} {f : Addr} {fd : FuncData}
abbrev SpNext : Sp := Pu (fun ds => ∃ (xs : List Int) (s : Int), ds = [iv xs, .int s] ∧ xs.length ≤ 4 ∧ StOk xs.length s) (fun ds d => ∃ ys : List Int, d = iv ys ∧ ∀ (xs : List Int) (s : Int), ds = [iv xs, .int s] → ys.length = xs.length ∧ ∀ b, Nb b xs → Nb (b + 1) ys)
abbrev s_l_next : Stmt := topS 92
abbrev n_l_next : List Str := ["_law_room_here", "_law_step_here", "_law_at"]
theorem sc_l_next : FnScope ["_law_room_here", "_law_step_here", "_law_at"] ["_law_room_here", "_law_step_here"] (defScope s_l_next) := ⟨rfl, rfl, rfl, by decide +kernel, rfl, by decide +kernel, by decide +kernel⟩
theorem ok_l_next (B : Bi mg) (F : Fun K "_law_next" "_law_next" s_l_next f fd) : FnG P w K mg base 1 f fd ["_law_room_here", "_law_step_here"] SpNext := by
  refine ok_pu F sc_l_next (fun ds h => by obtain ⟨_, _, rfl, _⟩ := h; rfl) (by decide) fun cdv A outer s H E hr F ds hw h => ?_
  obtain ⟨xs, st, rfl, hl, s0, s1, s2⟩ := h
  obtain ⟨k, hk⟩ : ∃ k : Nat, (if st < 0 then -st else st) - 1 = (k : Int) := ⟨((if st < 0 then -st else st) - 1).toNat, by split <;> omega⟩
  have kl : k < xs.length := by split at hk <;> omega
  have post : ∀ g : Int, (g = 1 ∨ g = -1) → ∃ ys : List Int, PyData.tuple ((xs.map PyData.int).take k ++ [.int (xs[k] + g)] ++ (xs.map PyData.int).drop (k + 1)) = iv ys ∧ ∀ (xs' : List Int) (s' : Int), [iv xs, .int st] = [iv xs', .int s'] → ys.length = xs'.length ∧ ∀ b, Nb b xs' → Nb (b + 1) ys := fun g hg => by
    refine ⟨xs.take k ++ [xs[k] + g] ++ xs.drop (k + 1), by simp, fun xs' s' e => ?_⟩
    injection e with e _
    rw [← iv_inj e]
    refine ⟨by simp; omega, fun b hb x hx => ?_⟩
    rcases List.mem_append.mp hx with z | z
    · rcases List.mem_append.mp z with z | z
      · have := hb x (List.mem_of_mem_take z); omega
      · have h1 := hb _ (List.getElem_mem kl)
        rw [List.mem_singleton.mp z]
        rcases hg with e | e <;> subst e <;> omega
    · have := hb x (List.mem_of_mem_drop z); omega
  repeat walk_at "dw"
  refine ws_set (i := 2) sc_l_next.nd rfl (.inl rfl) (by exact (by decide : 2 < 3)) ?_
  repeat walk_at "dw"
  refine w_callB rfl B.abs PyProof.Rows.boot_abs ?_
  repeat walk_at "dw"
  refine ⟨_, cd_abs, ?_⟩
  repeat walk_at "dw"
  rw [hk]
  repeat walk_at "dw"
  refine w_slT ?_
  repeat walk_at "dw"
  rw [cut_hi]
  refine w_ixT (h := ?_)
  repeat walk_at "dw"
  refine ⟨_, _, _, rfl, rfl, atI_nat (by rw [List.getElem?_map, List.getElem?_eq_getElem kl]; rfl), ?_⟩
  refine W.imp (Φ := fun d => ∃ g : Int, d = .int g ∧ (g = 1 ∨ g = -1)) (w_if ?_) fun d hd => ?_
  · repeat walk_at "dw"
    refine DW.ite2 (fun _ => ?_) fun _ => ?_
    · repeat walk_at "dw"
      exact .inl rfl
    · repeat walk_at "dw"
      exact .inr rfl
  obtain ⟨g, rfl, hg⟩ := hd
  repeat walk_at "dw"
  refine ⟨_, od_cat (by rw [sizeLine_eq]; simp; omega), ?_⟩
  repeat walk_at "dw"
  refine w_slT ?_
  repeat walk_at "dw"
  rw [show DW.cutD (xs.map PyData.int) (some ((k : Int) + 1)) none = _ from cut_lo _ (k + 1)]
  refine ⟨_, od_cat (by rw [sizeLine_eq]; simp; omega), ?_⟩
  exact post g hg
end
end A7
namespace A7
open PySem PySem.W L2 RZ PyProof.Rows DW K9 A3
local macro_rules | `(tactic| walk_at "dw") => `(tactic| first
  | ((with_reducible show W _ _ (.Name _ _) _ _); first
    | refine w_var (i := 0) rfl (q := ?_)
    | refine w_var (i := 1) rfl (q := ?_)
    | refine w_var (i := 2) rfl (q := ?_)
    | refine w_var (i := 3) rfl (q := ?_)
    | refine w_var (i := 4) rfl (q := ?_)
    | refine w_var (i := 5) rfl (q := ?_)
    | refine w_var (i := 6) rfl (q := ?_)
    | refine w_var (i := 7) rfl (q := ?_)
    | refine w_var (i := 8) rfl (q := ?_)
    | refine w_var (i := 9) rfl (q := ?_)
    | refine w_var (i := 10) rfl (q := ?_)
    | refine w_var (i := 11) rfl (q := ?_)
    | refine w_var (i := 12) rfl (q := ?_)
    | refine w_var (i := 13) rfl (q := ?_)
    | refine w_var (i := 14) rfl (q := ?_)
    | refine w_var (i := 15) rfl (q := ?_))
  | ((with_reducible show W _ _ (.Constant (.int _) _ _) _ _); refine w_int ?_)
  | ((with_reducible show W _ _ (.Constant (.bool _) _ _) _ _); refine w_bool ?_)
  | ((with_reducible show W _ _ (.Constant .none _ _) _ _); refine w_none ?_)
  | ((with_reducible show W _ _ (.Constant (.str _) _ _) _ _); refine w_str ?_)
  | ((with_reducible show W _ _ (.BoolOp .And (_ :: _ :: _) _) _ _); refine w_andV ?_)
  | ((with_reducible show W _ _ (.BoolOp .Or (_ :: _ :: _) _) _ _); refine w_orV ?_)
  | ((with_reducible show W _ _ (.BoolOp _ [_] _) _ _); refine w_one ?_)
  | ((with_reducible show W _ _ (.UnaryOp .Not _ _) _ _); refine w_notV ?_)
  | ((with_reducible show W _ _ (.UnaryOp .USub _ _) _ _); refine w_un ?_)
  | ((with_reducible show W _ _ (.BinOp _ _ _ _) _ _); refine w_bin ?_)
  | ((with_reducible show W _ _ (.Tuple _ _ _) _ _); refine w_tup ?_)
  | ((with_reducible show W _ _ (.Compare _ [_] _ _) _ _); refine w_cmp (h := ?_))
  | ((with_reducible show W _ _ (.Compare _ [_, _] _ _) _ _); refine w_chain (h := ?_))
  | ((with_reducible show T _ _ (.Compare _ [_] _ _) _ _); refine t_cmp (h := ?_))
  | ((with_reducible show T _ _ (.Compare _ [_, _] _ _) _ _); refine t_chain (h := ?_))
  | ((with_reducible show T _ _ (.UnaryOp .Not _ _) _ _); refine t_not ?_)
  | ((with_reducible show T _ _ (.Call _ _ _ _) _ _); refine t_val ?_)
  | ((with_reducible show T _ _ (.BoolOp .And _ _) _ _); refine t_w ?_)
  | ((with_reducible show T _ _ (.BoolOp .Or _ _) _ _); refine t_w ?_)
  | ((with_reducible show T _ _ (.Name _ _) _ _); refine t_val ?_)
  | ((with_reducible show TW _ _ (.BoolOp .And [_] _) _ _); refine tw_and1 ?_)
  | ((with_reducible show TW _ _ (.BoolOp .Or [_] _) _ _); refine tw_or1 ?_)
  | ((with_reducible show TW _ _ (.BoolOp .And (_ :: _ :: _) _) _ _); refine tw_and ?_)
  | ((with_reducible show TW _ _ (.BoolOp .Or (_ :: _ :: _) _) _ _); refine tw_or ?_)
  | ((with_reducible show WS _ _ (.Return (some _) _) _ _); refine ws_ret ?_)
  | ((with_reducible show WS _ _ (.If _ _ _ _) _ _); refine ws_if ?_)
  | ((with_reducible show WS _ _ (.Pass _) _ _); refine ws_pass ?_)
  | ((with_reducible show WA _ _ [] _ _); refine wa_nil ?_)
  | ((with_reducible show WA _ _ (_ :: _) _ _); refine wa_cons ?_)
  | ((with_reducible show WK _ _ [] _ _); refine wk_nil ?_)
  | ((with_reducible show WK _ _ (_ :: _) _ _); refine wk_cons ?_)
  | ((with_reducible show WP _ _ none _ _); refine wp_none ?_)
  | ((with_reducible show WP _ _ (some _) _ _); refine wp_some ?_)
  | ((with_reducible show WB _ _ [] _ _); refine wb_nil ?_)
  | ((with_reducible show WB _ _ (_ :: _) _ _); refine wb_cons ?_)
  | ((with_reducible show WB _ _ (defBody _) _ _); refine wb_cons ?_)
  | ((with_reducible show ∃ z, OpD _ (binaryOp .Add) (.int _) (.int _) z ∧ _); refine ⟨_, od_add, ?_⟩)
  | ((with_reducible show ∃ z, OpD _ (binaryOp .Sub) (.int _) (.int _) z ∧ _); refine ⟨_, od_sub, ?_⟩)
  | ((with_reducible show ∃ z, OpD _ (compareOp .Lt) (.int _) (.int _) z ∧ _); refine ⟨_, od_lt, ?_⟩)
  | ((with_reducible show ∃ z, OpD _ (compareOp .Lt) (.int _) (.int _) (.bool z) ∧ _); refine ⟨_, od_lt, ?_⟩)
  | ((with_reducible show ∃ z, OpD _ (compareOp .LtE) (.int _) (.int _) z ∧ _); refine ⟨_, od_le, ?_⟩)
  | ((with_reducible show ∃ z, OpD _ (compareOp .LtE) (.int _) (.int _) (.bool z) ∧ _); refine ⟨_, od_le, ?_⟩)
  | ((with_reducible show ∃ z, OpD _ (compareOp .Gt) (.int _) (.int _) z ∧ _); refine ⟨_, od_gt, ?_⟩)
  | ((with_reducible show ∃ z, OpD _ (compareOp .Gt) (.int _) (.int _) (.bool z) ∧ _); refine ⟨_, od_gt, ?_⟩)
  | ((with_reducible show ∃ z, OpD _ (compareOp .GtE) (.int _) (.int _) z ∧ _); refine ⟨_, od_ge, ?_⟩)
  | ((with_reducible show ∃ z, OpD _ (compareOp .GtE) (.int _) (.int _) (.bool z) ∧ _); refine ⟨_, od_ge, ?_⟩)
  | ((with_reducible show ∃ z, OpD _ (compareOp .Eq) (.int _) (.int _) z ∧ _); refine ⟨_, od_eqI, ?_⟩)
  | ((with_reducible show ∃ z, OpD _ (compareOp .Eq) (.int _) (.int _) (.bool z) ∧ _); refine ⟨_, od_eqI, ?_⟩)
  | ((with_reducible show ∃ z, OpD _ (compareOp .NotEq) (.int _) (.int _) z ∧ _); refine ⟨_, od_neI, ?_⟩)
  | ((with_reducible show ∃ z, OpD _ (compareOp .NotEq) (.int _) (.int _) (.bool z) ∧ _); refine ⟨_, od_neI, ?_⟩)
  | ((with_reducible show ∃ z, OpD _ (compareOp .Is) (.bool _) (.bool _) z ∧ _); refine ⟨_, od_isB, ?_⟩)
  | ((with_reducible show ∃ z, OpD _ (compareOp .Is) (.bool _) (.bool _) (.bool z) ∧ _); refine ⟨_, od_isB, ?_⟩)
  | ((with_reducible show ∃ z, OpD _ (compareOp .IsNot) (.bool _) (.bool _) z ∧ _); refine ⟨_, od_notB, ?_⟩)
  | ((with_reducible show ∃ z, OpD _ (compareOp .IsNot) (.bool _) (.bool _) (.bool z) ∧ _); refine ⟨_, od_notB, ?_⟩)
  | ((with_reducible show ∃ z, OpD _ (binaryOp .Pow) (.int _) (.int _) z ∧ _); refine ⟨_, od_pow (by exact ⟨by decide, by decide, by decide⟩), ?_⟩)
  | ((with_reducible show ∃ z, OpD _ (compareOp .NotEq) (.str _) (.str _) (.bool z) ∧ _); refine ⟨_, od_neS, ?_⟩)
  | ((with_reducible show ∃ z, OpD _ (compareOp .Eq) (.str _) (.str _) (.bool z) ∧ _); refine ⟨_, od_eqS, ?_⟩)
  | ((with_reducible show ∃ z, OpD _ (compareOp .Eq) (.str _) (.str _) z ∧ _); refine ⟨_, od_eqS, ?_⟩)
  | ((with_reducible show ∃ z, UnD _ (unaryOp .USub) (.int _) z ∧ _); refine ⟨_, ud_neg, ?_⟩)
  | ((with_reducible show ∃ i, PyData.int _ = PyData.int i ∧ _); refine ⟨_, rfl, ?_⟩)
  | ((with_reducible show ∃ i, PyData.bool _ = PyData.bool i ∧ _); refine ⟨_, rfl, ?_⟩)
  | ((with_reducible show ∃ i, PyData.tuple _ = PyData.tuple i ∧ _); refine ⟨_, rfl, ?_⟩)
  | ((with_reducible show ∃ i, PyData.list _ = PyData.list i ∧ _); refine ⟨_, rfl, ?_⟩)
  | ((with_reducible show List.length [_] ≤ sizeLine ∧ _); refine ⟨len_le1, ?_⟩)
  | ((with_reducible show List.length [_, _] ≤ sizeLine ∧ _); refine ⟨len_le2, ?_⟩)
  | ((with_reducible show List.length [_, _, _] ≤ sizeLine ∧ _); refine ⟨len_le3, ?_⟩))
section
variable {P : Program} {w : World} {K : PySem.W.Frag} {mg : Str → Option Value} {base : Heap} {f : Addr} {fd : FuncData}
abbrev SpGreat : Sp := Dr (fun ds => ds = []) (fun _ d => ∃ x : Int, d = .int x ∧ Gb x)
abbrev s_l_great : Stmt := topS 97
abbrev n_l_great : List Str := ["_law_deck_here", "_law_way", "_law_number", "_law_turn"]
theorem sc_l_great : FnScope ["_law_deck_here", "_law_way", "_law_number", "_law_turn"] ["_law_deck_here"] (defScope s_l_great) := ⟨rfl, rfl, rfl, by decide +kernel, rfl, by decide +kernel, by decide +kernel⟩
theorem ok_l_great (B : Bi mg) (F : Fun K "_law_great" "_law_great" s_l_great f fd) (k1 : KnP P w K mg base "_law_draw" 81 1 ["_law_deck_here", "_law_many"] SpDraw) (k2 : KnP P w K mg base "_law_pick" 82 2 ["_law_deck_here", "_law_some"] SpPick) :
    FnG P w K mg base 3 f fd ["_law_deck_here"] SpGreat := by
  refine ok_dr F sc_l_great (fun ds h => by subst h; rfl) (by decide) fun cdv A outer s H E hr F ds hw h => ?_
  subst h
  repeat walk_at "dw"
  refine ws_set (i := 1) sc_l_great.nd rfl (.inl rfl) (by exact (by decide : 1 < 4)) ?_
  refine w_callk (i := 0) (k1.up (by decide)) hr rfl rfl (h := ?_)
  repeat walk_at "dw"
  refine ⟨⟨_, rfl, by decide, by decide⟩, fun d hd => ?_⟩
  obtain ⟨way, rfl, w0, w1⟩ := hd
  have w1 := w1 _ rfl
  repeat walk_at "dw"
  refine DW.ite2 (fun h1 => ?_) fun h1 => ?_
  · repeat walk_at "dw"
    refine w_callk (i := 0) (k1.up (by decide)) hr rfl rfl (h := ?_)
    repeat walk_at "dw"
    refine ⟨⟨_, rfl, by decide, by decide⟩, fun d hd => ?_⟩
    obtain ⟨x, rfl, x0, x1⟩ := hd
    have x1 := x1 _ rfl
    repeat walk_at "dw"
    show (x - 4).natAbs < 2 ^ 400
    have : (x - 4).natAbs < 2 ^ 4 := by omega
    exact Nat.lt_trans this (by decide)
  repeat walk_at "dw"
  refine DW.ite2 (fun h2 => ?_) fun h2 => ?_
  · repeat walk_at "dw"
    refine w_callk (i := 0) (k2.up (by decide)) hr rfl rfl (h := ?_)
    repeat walk_at "dw"
    refine w_l (wl_lst ?_)
    repeat walk_at "dw"
    refine ⟨_, od_mulW (by unfold CMulW; decide +kernel), ?_⟩
    repeat walk_at "dw"
    refine ⟨_, od_mulW (by unfold CMulW; decide +kernel), ?_⟩
    repeat walk_at "dw"
    refine ⟨by rw [sizeLine_eq]; show 6 ≤ _; decide, ?_⟩
    repeat walk_at "dw"
    refine ⟨⟨_, rfl, by show 1 ≤ 6; decide, by show 6 < 1000; decide⟩, fun d hd => ?_⟩
    have hd := hd _ rfl
    simp only [List.mem_cons, List.not_mem_nil, or_false] at hd
    rcases hd with e | e | e | e | e | e <;> subst e <;> exact ⟨_, rfl, by unfold Gb; decide +kernel⟩
  repeat walk_at "dw"
  refine ws_set (i := 2) sc_l_great.nd rfl (.inl rfl) (by exact (by decide : 2 < 4)) ?_
  repeat walk_at "dw"
  refine ws_for (L := [3]) PassesOwn.never rfl (h := ?_)
  refine it_range1 rfl B.range ?_
  repeat walk_at "dw"
  refine w_callk (i := 0) (k1.up (by decide)) hr rfl rfl (h := ?_)
  repeat walk_at "dw"
  refine ⟨⟨_, rfl, by decide, by decide⟩, fun d hd => ?_⟩
  obtain ⟨many, rfl, m0, m1⟩ := hd
  have m1 := m1 _ rfl
  repeat walk_at "dw"
  refine ⟨_, rfl, by omega, by omega, fun i es1 => ∃ (x : Sl) (n : Int), es1 = [.dk, .d (.int way), .d (.int n), x] ∧ 0 ≤ n ∧ n < pw i, ⟨_, 0, rfl, by decide, by decide⟩, fun i es1 d hd hp => ?_, fun es1 hp => ?_⟩
  · obtain ⟨x, n, rfl, n0, n1⟩ := hp
    have hi : i < (1 + many).toNat := by have := (List.getElem?_eq_some_iff.mp hd).1; rw [irng_len] at this; exact this
    rw [irng_at hi] at hd
    cases hd
    refine tg_name (i := 3) sc_l_great.nd rfl (.inl rfl) (by exact (by decide : 3 < 4)) ?_
    repeat walk_at "dw"
    refine ws_set (i := 2) sc_l_great.nd rfl (.inl rfl) (by exact (by decide : 2 < 4)) ?_
    repeat walk_at "dw"
    refine ⟨_, od_mul (.inr ⟨by decide, by decide⟩), ?_⟩
    repeat walk_at "dw"
    refine w_callk (i := 0) (k1.up (by decide)) hr rfl rfl (h := ?_)
    repeat walk_at "dw"
    refine ⟨⟨_, rfl, by decide, by decide⟩, fun d hd => ?_⟩
    obtain ⟨y, rfl, y0, y1⟩ := hd
    have y1 : y < 1000000 := y1 _ rfl
    repeat walk_at "dw"
    refine ⟨_, _, rfl, ?_, ?_⟩
    · show 0 ≤ n * 1000000 + y
      omega
    · show n * 1000000 + y < pw (i + 1)
      rw [pw_succ]
      omega
  · obtain ⟨x, n, rfl, n0, n1⟩ := hp
    rw [irng_len] at n1
    have nb : n < 2 ^ 400 := Int.lt_trans n1 (pw_big _ (by omega))
    repeat walk_at "dw"
    refine w_if ?_
    repeat walk_at "dw"
    refine DW.ite2 (fun h3 => ?_) fun h3 => ?_
    · repeat walk_at "dw"
      unfold Gb; omega
    · repeat walk_at "dw"
      unfold Gb; omega
abbrev SpRoom : Sp := Dr (fun ds => ∃ r : Int, ds = [.int r] ∧ 1 ≤ r ∧ r ≤ 4) (fun ds d => ∃ xs : List Int, d = iv xs ∧ (∀ x ∈ xs, Gb x) ∧ ∀ r : Int, ds = [.int r] → (xs.length : Int) = r)
abbrev s_l_room : Stmt := topS 98
abbrev n_l_room : List Str := ["_law_deck_here", "_law_r", "_law_at"]
theorem sc_l_room : FnScope ["_law_deck_here", "_law_r", "_law_at"] ["_law_deck_here", "_law_r"] (defScope s_l_room) := ⟨rfl, rfl, rfl, by decide +kernel, rfl, by decide +kernel, by decide +kernel⟩
theorem ok_l_room (B : Bi mg) (F : Fun K "_law_room" "_law_room" s_l_room f fd) (k1 : KnP P w K mg base "_law_great" 97 3 ["_law_deck_here"] SpGreat) : FnG P w K mg base 4 f fd ["_law_deck_here", "_law_r"] SpRoom := by
  refine ok_dr F sc_l_room (fun ds h => by obtain ⟨_, rfl, _⟩ := h; rfl) (by decide) fun cdv A outer s H E hr F ds hw h => ?_
  obtain ⟨r, rfl, r1, r4⟩ := h
  repeat walk_at "dw"
  refine w_callTy rfl B.tup PyProof.Rows.boot_tuple ?_
  refine wa_cons ?_
  refine w_l (wl_lc [("_law_at", 2)] (L := [2]) rfl sc_l_room.nd (blkOk_by (N := n_l_room) (sc := defScope s_l_room) (by decide +kernel)) (by decide) rfl (h := ?_))
  refine lc_map (fun d r => ∃ x : Int, r = .int x ∧ Gb x) ?_
  refine it_range1 rfl B.range ?_
  repeat walk_at "dw"
  refine ⟨_, rfl, by omega, by omega, by rw [irng_len, sizeLine_eq]; omega, fun d hd F' e1 e2 s H C cl fp => ?_, fun out ho => ?_⟩
  · refine tg_name (i := 2) sc_l_room.nd rfl (.inl rfl) (by exact (by decide : 2 < 3)) ?_
    intro s H C cl fp
    refine w_callk (i := 0) k1 hr rfl rfl (h := ?_)
    repeat walk_at "dw"
    exact ⟨rfl, fun d hd => hd⟩
  · repeat walk_at "dw"
    obtain ⟨xs, rfl, hl, hg⟩ := outI_all ho
    rw [irng_len] at hl
    exact ⟨_, cd_tuple_l, xs, rfl, hg, fun r' e => by
      injection e with e _
      injection e with e
      omega⟩
end
end A7
namespace A7
open PySem PySem.W L2 RZ PyProof.Rows DW K9 A3
local macro_rules | `(tactic| walk_at "dw") => `(tactic| first
  | ((with_reducible show W _ _ (.Name _ _) _ _); first
    | refine w_var (i := 0) rfl (q := ?_)
    | refine w_var (i := 1) rfl (q := ?_)
    | refine w_var (i := 2) rfl (q := ?_)
    | refine w_var (i := 3) rfl (q := ?_)
    | refine w_var (i := 4) rfl (q := ?_)
    | refine w_var (i := 5) rfl (q := ?_)
    | refine w_var (i := 6) rfl (q := ?_)
    | refine w_var (i := 7) rfl (q := ?_)
    | refine w_var (i := 8) rfl (q := ?_)
    | refine w_var (i := 9) rfl (q := ?_)
    | refine w_var (i := 10) rfl (q := ?_)
    | refine w_var (i := 11) rfl (q := ?_)
    | refine w_var (i := 12) rfl (q := ?_)
    | refine w_var (i := 13) rfl (q := ?_)
    | refine w_var (i := 14) rfl (q := ?_)
    | refine w_var (i := 15) rfl (q := ?_))
  | ((with_reducible show W _ _ (.Constant (.int _) _ _) _ _); refine w_int ?_)
  | ((with_reducible show W _ _ (.Constant (.bool _) _ _) _ _); refine w_bool ?_)
  | ((with_reducible show W _ _ (.Constant .none _ _) _ _); refine w_none ?_)
  | ((with_reducible show W _ _ (.Constant (.str _) _ _) _ _); refine w_str ?_)
  | ((with_reducible show W _ _ (.BoolOp .And (_ :: _ :: _) _) _ _); refine w_andV ?_)
  | ((with_reducible show W _ _ (.BoolOp .Or (_ :: _ :: _) _) _ _); refine w_orV ?_)
  | ((with_reducible show W _ _ (.BoolOp _ [_] _) _ _); refine w_one ?_)
  | ((with_reducible show W _ _ (.UnaryOp .Not _ _) _ _); refine w_notV ?_)
  | ((with_reducible show W _ _ (.UnaryOp .USub _ _) _ _); refine w_un ?_)
  | ((with_reducible show W _ _ (.BinOp _ _ _ _) _ _); refine w_bin ?_)
  | ((with_reducible show W _ _ (.Tuple _ _ _) _ _); refine w_tup ?_)
  | ((with_reducible show W _ _ (.Compare _ [_] _ _) _ _); refine w_cmp (h := ?_))
  | ((with_reducible show W _ _ (.Compare _ [_, _] _ _) _ _); refine w_chain (h := ?_))
  | ((with_reducible show T _ _ (.Compare _ [_] _ _) _ _); refine t_cmp (h := ?_))
  | ((with_reducible show T _ _ (.Compare _ [_, _] _ _) _ _); refine t_chain (h := ?_))
  | ((with_reducible show T _ _ (.UnaryOp .Not _ _) _ _); refine t_not ?_)
  | ((with_reducible show T _ _ (.Call _ _ _ _) _ _); refine t_val ?_)
  | ((with_reducible show T _ _ (.BoolOp .And _ _) _ _); refine t_w ?_)
  | ((with_reducible show T _ _ (.BoolOp .Or _ _) _ _); refine t_w ?_)
  | ((with_reducible show T _ _ (.Name _ _) _ _); refine t_val ?_)
  | ((with_reducible show TW _ _ (.BoolOp .And [_] _) _ _); refine tw_and1 ?_)
  | ((with_reducible show TW _ _ (.BoolOp .Or [_] _) _ _); refine tw_or1 ?_)
  | ((with_reducible show TW _ _ (.BoolOp .And (_ :: _ :: _) _) _ _); refine tw_and ?_)
  | ((with_reducible show TW _ _ (.BoolOp .Or (_ :: _ :: _) _) _ _); refine tw_or ?_)
  | ((with_reducible show WS _ _ (.Return (some _) _) _ _); refine ws_ret ?_)
  | ((with_reducible show WS _ _ (.If _ _ _ _) _ _); refine ws_if ?_)
  | ((with_reducible show WS _ _ (.Pass _) _ _); refine ws_pass ?_)
  | ((with_reducible show WA _ _ [] _ _); refine wa_nil ?_)
  | ((with_reducible show WA _ _ (_ :: _) _ _); refine wa_cons ?_)
  | ((with_reducible show WK _ _ [] _ _); refine wk_nil ?_)
  | ((with_reducible show WK _ _ (_ :: _) _ _); refine wk_cons ?_)
  | ((with_reducible show WP _ _ none _ _); refine wp_none ?_)
  | ((with_reducible show WP _ _ (some _) _ _); refine wp_some ?_)
  | ((with_reducible show WB _ _ [] _ _); refine wb_nil ?_)
  | ((with_reducible show WB _ _ (_ :: _) _ _); refine wb_cons ?_)
  | ((with_reducible show WB _ _ (defBody _) _ _); refine wb_cons ?_)
  | ((with_reducible show ∃ z, OpD _ (binaryOp .Add) (.int _) (.int _) z ∧ _); refine ⟨_, od_add, ?_⟩)
  | ((with_reducible show ∃ z, OpD _ (binaryOp .Sub) (.int _) (.int _) z ∧ _); refine ⟨_, od_sub, ?_⟩)
  | ((with_reducible show ∃ z, OpD _ (compareOp .Lt) (.int _) (.int _) z ∧ _); refine ⟨_, od_lt, ?_⟩)
  | ((with_reducible show ∃ z, OpD _ (compareOp .Lt) (.int _) (.int _) (.bool z) ∧ _); refine ⟨_, od_lt, ?_⟩)
  | ((with_reducible show ∃ z, OpD _ (compareOp .LtE) (.int _) (.int _) z ∧ _); refine ⟨_, od_le, ?_⟩)
  | ((with_reducible show ∃ z, OpD _ (compareOp .LtE) (.int _) (.int _) (.bool z) ∧ _); refine ⟨_, od_le, ?_⟩)
  | ((with_reducible show ∃ z, OpD _ (compareOp .Gt) (.int _) (.int _) z ∧ _); refine ⟨_, od_gt, ?_⟩)
  | ((with_reducible show ∃ z, OpD _ (compareOp .Gt) (.int _) (.int _) (.bool z) ∧ _); refine ⟨_, od_gt, ?_⟩)
  | ((with_reducible show ∃ z, OpD _ (compareOp .GtE) (.int _) (.int _) z ∧ _); refine ⟨_, od_ge, ?_⟩)
  | ((with_reducible show ∃ z, OpD _ (compareOp .GtE) (.int _) (.int _) (.bool z) ∧ _); refine ⟨_, od_ge, ?_⟩)
  | ((with_reducible show ∃ z, OpD _ (compareOp .Eq) (.int _) (.int _) z ∧ _); refine ⟨_, od_eqI, ?_⟩)
  | ((with_reducible show ∃ z, OpD _ (compareOp .Eq) (.int _) (.int _) (.bool z) ∧ _); refine ⟨_, od_eqI, ?_⟩)
  | ((with_reducible show ∃ z, OpD _ (compareOp .NotEq) (.int _) (.int _) z ∧ _); refine ⟨_, od_neI, ?_⟩)
  | ((with_reducible show ∃ z, OpD _ (compareOp .NotEq) (.int _) (.int _) (.bool z) ∧ _); refine ⟨_, od_neI, ?_⟩)
  | ((with_reducible show ∃ z, OpD _ (compareOp .Is) (.bool _) (.bool _) z ∧ _); refine ⟨_, od_isB, ?_⟩)
  | ((with_reducible show ∃ z, OpD _ (compareOp .Is) (.bool _) (.bool _) (.bool z) ∧ _); refine ⟨_, od_isB, ?_⟩)
  | ((with_reducible show ∃ z, OpD _ (compareOp .IsNot) (.bool _) (.bool _) z ∧ _); refine ⟨_, od_notB, ?_⟩)
  | ((with_reducible show ∃ z, OpD _ (compareOp .IsNot) (.bool _) (.bool _) (.bool z) ∧ _); refine ⟨_, od_notB, ?_⟩)
  | ((with_reducible show ∃ z, OpD _ (binaryOp .Pow) (.int _) (.int _) z ∧ _); refine ⟨_, od_pow (by exact ⟨by decide, by decide, by decide⟩), ?_⟩)
  | ((with_reducible show ∃ z, OpD _ (compareOp .NotEq) (.str _) (.str _) (.bool z) ∧ _); refine ⟨_, od_neS, ?_⟩)
  | ((with_reducible show ∃ z, OpD _ (compareOp .Eq) (.str _) (.str _) (.bool z) ∧ _); refine ⟨_, od_eqS, ?_⟩)
  | ((with_reducible show ∃ z, OpD _ (compareOp .Eq) (.str _) (.str _) z ∧ _); refine ⟨_, od_eqS, ?_⟩)
  | ((with_reducible show ∃ z, UnD _ (unaryOp .USub) (.int _) z ∧ _); refine ⟨_, ud_neg, ?_⟩)
  | ((with_reducible show ∃ i, PyData.int _ = PyData.int i ∧ _); refine ⟨_, rfl, ?_⟩)
  | ((with_reducible show ∃ i, PyData.bool _ = PyData.bool i ∧ _); refine ⟨_, rfl, ?_⟩)
  | ((with_reducible show ∃ i, PyData.tuple _ = PyData.tuple i ∧ _); refine ⟨_, rfl, ?_⟩)
  | ((with_reducible show ∃ i, PyData.list _ = PyData.list i ∧ _); refine ⟨_, rfl, ?_⟩)
  | ((with_reducible show List.length [_] ≤ sizeLine ∧ _); refine ⟨len_le1, ?_⟩)
  | ((with_reducible show List.length [_, _] ≤ sizeLine ∧ _); refine ⟨len_le2, ?_⟩)
  | ((with_reducible show List.length [_, _, _] ≤ sizeLine ∧ _); refine ⟨len_le3, ?_⟩))
section
variable {P : Program} {w : World} {K : PySem.W.Frag} {mg : Str → Option Value} {base : Heap} {f : Addr} {fd : FuncData}
abbrev SpListed (w : World) : Sp := Fz w (fun kvs => ∃ a : List Tp, kvs = kvO a ∧ a.length ≤ 100000) (fun kvs d => ∀ a : List Tp, kvs = kvO a → d = dS (lst a))
abbrev s_l_listed : Stmt := topS 93
abbrev n_l_listed : List Str := ["_law_numbers", "_law_key", "_law_number"]
theorem sc_l_listed : FnScope ["_law_numbers", "_law_key", "_law_number"] ["_law_numbers"] (defScope s_l_listed) := ⟨rfl, rfl, rfl, by decide +kernel, rfl, by decide +kernel, by decide +kernel⟩
theorem ok_l_listed (B : Bi mg) (F : Fun K "_law_listed" "_law_listed" s_l_listed f fd) : FnG P w K mg base 1 f fd ["_law_numbers"] (SpListed w) := by
  refine ok_fz F sc_l_listed rfl (by decide) fun cdv A outer s H E hr F kvs hw h => ?_
  obtain ⟨a, rfl, hl⟩ := h
  repeat walk_at "dw"
  refine w_callTy rfl B.tup PyProof.Rows.boot_tuple ?_
  repeat walk_at "dw"
  refine w_callB rfl B.sorted PyProof.Rows.boot_sorted ?_
  repeat walk_at "dw"
  refine w_l (wl_lc [("_law_key", 1), ("_law_number", 2)] (L := [1, 2]) rfl sc_l_listed.nd (blkOk_by (N := n_l_listed) (sc := defScope s_l_listed) (by decide +kernel)) (by decide) rfl (h := ?_))
  refine lc_filt pI (fun d r => ∃ t : Tp, d = .tuple [dK t.1, .int t.2] ∧ r = dT t) ?_
  refine it_items (i := 0) rfl (q := ?_)
  rw [kvP_kvO]
  refine ⟨by rw [List.length_map, sizeLine_eq]; omega, fun d hd F' e1 e2 s H C cl fp => ?_, fun out ho => ?_⟩
  · obtain ⟨t, ht, rfl⟩ := List.mem_map.mp hd
    refine tg_tup rfl rfl ?_
    refine tgl_cons (L := [1]) (L' := [2]) ?_
    refine tg_name (i := 1) sc_l_listed.nd rfl (.inl rfl) (by exact (by decide : 1 < 3)) ?_
    refine tgl_cons (L := [2]) (L' := []) ?_
    refine tg_name (i := 2) sc_l_listed.nd rfl (.inl rfl) (by exact (by decide : 2 < 3)) ?_
    refine tgl_nil ?_
    refine ⟨?_, fun hp => ?_⟩
    · intro s H C cl fp
      repeat walk_at "dw"
      show (!decide (t.2 = 0)) = decide (t.2 ≠ 0)
      by_cases e : t.2 = 0 <;> simp [e]
    · intro s H C cl fp
      repeat walk_at "dw"
      refine ⟨_, od_cat (by rw [sizeLine_eq]; show 3 ≤ _; decide), ?_⟩
      exact ⟨t, rfl, rfl⟩
  · have eo := items_out ho
    subst eo
    have hs := sort_lst (a.filter fun t => decide (t.2 ≠ 0))
    repeat walk_at "dw"
    refine ⟨_, cd_sortedL hr.ro.units (fun d hd d' hd' => ?_) (.inl fun d hd => ?_) (fun d hd => ?_), ?_⟩
    · obtain ⟨t, _, rfl⟩ := List.mem_map.mp hd
      obtain ⟨t', _, rfl⟩ := List.mem_map.mp hd'
      exact alike_dT t t'
    · obtain ⟨t, _, rfl⟩ := List.mem_map.mp hd
      exact ⟨_, _, rfl⟩
    · obtain ⟨t, _, rfl⟩ := List.mem_map.mp hd
      exact depth_dT t
    · rw [hs]
      repeat walk_at "dw"
      refine ⟨_, cd_tuple_l, fun a' ea => ?_⟩
      rw [← kvO_inj ea]
      rfl
end
end A7
namespace A7
open PySem PySem.W L2 RZ PyProof.Rows DW K9 A3
local macro_rules | `(tactic| walk_at "dw") => `(tactic| first
  | ((with_reducible show W _ _ (.Name _ _) _ _); first
    | refine w_var (i := 0) rfl (q := ?_)
    | refine w_var (i := 1) rfl (q := ?_)
    | refine w_var (i := 2) rfl (q := ?_)
    | refine w_var (i := 3) rfl (q := ?_)
    | refine w_var (i := 4) rfl (q := ?_)
    | refine w_var (i := 5) rfl (q := ?_)
    | refine w_var (i := 6) rfl (q := ?_)
    | refine w_var (i := 7) rfl (q := ?_)
    | refine w_var (i := 8) rfl (q := ?_)
    | refine w_var (i := 9) rfl (q := ?_)
    | refine w_var (i := 10) rfl (q := ?_)
    | refine w_var (i := 11) rfl (q := ?_)
    | refine w_var (i := 12) rfl (q := ?_)
    | refine w_var (i := 13) rfl (q := ?_)
    | refine w_var (i := 14) rfl (q := ?_)
    | refine w_var (i := 15) rfl (q := ?_))
  | ((with_reducible show W _ _ (.Constant (.int _) _ _) _ _); refine w_int ?_)
  | ((with_reducible show W _ _ (.Constant (.bool _) _ _) _ _); refine w_bool ?_)
  | ((with_reducible show W _ _ (.Constant .none _ _) _ _); refine w_none ?_)
  | ((with_reducible show W _ _ (.Constant (.str _) _ _) _ _); refine w_str ?_)
  | ((with_reducible show W _ _ (.BoolOp .And (_ :: _ :: _) _) _ _); refine w_andV ?_)
  | ((with_reducible show W _ _ (.BoolOp .Or (_ :: _ :: _) _) _ _); refine w_orV ?_)
  | ((with_reducible show W _ _ (.BoolOp _ [_] _) _ _); refine w_one ?_)
  | ((with_reducible show W _ _ (.UnaryOp .Not _ _) _ _); refine w_notV ?_)
  | ((with_reducible show W _ _ (.UnaryOp .USub _ _) _ _); refine w_un ?_)
  | ((with_reducible show W _ _ (.BinOp _ _ _ _) _ _); refine w_bin ?_)
  | ((with_reducible show W _ _ (.Tuple _ _ _) _ _); refine w_tup ?_)
  | ((with_reducible show W _ _ (.Compare _ [_] _ _) _ _); refine w_cmp (h := ?_))
  | ((with_reducible show W _ _ (.Compare _ [_, _] _ _) _ _); refine w_chain (h := ?_))
  | ((with_reducible show T _ _ (.Compare _ [_] _ _) _ _); refine t_cmp (h := ?_))
  | ((with_reducible show T _ _ (.Compare _ [_, _] _ _) _ _); refine t_chain (h := ?_))
  | ((with_reducible show T _ _ (.UnaryOp .Not _ _) _ _); refine t_not ?_)
  | ((with_reducible show T _ _ (.Call _ _ _ _) _ _); refine t_val ?_)
  | ((with_reducible show T _ _ (.BoolOp .And _ _) _ _); refine t_w ?_)
  | ((with_reducible show T _ _ (.BoolOp .Or _ _) _ _); refine t_w ?_)
  | ((with_reducible show T _ _ (.Name _ _) _ _); refine t_val ?_)
  | ((with_reducible show TW _ _ (.BoolOp .And [_] _) _ _); refine tw_and1 ?_)
  | ((with_reducible show TW _ _ (.BoolOp .Or [_] _) _ _); refine tw_or1 ?_)
  | ((with_reducible show TW _ _ (.BoolOp .And (_ :: _ :: _) _) _ _); refine tw_and ?_)
  | ((with_reducible show TW _ _ (.BoolOp .Or (_ :: _ :: _) _) _ _); refine tw_or ?_)
  | ((with_reducible show WS _ _ (.Return (some _) _) _ _); refine ws_ret ?_)
  | ((with_reducible show WS _ _ (.If _ _ _ _) _ _); refine ws_if ?_)
  | ((with_reducible show WS _ _ (.Pass _) _ _); refine ws_pass ?_)
  | ((with_reducible show WA _ _ [] _ _); refine wa_nil ?_)
  | ((with_reducible show WA _ _ (_ :: _) _ _); refine wa_cons ?_)
  | ((with_reducible show WK _ _ [] _ _); refine wk_nil ?_)
  | ((with_reducible show WK _ _ (_ :: _) _ _); refine wk_cons ?_)
  | ((with_reducible show WP _ _ none _ _); refine wp_none ?_)
  | ((with_reducible show WP _ _ (some _) _ _); refine wp_some ?_)
  | ((with_reducible show WB _ _ [] _ _); refine wb_nil ?_)
  | ((with_reducible show WB _ _ (_ :: _) _ _); refine wb_cons ?_)
  | ((with_reducible show WB _ _ (defBody _) _ _); refine wb_cons ?_)
  | ((with_reducible show ∃ z, OpD _ (binaryOp .Add) (.int _) (.int _) z ∧ _); refine ⟨_, od_add, ?_⟩)
  | ((with_reducible show ∃ z, OpD _ (binaryOp .Sub) (.int _) (.int _) z ∧ _); refine ⟨_, od_sub, ?_⟩)
  | ((with_reducible show ∃ z, OpD _ (compareOp .Lt) (.int _) (.int _) z ∧ _); refine ⟨_, od_lt, ?_⟩)
  | ((with_reducible show ∃ z, OpD _ (compareOp .Lt) (.int _) (.int _) (.bool z) ∧ _); refine ⟨_, od_lt, ?_⟩)
  | ((with_reducible show ∃ z, OpD _ (compareOp .LtE) (.int _) (.int _) z ∧ _); refine ⟨_, od_le, ?_⟩)
  | ((with_reducible show ∃ z, OpD _ (compareOp .LtE) (.int _) (.int _) (.bool z) ∧ _); refine ⟨_, od_le, ?_⟩)
  | ((with_reducible show ∃ z, OpD _ (compareOp .Gt) (.int _) (.int _) z ∧ _); refine ⟨_, od_gt, ?_⟩)
  | ((with_reducible show ∃ z, OpD _ (compareOp .Gt) (.int _) (.int _) (.bool z) ∧ _); refine ⟨_, od_gt, ?_⟩)
  | ((with_reducible show ∃ z, OpD _ (compareOp .GtE) (.int _) (.int _) z ∧ _); refine ⟨_, od_ge, ?_⟩)
  | ((with_reducible show ∃ z, OpD _ (compareOp .GtE) (.int _) (.int _) (.bool z) ∧ _); refine ⟨_, od_ge, ?_⟩)
  | ((with_reducible show ∃ z, OpD _ (compareOp .Eq) (.int _) (.int _) z ∧ _); refine ⟨_, od_eqI, ?_⟩)
  | ((with_reducible show ∃ z, OpD _ (compareOp .Eq) (.int _) (.int _) (.bool z) ∧ _); refine ⟨_, od_eqI, ?_⟩)
  | ((with_reducible show ∃ z, OpD _ (compareOp .NotEq) (.int _) (.int _) z ∧ _); refine ⟨_, od_neI, ?_⟩)
  | ((with_reducible show ∃ z, OpD _ (compareOp .NotEq) (.int _) (.int _) (.bool z) ∧ _); refine ⟨_, od_neI, ?_⟩)
  | ((with_reducible show ∃ z, OpD _ (compareOp .Is) (.bool _) (.bool _) z ∧ _); refine ⟨_, od_isB, ?_⟩)
  | ((with_reducible show ∃ z, OpD _ (compareOp .Is) (.bool _) (.bool _) (.bool z) ∧ _); refine ⟨_, od_isB, ?_⟩)
  | ((with_reducible show ∃ z, OpD _ (compareOp .IsNot) (.bool _) (.bool _) z ∧ _); refine ⟨_, od_notB, ?_⟩)
  | ((with_reducible show ∃ z, OpD _ (compareOp .IsNot) (.bool _) (.bool _) (.bool z) ∧ _); refine ⟨_, od_notB, ?_⟩)
  | ((with_reducible show ∃ z, OpD _ (binaryOp .Pow) (.int _) (.int _) z ∧ _); refine ⟨_, od_pow (by exact ⟨by decide, by decide, by decide⟩), ?_⟩)
  | ((with_reducible show ∃ z, OpD _ (compareOp .NotEq) (.str _) (.str _) (.bool z) ∧ _); refine ⟨_, od_neS, ?_⟩)
  | ((with_reducible show ∃ z, OpD _ (compareOp .Eq) (.str _) (.str _) (.bool z) ∧ _); refine ⟨_, od_eqS, ?_⟩)
  | ((with_reducible show ∃ z, OpD _ (compareOp .Eq) (.str _) (.str _) z ∧ _); refine ⟨_, od_eqS, ?_⟩)
  | ((with_reducible show ∃ z, UnD _ (unaryOp .USub) (.int _) z ∧ _); refine ⟨_, ud_neg, ?_⟩)
  | ((with_reducible show ∃ i, PyData.int _ = PyData.int i ∧ _); refine ⟨_, rfl, ?_⟩)
  | ((with_reducible show ∃ i, PyData.bool _ = PyData.bool i ∧ _); refine ⟨_, rfl, ?_⟩)
  | ((with_reducible show ∃ i, PyData.tuple _ = PyData.tuple i ∧ _); refine ⟨_, rfl, ?_⟩)
  | ((with_reducible show ∃ i, PyData.list _ = PyData.list i ∧ _); refine ⟨_, rfl, ?_⟩)
  | ((with_reducible show List.length [_] ≤ sizeLine ∧ _); refine ⟨len_le1, ?_⟩)
  | ((with_reducible show List.length [_, _] ≤ sizeLine ∧ _); refine ⟨len_le2, ?_⟩)
  | ((with_reducible show List.length [_, _, _] ≤ sizeLine ∧ _); refine ⟨len_le3, ?_⟩))
section
variable {P : Program} {w : World} {K : PySem.W.Frag} {mg : Str → Option Value} {base : Heap} {f : Addr} {fd : FuncData}
abbrev SpRow : Sp := Dr (fun ds => ∃ r m : Int, ds = [.int r, .int m] ∧ 1 ≤ r ∧ r ≤ 4 ∧ 0 ≤ m ∧ m ≤ 60) (fun ds d => ∃ xs : List Int, d = iv xs ∧ xs.length ≤ 60 ∧ ∀ r m : Int, ds = [.int r, .int m] → AllS r xs)
abbrev s_l_row : Stmt := topS 91
abbrev n_l_row : List Str := ["_law_deck_here", "_law_r", "_law_most", "_law_many", "_law_way", "_law_some", "_law_turn", "_law_left", "_law_found", "_law_step_here"]
theorem sc_l_row : FnScope ["_law_deck_here", "_law_r", "_law_most", "_law_many", "_law_way", "_law_some", "_law_turn", "_law_left", "_law_found", "_law_step_here"] ["_law_deck_here", "_law_r", "_law_most"] (defScope s_l_row) := ⟨rfl, rfl, rfl, by decide +kernel, rfl, by decide +kernel, by decide +kernel⟩
theorem ok_l_row (B : Bi mg) (F : Fun K "_law_row" "_law_row" s_l_row f fd) (k1 : KnP P w K mg base "_law_draw" 81 1 ["_law_deck_here", "_law_many"] SpDraw) (k2 : KnP P w K mg base "_law_step" 89 2 ["_law_deck_here", "_law_r"] SpStep) (k3 : KnP P w K mg base "_law_undone" 90 1 ["_law_row_here"] SpUndone) :
    FnG P w K mg base 3 f fd ["_law_deck_here", "_law_r", "_law_most"] SpRow := by
  refine ok_dr F sc_l_row (fun ds h => by obtain ⟨_, _, rfl, _⟩ := h; rfl) (by decide) fun cdv A outer s H E hr F ds hw h => ?_
  obtain ⟨r, m, rfl, r1, r4, m0, m60⟩ := h
  have post : ∀ xs : List Int, xs.length ≤ 60 → AllS r xs → ∃ ys : List Int, iv xs = iv ys ∧ ys.length ≤ 60 ∧ ∀ r' m' : Int, [PyData.int r, PyData.int m] = [.int r', .int m'] → AllS r' ys := fun xs hl hq => ⟨xs, rfl, hl, fun r' m' e => by
    injection e with e _
    injection e with e
    rw [← e]; exact hq⟩
  repeat walk_at "dw"
  refine ws_set (i := 3) sc_l_row.nd rfl (.inl rfl) (by exact (by decide : 3 < 10)) ?_
  refine W.imp (Φ := fun d => ∃ n : Int, d = .int n ∧ 0 ≤ n ∧ n ≤ m) (w_if ?_) fun d hd => ?_
  · repeat walk_at "dw"
    refine w_callk (i := 0) (k1.up (by decide)) hr rfl rfl (h := ?_)
    repeat walk_at "dw"
    refine ⟨⟨_, rfl, by decide, by decide⟩, fun d hd => ?_⟩
    obtain ⟨x, rfl, x0, x1⟩ := hd
    repeat walk_at "dw"
    refine DW.ite2 (fun h1 => ?_) fun h1 => ?_
    · refine w_callk (i := 0) (k1.up (by decide)) hr rfl rfl (h := ?_)
      repeat walk_at "dw"
      refine ⟨⟨_, rfl, by omega, by omega⟩, fun d hd => ?_⟩
      obtain ⟨y, rfl, y0, y1⟩ := hd
      have y1 := y1 _ rfl
      exact ⟨y, rfl, y0, by omega⟩
    · refine w_callB rfl B.min PyProof.Rows.boot_min ?_
      repeat walk_at "dw"
      refine w_callk (i := 0) (k1.up (by decide)) hr rfl rfl (h := ?_)
      repeat walk_at "dw"
      refine ⟨⟨_, rfl, by decide, by decide⟩, fun d hd => ?_⟩
      obtain ⟨y, rfl, y0, y1⟩ := hd
      repeat walk_at "dw"
      refine ⟨_, cd_min2 rfl, _, rfl, ?_, ?_⟩
      · split <;> omega
      · split <;> omega
  obtain ⟨n, rfl, n0, nm⟩ := hd
  repeat walk_at "dw"
  refine ws_par (i := 4) (j := 5) rfl sc_l_row.nd rfl rfl (by decide) rfl rfl (by exact (by decide : 4 < 10)) (by exact (by decide : 5 < 10)) (h := ?_)
  refine w_callk (i := 0) (k1.up (by decide)) hr rfl rfl (h := ?_)
  repeat walk_at "dw"
  refine ⟨⟨_, rfl, by decide, by decide⟩, fun d hd => ?_⟩
  obtain ⟨way, rfl, w0, w1⟩ := hd
  refine w_l (wl_lc [("_law_turn", 6)] (L := [6]) rfl sc_l_row.nd (blkOk_by (N := n_l_row) (sc := defScope s_l_row) (by decide +kernel)) (by decide) rfl (h := ?_))
  refine lc_map (fun d r' => ∃ x : Int, r' = .int x ∧ StOk r x) ?_
  refine it_range1 rfl B.range ?_
  repeat walk_at "dw"
  refine ⟨_, rfl, by omega, by omega, by rw [irng_len, sizeLine_eq]; omega, fun d hd F' e1 e2 s H C cl fp => ?_, fun out ho => ?_⟩
  · refine tg_name (i := 6) sc_l_row.nd rfl (.inl rfl) (by exact (by decide : 6 < 10)) ?_
    intro s H C cl fp
    refine w_callk (i := 0) (k2.up (by decide)) hr rfl rfl (h := ?_)
    repeat walk_at "dw"
    refine ⟨⟨_, rfl, r1, r4⟩, fun d hd => ?_⟩
    obtain ⟨x, rfl, hx⟩ := hd
    exact ⟨x, rfl, hx _ rfl⟩
  obtain ⟨xs, rfl, hl, hq⟩ := outI_all ho
  rw [irng_len] at hl
  have hq : AllS r xs := hq
  have xl : xs.length ≤ 60 := by omega
  have half : (xs.take (n / 2).toNat).length = (n / 2).toNat := by rw [List.length_take]; omega
  have halfS : AllS r (xs.take (n / 2).toNat) := fun s hs => hq s (List.mem_of_mem_take hs)
  repeat walk_at "dw"
  refine DW.ite2 (fun h1 => ?_) fun h1 => ?_
  · repeat walk_at "dw"
    refine w_callTy rfl B.tup PyProof.Rows.boot_tuple ?_
    repeat walk_at "dw"
    refine w_l (wl_slL ?_)
    repeat walk_at "dw"
    refine w_l (wl_slL ?_)
    repeat walk_at "dw"
    refine w_callk (i := 0) (k1.up (by decide)) hr rfl rfl (h := ?_)
    repeat walk_at "dw"
    refine ⟨⟨_, rfl, by decide, by decide⟩, fun d hd => ?_⟩
    obtain ⟨y, rfl, y0, y1⟩ := hd
    have y1 := y1 _ rfl
    repeat walk_at "dw"
    rw [cut_hiI xs (by omega)]
    refine ⟨_, od_repL (by omega) (by omega) (by
      rw [List.length_map, List.length_take, sizeLine_eq]
      have h1 : min (1 + y).toNat xs.length * m.toNat ≤ 60 * 60 := Nat.mul_le_mul (by omega) (by omega)
      omega), ?_⟩
    repeat walk_at "dw"
    have em : ∀ d ∈ DW.cutD (List.replicate m.toNat ((xs.take (1 + y).toNat).map PyData.int)).flatten none (some n), ∃ s : Int, d = .int s ∧ StOk r s := fun d hd => by
      obtain ⟨nn, rfl⟩ : ∃ k : Nat, n = k := ⟨n.toNat, by omega⟩
      rw [cut_hi] at hd
      obtain ⟨l, hl, hd⟩ := List.mem_flatten.mp (List.mem_of_mem_take hd)
      rw [(List.mem_replicate.mp hl).2] at hd
      obtain ⟨s, hs, rfl⟩ := List.mem_map.mp hd
      exact ⟨s, rfl, hq s (List.mem_of_mem_take hs)⟩
    obtain ⟨ys, ey, hy⟩ := allS_int em
    refine ⟨_, cd_tuple_l, ?_⟩
    have ly : ys.length ≤ 60 := by
      have : (ys.map PyData.int).length ≤ 60 := by
        rw [← ey]
        obtain ⟨nn, rfl⟩ : ∃ k : Nat, n = k := ⟨n.toNat, by omega⟩
        rw [cut_hi, List.length_take]
        omega
      rw [List.length_map] at this
      exact this
    rw [ey]
    exact post ys ly hy
  repeat walk_at "dw"
  refine DW.ite2 (fun h2 => ?_) fun h2 => ?_
  · repeat walk_at "dw"
    refine ws_parLL (i := 7) (j := 8) rfl sc_l_row.nd rfl rfl (by decide) rfl rfl (by exact (by decide : 7 < 10)) (by exact (by decide : 8 < 10)) (nofd_of rfl) (h := ?_)
    refine wl_lc [("_law_step_here", 9)] (L := [9]) rfl sc_l_row.nd (blkOk_by (N := n_l_row) (sc := defScope s_l_row) (by decide +kernel)) (by decide) rfl (h := ?_)
    refine lc_map (fun d r => ∃ t : Int, d = .int t ∧ r = .int (-t)) ?_
    refine it_lst ?_
    refine w_l (wl_slL ?_)
    repeat walk_at "dw"
    refine ⟨_, od_fdiv ⟨by decide, by decide⟩, ?_⟩
    repeat walk_at "dw"
    rw [cut_hiI xs (by omega)]
    refine ⟨by rw [List.length_map, sizeLine_eq]; omega, fun d hd F' e1 e2 s H C cl fp => ?_, fun out ho F' hF' => ?_⟩
    · obtain ⟨t, ht, rfl⟩ := List.mem_map.mp hd
      refine tg_name (i := 9) sc_l_row.nd rfl (.inl rfl) (by exact (by decide : 9 < 10)) ?_
      intro s H C cl fp
      repeat walk_at "dw"
      rfl
    have eo := outI_fun (fun t => -t) ho
    subst eo
    refine wl_slL ?_
    repeat walk_at "dw"
    refine ⟨_, od_fdiv ⟨by decide, by decide⟩, ?_⟩
    repeat walk_at "dw"
    rw [cut_hiI xs (by omega)]
    repeat walk_at "dw"
    refine ws_for (L := [6]) PassesOwn.never rfl (h := ?_)
    refine it_range1 rfl B.range ?_
    repeat walk_at "dw"
    refine ⟨_, od_fdiv ⟨by decide, by decide⟩, ?_⟩
    repeat walk_at "dw"
    refine ⟨_, rfl, by omega, by omega, fun i es1 => ∃ (x : Sl) (L Fo : List Int), es1 = [.dk, .d (.int r), .d (.int m), .d (.int n), .d (.int way), .d (.list (xs.map PyData.int)), x, .own (L.map PyData.int), .own (Fo.map PyData.int), .no] ∧ AllS r L ∧ AllS r Fo ∧ L.length + i = (n / 2).toNat ∧ Fo.length = (n / 2).toNat + i,
      ⟨_, _, _, rfl, neg_ok halfS, halfS, by rw [List.length_map, half]; rfl, half⟩, fun i es1 d hd hp => ?_, fun es1 hp => ?_⟩
    · obtain ⟨x, L, Fo, rfl, sL, sF, lL, lF⟩ := hp
      have hi : i < (n / 2).toNat := by have := (List.getElem?_eq_some_iff.mp hd).1; rw [irng_len] at this; exact this
      rw [irng_at hi] at hd
      cases hd
      refine tg_name (i := 6) sc_l_row.nd rfl (.inl rfl) (by exact (by decide : 6 < 10)) ?_
      repeat walk_at "dw"
      refine ws_popApp (i := 7) (j := 8) rfl rfl (by decide) (hl := by rw [List.length_map, sizeLine_eq]; omega) (h := ?_)
        (hm := fun ha hb => pe_bm PySem.F.plainAttrs_list PySem.F.slot_list_append PySem.F.type_list_append mt_append ha (pa_cons hb pa_nil))
        (hm2 := fun ha hb => pe_bm PySem.F.plainAttrs_list PySem.F.slot_list_pop PySem.F.type_list_pop mt_popAt ha (pa_cons hb pa_nil))
      refine w_callk (i := 0) (k1.up (by decide)) hr rfl rfl (h := ?_)
      refine wa_cons ?_
      refine w_lenO (i := 7) rfl rfl B.len PySem.boot_len (h := ?_)
      repeat walk_at "dw"
      refine ⟨⟨_, rfl, by rw [List.length_map]; omega, by rw [List.length_map]; omega⟩, fun d hd => ?_⟩
      obtain ⟨y, rfl, y0, y1⟩ := hd
      have y1 := y1 _ rfl
      rw [List.length_map] at y1
      have yl : y.toNat < L.length := by omega
      refine ⟨y.toNat, .int L[y.toNat], by rw [Int.toNat_of_nonneg y0], by omega, by rw [List.getElem?_map, List.getElem?_eq_getElem yl]; rfl, ?_⟩
      rw [erase_map]
      repeat walk_at "dw"
      refine ⟨_, L.eraseIdx y.toNat, Fo ++ [L[y.toNat]], by rw [List.map_append]; rfl, fun s hs => sL s (List.mem_of_mem_eraseIdx hs), fun s hs => ?_, by rw [List.length_eraseIdx_of_lt yl]; omega, by rw [List.length_append, lF]; rfl⟩
      rcases List.mem_append.mp hs with z | z
      · exact sF s z
      · rw [List.mem_singleton.mp z]; exact sL _ (List.getElem_mem yl)
    · obtain ⟨x, L, Fo, rfl, sL, sF, lL, lF⟩ := hp
      rw [irng_len] at lL lF
      refine wb_freeze (i := 8) rfl ?_
      repeat walk_at "dw"
      refine w_callTy rfl B.tup PyProof.Rows.boot_tuple ?_
      repeat walk_at "dw"
      exact ⟨_, cd_tuple_l, post Fo (by omega) sF⟩
  repeat walk_at "dw"
  refine DW.ite2 (fun h3 => ?_) fun h3 => ?_
  · repeat walk_at "dw"
    refine w_callTy rfl B.tup PyProof.Rows.boot_tuple ?_
    repeat walk_at "dw"
    refine w_l (wl_slL ?_)
    repeat walk_at "dw"
    refine ⟨_, od_fdiv ⟨by decide, by decide⟩, ?_⟩
    repeat walk_at "dw"
    rw [cut_hiI xs (by omega)]
    refine ⟨_, cd_tuple_l, ?_⟩
    refine w_call (k3.up (by decide)) hr rfl ?_
    repeat walk_at "dw"
    refine w_l (wl_slL ?_)
    repeat walk_at "dw"
    refine ⟨_, od_fdiv ⟨by decide, by decide⟩, ?_⟩
    repeat walk_at "dw"
    rw [cut_hiI xs (by omega)]
    refine ⟨⟨_, rfl, by rw [half]; omega⟩, fun d hd => ?_⟩
    obtain rfl := hd _ rfl
    refine ⟨_, od_cat (by rw [List.length_map, List.length_map, List.length_map, List.length_reverse, half, sizeLine_eq]; omega), ?_⟩
    rw [← List.map_append]
    refine post _ (by rw [List.length_append, List.length_map, List.length_reverse, half]; omega) fun s hs => ?_
    rcases List.mem_append.mp hs with z | z
    · exact halfS s z
    · exact neg_ok (fun s hs => halfS s (List.mem_reverse.mp hs)) s z
  repeat walk_at "dw"
  refine w_callTy rfl B.tup PyProof.Rows.boot_tuple ?_
  repeat walk_at "dw"
  exact ⟨_, cd_tuple_l, post xs xl hq⟩
end
end A7
namespace A7
open PySem PySem.W L2 RZ PyProof.Rows DW K9 A3
local macro_rules | `(tactic| walk_at "dw") => `(tactic| first
  | ((with_reducible show W _ _ (.Name _ _) _ _); first
    | refine w_var (i := 0) rfl (q := ?_)
    | refine w_var (i := 1) rfl (q := ?_)
    | refine w_var (i := 2) rfl (q := ?_)
    | refine w_var (i := 3) rfl (q := ?_)
    | refine w_var (i := 4) rfl (q := ?_)
    | refine w_var (i := 5) rfl (q := ?_)
    | refine w_var (i := 6) rfl (q := ?_)
    | refine w_var (i := 7) rfl (q := ?_)
    | refine w_var (i := 8) rfl (q := ?_)
    | refine w_var (i := 9) rfl (q := ?_)
    | refine w_var (i := 10) rfl (q := ?_)
    | refine w_var (i := 11) rfl (q := ?_)
    | refine w_var (i := 12) rfl (q := ?_)
    | refine w_var (i := 13) rfl (q := ?_)
    | refine w_var (i := 14) rfl (q := ?_)
    | refine w_var (i := 15) rfl (q := ?_))
  | ((with_reducible show W _ _ (.Constant (.int _) _ _) _ _); refine w_int ?_)
  | ((with_reducible show W _ _ (.Constant (.bool _) _ _) _ _); refine w_bool ?_)
  | ((with_reducible show W _ _ (.Constant .none _ _) _ _); refine w_none ?_)
  | ((with_reducible show W _ _ (.Constant (.str _) _ _) _ _); refine w_str ?_)
  | ((with_reducible show W _ _ (.BoolOp .And (_ :: _ :: _) _) _ _); refine w_andV ?_)
  | ((with_reducible show W _ _ (.BoolOp .Or (_ :: _ :: _) _) _ _); refine w_orV ?_)
  | ((with_reducible show W _ _ (.BoolOp _ [_] _) _ _); refine w_one ?_)
  | ((with_reducible show W _ _ (.UnaryOp .Not _ _) _ _); refine w_notV ?_)
  | ((with_reducible show W _ _ (.UnaryOp .USub _ _) _ _); refine w_un ?_)
  | ((with_reducible show W _ _ (.BinOp _ _ _ _) _ _); refine w_bin ?_)
  | ((with_reducible show W _ _ (.Tuple _ _ _) _ _); refine w_tup ?_)
  | ((with_reducible show W _ _ (.Compare _ [_] _ _) _ _); refine w_cmp (h := ?_))
  | ((with_reducible show W _ _ (.Compare _ [_, _] _ _) _ _); refine w_chain (h := ?_))
  | ((with_reducible show T _ _ (.Compare _ [_] _ _) _ _); refine t_cmp (h := ?_))
  | ((with_reducible show T _ _ (.Compare _ [_, _] _ _) _ _); refine t_chain (h := ?_))
  | ((with_reducible show T _ _ (.UnaryOp .Not _ _) _ _); refine t_not ?_)
  | ((with_reducible show T _ _ (.Call _ _ _ _) _ _); refine t_val ?_)
  | ((with_reducible show T _ _ (.BoolOp .And _ _) _ _); refine t_w ?_)
  | ((with_reducible show T _ _ (.BoolOp .Or _ _) _ _); refine t_w ?_)
  | ((with_reducible show T _ _ (.Name _ _) _ _); refine t_val ?_)
  | ((with_reducible show TW _ _ (.BoolOp .And [_] _) _ _); refine tw_and1 ?_)
  | ((with_reducible show TW _ _ (.BoolOp .Or [_] _) _ _); refine tw_or1 ?_)
  | ((with_reducible show TW _ _ (.BoolOp .And (_ :: _ :: _) _) _ _); refine tw_and ?_)
  | ((with_reducible show TW _ _ (.BoolOp .Or (_ :: _ :: _) _) _ _); refine tw_or ?_)
  | ((with_reducible show WS _ _ (.Return (some _) _) _ _); refine ws_ret ?_)
  | ((with_reducible show WS _ _ (.If _ _ _ _) _ _); refine ws_if ?_)
  | ((with_reducible show WS _ _ (.Pass _) _ _); refine ws_pass ?_)
  | ((with_reducible show WA _ _ [] _ _); refine wa_nil ?_)
  | ((with_reducible show WA _ _ (_ :: _) _ _); refine wa_cons ?_)
  | ((with_reducible show WK _ _ [] _ _); refine wk_nil ?_)
  | ((with_reducible show WK _ _ (_ :: _) _ _); refine wk_cons ?_)
  | ((with_reducible show WP _ _ none _ _); refine wp_none ?_)
  | ((with_reducible show WP _ _ (some _) _ _); refine wp_some ?_)
  | ((with_reducible show WB _ _ [] _ _); refine wb_nil ?_)
  | ((with_reducible show WB _ _ (_ :: _) _ _); refine wb_cons ?_)
  | ((with_reducible show WB _ _ (defBody _) _ _); refine wb_cons ?_)
  | ((with_reducible show ∃ z, OpD _ (binaryOp .Add) (.int _) (.int _) z ∧ _); refine ⟨_, od_add, ?_⟩)
  | ((with_reducible show ∃ z, OpD _ (binaryOp .Sub) (.int _) (.int _) z ∧ _); refine ⟨_, od_sub, ?_⟩)
  | ((with_reducible show ∃ z, OpD _ (compareOp .Lt) (.int _) (.int _) z ∧ _); refine ⟨_, od_lt, ?_⟩)
  | ((with_reducible show ∃ z, OpD _ (compareOp .Lt) (.int _) (.int _) (.bool z) ∧ _); refine ⟨_, od_lt, ?_⟩)
  | ((with_reducible show ∃ z, OpD _ (compareOp .LtE) (.int _) (.int _) z ∧ _); refine ⟨_, od_le, ?_⟩)
  | ((with_reducible show ∃ z, OpD _ (compareOp .LtE) (.int _) (.int _) (.bool z) ∧ _); refine ⟨_, od_le, ?_⟩)
  | ((with_reducible show ∃ z, OpD _ (compareOp .Gt) (.int _) (.int _) z ∧ _); refine ⟨_, od_gt, ?_⟩)
  | ((with_reducible show ∃ z, OpD _ (compareOp .Gt) (.int _) (.int _) (.bool z) ∧ _); refine ⟨_, od_gt, ?_⟩)
  | ((with_reducible show ∃ z, OpD _ (compareOp .GtE) (.int _) (.int _) z ∧ _); refine ⟨_, od_ge, ?_⟩)
  | ((with_reducible show ∃ z, OpD _ (compareOp .GtE) (.int _) (.int _) (.bool z) ∧ _); refine ⟨_, od_ge, ?_⟩)
  | ((with_reducible show ∃ z, OpD _ (compareOp .Eq) (.int _) (.int _) z ∧ _); refine ⟨_, od_eqI, ?_⟩)
  | ((with_reducible show ∃ z, OpD _ (compareOp .Eq) (.int _) (.int _) (.bool z) ∧ _); refine ⟨_, od_eqI, ?_⟩)
  | ((with_reducible show ∃ z, OpD _ (compareOp .NotEq) (.int _) (.int _) z ∧ _); refine ⟨_, od_neI, ?_⟩)
  | ((with_reducible show ∃ z, OpD _ (compareOp .NotEq) (.int _) (.int _) (.bool z) ∧ _); refine ⟨_, od_neI, ?_⟩)
  | ((with_reducible show ∃ z, OpD _ (compareOp .Is) (.bool _) (.bool _) z ∧ _); refine ⟨_, od_isB, ?_⟩)
  | ((with_reducible show ∃ z, OpD _ (compareOp .Is) (.bool _) (.bool _) (.bool z) ∧ _); refine ⟨_, od_isB, ?_⟩)
  | ((with_reducible show ∃ z, OpD _ (compareOp .IsNot) (.bool _) (.bool _) z ∧ _); refine ⟨_, od_notB, ?_⟩)
  | ((with_reducible show ∃ z, OpD _ (compareOp .IsNot) (.bool _) (.bool _) (.bool z) ∧ _); refine ⟨_, od_notB, ?_⟩)
  | ((with_reducible show ∃ z, OpD _ (binaryOp .Pow) (.int _) (.int _) z ∧ _); refine ⟨_, od_pow (by exact ⟨by decide, by decide, by decide⟩), ?_⟩)
  | ((with_reducible show ∃ z, OpD _ (compareOp .NotEq) (.str _) (.str _) (.bool z) ∧ _); refine ⟨_, od_neS, ?_⟩)
  | ((with_reducible show ∃ z, OpD _ (compareOp .Eq) (.str _) (.str _) (.bool z) ∧ _); refine ⟨_, od_eqS, ?_⟩)
  | ((with_reducible show ∃ z, OpD _ (compareOp .Eq) (.str _) (.str _) z ∧ _); refine ⟨_, od_eqS, ?_⟩)
  | ((with_reducible show ∃ z, UnD _ (unaryOp .USub) (.int _) z ∧ _); refine ⟨_, ud_neg, ?_⟩)
  | ((with_reducible show ∃ i, PyData.int _ = PyData.int i ∧ _); refine ⟨_, rfl, ?_⟩)
  | ((with_reducible show ∃ i, PyData.bool _ = PyData.bool i ∧ _); refine ⟨_, rfl, ?_⟩)
  | ((with_reducible show ∃ i, PyData.tuple _ = PyData.tuple i ∧ _); refine ⟨_, rfl, ?_⟩)
  | ((with_reducible show ∃ i, PyData.list _ = PyData.list i ∧ _); refine ⟨_, rfl, ?_⟩)
  | ((with_reducible show List.length [_] ≤ sizeLine ∧ _); refine ⟨len_le1, ?_⟩)
  | ((with_reducible show List.length [_, _] ≤ sizeLine ∧ _); refine ⟨len_le2, ?_⟩)
  | ((with_reducible show List.length [_, _, _] ≤ sizeLine ∧ _); refine ⟨len_le3, ?_⟩))
section
variable {P : Program} {w : World} {K : PySem.W.Frag} {mg : Str → Option Value} {base : Heap} {f : Addr} {fd : FuncData}
abbrev SpShow : Sp := Pu (fun ds => ∃ (r : Int) (xs : List Int), ds = [.int r, iv xs] ∧ 1 ≤ r ∧ r ≤ 4 ∧ xs.length ≤ 60 ∧ AllS r xs) (fun ds d => ∃ a : List Tp, d = dS (lst a) ∧ a.length ≤ 60 ∧ ∀ (r : Int) (xs : List Int), ds = [.int r, iv xs] → Gd r a)
abbrev s_l_show : Stmt := topS 94
abbrev n_l_show : List Str := ["_law_r", "_law_row_here", "_law_numbers", "_law_room_here", "_law_step_here", "_law_near", "_law_key"]
theorem sc_l_show : FnScope ["_law_r", "_law_row_here", "_law_numbers", "_law_room_here", "_law_step_here", "_law_near", "_law_key"] ["_law_r", "_law_row_here"] (defScope s_l_show) := ⟨rfl, rfl, rfl, by decide +kernel, rfl, by decide +kernel, by decide +kernel⟩
theorem ok_l_show (F : Fun K "_law_show" "_law_show" s_l_show f fd) (k1 : KnP P w K mg base "_law_next" 92 1 ["_law_room_here", "_law_step_here"] SpNext) (k2 : KnP P w K mg base "_law_listed" 93 1 ["_law_numbers"] (SpListed w)) :
    FnG P w K mg base 2 f fd ["_law_r", "_law_row_here"] SpShow := by
  refine ok_pu F sc_l_show (fun ds h => by obtain ⟨_, _, rfl, _⟩ := h; rfl) (by decide) fun cdv A outer s H E hr F ds hw h => ?_
  subst hw
  obtain ⟨r, xs, rfl, r1, r4, hl, hq⟩ := h
  have hu9 := hr.ro.units
  repeat walk_at "dw"
  refine ws_parD1 (i := 2) (j := 3) rfl rfl sc_l_show.nd rfl rfl (by decide) rfl rfl (by exact (by decide : 2 < 7)) (by exact (by decide : 3 < 7)) (h := ?_)
  repeat walk_at "dw"
  refine ⟨_, od_repT1 r1 (by omega), ?_⟩
  rw [show List.replicate r.toNat (PyData.int 0) = (List.replicate r.toNat (0 : Int)).map PyData.int by rw [List.map_replicate]]
  repeat walk_at "dw"
  refine ws_for (L := [4]) PassesOwn.never rfl (h := ?_)
  refine it_tup ?_
  repeat walk_at "dw"
  refine ⟨fun i es1 => ∃ (x y z : Sl) (a : List Tp) (room : List Int), es1 = [.d (.int r), .d (iv xs), .od (kvO a), .d (iv room), x, y, z] ∧ (room.length : Int) = r ∧ Nb i room ∧ a.length ≤ i ∧ (a.map (·.1)).Nodup ∧ (∀ t ∈ a, KOk r t.1 ∧ Nb i t.1.1) ∧ Vb i a,
    ⟨_, _, _, [], List.replicate r.toNat 0, rfl, by rw [List.length_replicate]; omega, fun x hx => by rw [(List.mem_replicate.mp hx).2]; exact Nat.le_refl _, Nat.le_refl _, List.nodup_nil, fun t ht => (by cases ht), fun t ht => (by cases ht)⟩, fun i es1 d hd hp => ?_, fun es1 hp => ?_⟩
  · obtain ⟨x, y, z, a, room, rfl, hrm, nb, al, nd, ea, vb⟩ := hp
    rw [List.getElem?_map] at hd
    obtain ⟨st, hs, rfl⟩ := Option.map_eq_some_iff.mp hd
    have hi : i < xs.length := (List.getElem?_eq_some_iff.mp hs).1
    obtain ⟨s0, s1, s2⟩ := hq st (List.mem_of_getElem? hs)
    refine tg_name (i := 4) sc_l_show.nd rfl (.inl rfl) (by exact (by decide : 4 < 7)) ?_
    repeat walk_at "dw"
    refine ws_set (i := 5) sc_l_show.nd rfl (.inl rfl) (by exact (by decide : 5 < 7)) ?_
    refine w_call k1 hr rfl ?_
    repeat walk_at "dw"
    refine ⟨⟨room, st, rfl, by omega, s0, by omega, by omega⟩, fun d hd => ?_⟩
    obtain ⟨near, rfl, hne⟩ := hd
    obtain ⟨ln, nbn⟩ := hne _ _ rfl
    have nbn := nbn i nb
    repeat walk_at "dw"
    refine ws_set (i := 6) sc_l_show.nd rfl (.inl rfl) (by exact (by decide : 6 < 7)) ?_
    refine W.imp (Φ := fun d => ∃ k : Kk, d = dK k ∧ KOk r k ∧ Nb (i + 1) k.1) (w_if ?_) fun d hd => ?_
    · repeat walk_at "dw"
      refine DW.ite2 (fun h1 => ?_) fun h1 => ?_
      · repeat walk_at "dw"
        exact ⟨(room, st), rfl, ⟨hrm, by show 1 ≤ st; omega, s2⟩, fun x hx => Nat.le_succ_of_le (nb x hx)⟩
      · repeat walk_at "dw"
        exact ⟨(near, -st), rfl, ⟨by show (near.length : Int) = r; omega, by show 1 ≤ -st; omega, by show -st ≤ r; omega⟩, nbn⟩
    obtain ⟨k, rfl, kok, knb⟩ := hd
    repeat walk_at "dw"
    refine ws_putD (i := 2) rfl (Nat.lt_of_le_of_lt (Nat.add_le_add_left (by decide : 9 ≤ 64) _) hu9) rfl (hl := by rw [List.length_map, sizeLine_eq]; omega) (h := ?_)
    repeat walk_at "dw"
    refine w_getD (i := 2) rfl (Nat.lt_of_le_of_lt (Nat.add_le_add_left (by decide : 9 ≤ 64) _) hu9) rfl (m := ⟨rfl, rfl, rfl, rfl⟩) (h := ?_)
    repeat walk_at "dw"
    refine ⟨asKey_dK k, ?_⟩
    rw [val_kvO _ k]
    refine W.imp (Φ := fun d => ∃ g : Int, d = .int g ∧ (g = 1 ∨ g = -1)) (w_if ?_) fun d hd => ?_
    · repeat walk_at "dw"
      refine DW.ite2 (fun _ => ?_) fun _ => ?_
      · repeat walk_at "dw"
        exact .inl rfl
      · repeat walk_at "dw"
        exact .inr rfl
    obtain ⟨g, rfl, hg⟩ := hd
    repeat walk_at "dw"
    refine ⟨asKey_dK k, ?_⟩
    rw [stored_kvO _ k]
    repeat walk_at "dw"
    refine ws_set (i := 3) sc_l_show.nd rfl (.inl rfl) (by exact (by decide : 3 < 7)) ?_
    repeat walk_at "dw"
    have vv := valT_vb vb k
    have v1 : (valT a k + g).natAbs ≤ i + 1 := by rcases hg with e | e <;> subst e <;> omega
    refine ⟨_, _, _, putT a k (valT a k + g), near, rfl, by omega, nbn, by have := putT_len a k (valT a k + g); omega, putT_nodup nd, fun t ht => ?_, fun t ht => ?_⟩
    · rcases putT_mem ht with z | z
      · exact ⟨(ea t z).1, fun x hx => Nat.le_succ_of_le ((ea t z).2 x hx)⟩
      · rw [z]; exact ⟨kok, knb⟩
    · rcases putT_mem ht with z | z
      · exact Nat.le_succ_of_le (vb t z)
      · rw [z]; exact v1
  · obtain ⟨x, y, z, a, room, rfl, hrm, nb, al, nd, ea, vb⟩ := hp
    rw [List.length_map] at nb al ea vb
    repeat walk_at "dw"
    refine w_callF (i := 2) (k2.up (by decide)) hr rfl rfl ⟨⟨_, rfl, by omega⟩, fun d hd => ?_⟩
    obtain rfl := hd _ rfl
    refine ⟨a, rfl, by omega, fun r' xs' e => ?_⟩
    injection e with e _
    injection e with e
    rw [← e]
    exact ⟨nd, fun t ht => ⟨(ea t ht).1, fun x hx => gb_of ((ea t ht).2 x hx) (by omega), gb_of (vb t ht) (by omega)⟩⟩
end
end A7
namespace A7
open PySem PySem.W L2 RZ PyProof.Rows DW K9 A3
local macro_rules | `(tactic| walk_at "dw") => `(tactic| first
  | ((with_reducible show W _ _ (.Name _ _) _ _); first
    | refine w_var (i := 0) rfl (q := ?_)
    | refine w_var (i := 1) rfl (q := ?_)
    | refine w_var (i := 2) rfl (q := ?_)
    | refine w_var (i := 3) rfl (q := ?_)
    | refine w_var (i := 4) rfl (q := ?_)
    | refine w_var (i := 5) rfl (q := ?_)
    | refine w_var (i := 6) rfl (q := ?_)
    | refine w_var (i := 7) rfl (q := ?_)
    | refine w_var (i := 8) rfl (q := ?_)
    | refine w_var (i := 9) rfl (q := ?_)
    | refine w_var (i := 10) rfl (q := ?_)
    | refine w_var (i := 11) rfl (q := ?_)
    | refine w_var (i := 12) rfl (q := ?_)
    | refine w_var (i := 13) rfl (q := ?_)
    | refine w_var (i := 14) rfl (q := ?_)
    | refine w_var (i := 15) rfl (q := ?_))
  | ((with_reducible show W _ _ (.Constant (.int _) _ _) _ _); refine w_int ?_)
  | ((with_reducible show W _ _ (.Constant (.bool _) _ _) _ _); refine w_bool ?_)
  | ((with_reducible show W _ _ (.Constant .none _ _) _ _); refine w_none ?_)
  | ((with_reducible show W _ _ (.Constant (.str _) _ _) _ _); refine w_str ?_)
  | ((with_reducible show W _ _ (.BoolOp .And (_ :: _ :: _) _) _ _); refine w_andV ?_)
  | ((with_reducible show W _ _ (.BoolOp .Or (_ :: _ :: _) _) _ _); refine w_orV ?_)
  | ((with_reducible show W _ _ (.BoolOp _ [_] _) _ _); refine w_one ?_)
  | ((with_reducible show W _ _ (.UnaryOp .Not _ _) _ _); refine w_notV ?_)
  | ((with_reducible show W _ _ (.UnaryOp .USub _ _) _ _); refine w_un ?_)
  | ((with_reducible show W _ _ (.BinOp _ _ _ _) _ _); refine w_bin ?_)
  | ((with_reducible show W _ _ (.Tuple _ _ _) _ _); refine w_tup ?_)
  | ((with_reducible show W _ _ (.Compare _ [_] _ _) _ _); refine w_cmp (h := ?_))
  | ((with_reducible show W _ _ (.Compare _ [_, _] _ _) _ _); refine w_chain (h := ?_))
  | ((with_reducible show T _ _ (.Compare _ [_] _ _) _ _); refine t_cmp (h := ?_))
  | ((with_reducible show T _ _ (.Compare _ [_, _] _ _) _ _); refine t_chain (h := ?_))
  | ((with_reducible show T _ _ (.UnaryOp .Not _ _) _ _); refine t_not ?_)
  | ((with_reducible show T _ _ (.Call _ _ _ _) _ _); refine t_val ?_)
  | ((with_reducible show T _ _ (.BoolOp .And _ _) _ _); refine t_w ?_)
  | ((with_reducible show T _ _ (.BoolOp .Or _ _) _ _); refine t_w ?_)
  | ((with_reducible show T _ _ (.Name _ _) _ _); refine t_val ?_)
  | ((with_reducible show TW _ _ (.BoolOp .And [_] _) _ _); refine tw_and1 ?_)
  | ((with_reducible show TW _ _ (.BoolOp .Or [_] _) _ _); refine tw_or1 ?_)
  | ((with_reducible show TW _ _ (.BoolOp .And (_ :: _ :: _) _) _ _); refine tw_and ?_)
  | ((with_reducible show TW _ _ (.BoolOp .Or (_ :: _ :: _) _) _ _); refine tw_or ?_)
  | ((with_reducible show WS _ _ (.Return (some _) _) _ _); refine ws_ret ?_)
  | ((with_reducible show WS _ _ (.If _ _ _ _) _ _); refine ws_if ?_)
  | ((with_reducible show WS _ _ (.Pass _) _ _); refine ws_pass ?_)
  | ((with_reducible show WA _ _ [] _ _); refine wa_nil ?_)
  | ((with_reducible show WA _ _ (_ :: _) _ _); refine wa_cons ?_)
  | ((with_reducible show WK _ _ [] _ _); refine wk_nil ?_)
  | ((with_reducible show WK _ _ (_ :: _) _ _); refine wk_cons ?_)
  | ((with_reducible show WP _ _ none _ _); refine wp_none ?_)
  | ((with_reducible show WP _ _ (some _) _ _); refine wp_some ?_)
  | ((with_reducible show WB _ _ [] _ _); refine wb_nil ?_)
  | ((with_reducible show WB _ _ (_ :: _) _ _); refine wb_cons ?_)
  | ((with_reducible show WB _ _ (defBody _) _ _); refine wb_cons ?_)
  | ((with_reducible show ∃ z, OpD _ (binaryOp .Add) (.int _) (.int _) z ∧ _); refine ⟨_, od_add, ?_⟩)
  | ((with_reducible show ∃ z, OpD _ (binaryOp .Sub) (.int _) (.int _) z ∧ _); refine ⟨_, od_sub, ?_⟩)
  | ((with_reducible show ∃ z, OpD _ (compareOp .Lt) (.int _) (.int _) z ∧ _); refine ⟨_, od_lt, ?_⟩)
  | ((with_reducible show ∃ z, OpD _ (compareOp .Lt) (.int _) (.int _) (.bool z) ∧ _); refine ⟨_, od_lt, ?_⟩)
  | ((with_reducible show ∃ z, OpD _ (compareOp .LtE) (.int _) (.int _) z ∧ _); refine ⟨_, od_le, ?_⟩)
  | ((with_reducible show ∃ z, OpD _ (compareOp .LtE) (.int _) (.int _) (.bool z) ∧ _); refine ⟨_, od_le, ?_⟩)
  | ((with_reducible show ∃ z, OpD _ (compareOp .Gt) (.int _) (.int _) z ∧ _); refine ⟨_, od_gt, ?_⟩)
  | ((with_reducible show ∃ z, OpD _ (compareOp .Gt) (.int _) (.int _) (.bool z) ∧ _); refine ⟨_, od_gt, ?_⟩)
  | ((with_reducible show ∃ z, OpD _ (compareOp .GtE) (.int _) (.int _) z ∧ _); refine ⟨_, od_ge, ?_⟩)
  | ((with_reducible show ∃ z, OpD _ (compareOp .GtE) (.int _) (.int _) (.bool z) ∧ _); refine ⟨_, od_ge, ?_⟩)
  | ((with_reducible show ∃ z, OpD _ (compareOp .Eq) (.int _) (.int _) z ∧ _); refine ⟨_, od_eqI, ?_⟩)
  | ((with_reducible show ∃ z, OpD _ (compareOp .Eq) (.int _) (.int _) (.bool z) ∧ _); refine ⟨_, od_eqI, ?_⟩)
  | ((with_reducible show ∃ z, OpD _ (compareOp .NotEq) (.int _) (.int _) z ∧ _); refine ⟨_, od_neI, ?_⟩)
  | ((with_reducible show ∃ z, OpD _ (compareOp .NotEq) (.int _) (.int _) (.bool z) ∧ _); refine ⟨_, od_neI, ?_⟩)
  | ((with_reducible show ∃ z, OpD _ (compareOp .Is) (.bool _) (.bool _) z ∧ _); refine ⟨_, od_isB, ?_⟩)
  | ((with_reducible show ∃ z, OpD _ (compareOp .Is) (.bool _) (.bool _) (.bool z) ∧ _); refine ⟨_, od_isB, ?_⟩)
  | ((with_reducible show ∃ z, OpD _ (compareOp .IsNot) (.bool _) (.bool _) z ∧ _); refine ⟨_, od_notB, ?_⟩)
  | ((with_reducible show ∃ z, OpD _ (compareOp .IsNot) (.bool _) (.bool _) (.bool z) ∧ _); refine ⟨_, od_notB, ?_⟩)
  | ((with_reducible show ∃ z, OpD _ (binaryOp .Pow) (.int _) (.int _) z ∧ _); refine ⟨_, od_pow (by exact ⟨by decide, by decide, by decide⟩), ?_⟩)
  | ((with_reducible show ∃ z, OpD _ (compareOp .NotEq) (.str _) (.str _) (.bool z) ∧ _); refine ⟨_, od_neS, ?_⟩)
  | ((with_reducible show ∃ z, OpD _ (compareOp .Eq) (.str _) (.str _) (.bool z) ∧ _); refine ⟨_, od_eqS, ?_⟩)
  | ((with_reducible show ∃ z, OpD _ (compareOp .Eq) (.str _) (.str _) z ∧ _); refine ⟨_, od_eqS, ?_⟩)
  | ((with_reducible show ∃ z, UnD _ (unaryOp .USub) (.int _) z ∧ _); refine ⟨_, ud_neg, ?_⟩)
  | ((with_reducible show ∃ i, PyData.int _ = PyData.int i ∧ _); refine ⟨_, rfl, ?_⟩)
  | ((with_reducible show ∃ i, PyData.bool _ = PyData.bool i ∧ _); refine ⟨_, rfl, ?_⟩)
  | ((with_reducible show ∃ i, PyData.tuple _ = PyData.tuple i ∧ _); refine ⟨_, rfl, ?_⟩)
  | ((with_reducible show ∃ i, PyData.list _ = PyData.list i ∧ _); refine ⟨_, rfl, ?_⟩)
  | ((with_reducible show List.length [_] ≤ sizeLine ∧ _); refine ⟨len_le1, ?_⟩)
  | ((with_reducible show List.length [_, _] ≤ sizeLine ∧ _); refine ⟨len_le2, ?_⟩)
  | ((with_reducible show List.length [_, _, _] ≤ sizeLine ∧ _); refine ⟨len_le3, ?_⟩))
section
variable {P : Program} {w : World} {K : PySem.W.Frag} {mg : Str → Option Value} {base : Heap} {f : Addr} {fd : FuncData}
abbrev SpFree : Sp := Dr (fun ds => ∃ r m : Int, ds = [.int r, .int m] ∧ 1 ≤ r ∧ r ≤ 4 ∧ 0 ≤ m ∧ m ≤ 300) (fun ds d => ∃ a : List Tp, d = dS (lst a) ∧ a.length ≤ 300 ∧ ∀ r m : Int, ds = [.int r, .int m] → Gd r a)
abbrev s_l_free : Stmt := topS 99
abbrev n_l_free : List Str := ["_law_deck_here", "_law_r", "_law_most", "_law_way", "_law_numbers", "_law_many", "_law_turn", "_law_room_here", "_law_at"]
theorem sc_l_free : FnScope ["_law_deck_here", "_law_r", "_law_most", "_law_way", "_law_numbers", "_law_many", "_law_turn", "_law_room_here", "_law_at"] ["_law_deck_here", "_law_r", "_law_most"] (defScope s_l_free) := ⟨rfl, rfl, rfl, by decide +kernel, rfl, by decide +kernel, by decide +kernel⟩
theorem ok_l_free (B : Bi mg) (F : Fun K "_law_free" "_law_free" s_l_free f fd) (k1 : KnP P w K mg base "_law_draw" 81 1 ["_law_deck_here", "_law_many"] SpDraw) (k2 : KnP P w K mg base "_law_row" 91 3 ["_law_deck_here", "_law_r", "_law_most"] SpRow) (k3 : KnP P w K mg base "_law_show" 94 2 ["_law_r", "_law_row_here"] SpShow)
    (k4 : KnP P w K mg base "_law_room" 98 4 ["_law_deck_here", "_law_r"] SpRoom) (k5 : KnP P w K mg base "_law_great" 97 3 ["_law_deck_here"] SpGreat) (k6 : KnP P w K mg base "_law_listed" 93 1 ["_law_numbers"] (SpListed w)) :
    FnG P w K mg base 5 f fd ["_law_deck_here", "_law_r", "_law_most"] SpFree := by
  refine ok_dr F sc_l_free (fun ds h => by obtain ⟨_, _, rfl, _⟩ := h; rfl) (by decide) fun cdv A outer s H E hr F ds hw h => ?_
  subst hw
  obtain ⟨r, m, rfl, r1, r4, m0, m3⟩ := h
  have hu9 := hr.ro.units
  have post : ∀ a : List Tp, a.length ≤ 300 → Gd r a → ∃ b : List Tp, dS (lst a) = dS (lst b) ∧ b.length ≤ 300 ∧ ∀ r' m' : Int, [PyData.int r, PyData.int m] = [.int r', .int m'] → Gd r' b := fun a hl g => ⟨a, rfl, hl, fun r' m' e => by
    injection e with e _
    injection e with e
    rw [← e]; exact g⟩
  repeat walk_at "dw"
  refine ws_parD2 (i := 3) (j := 4) rfl rfl sc_l_free.nd rfl rfl (by decide) rfl rfl (by exact (by decide : 3 < 9)) (by exact (by decide : 4 < 9)) (h := ?_)
  refine w_callk (i := 0) (k1.up (by decide)) hr rfl rfl (h := ?_)
  repeat walk_at "dw"
  refine ⟨⟨_, rfl, by decide, by decide⟩, fun d hd => ?_⟩
  obtain ⟨way, rfl, w0, w1⟩ := hd
  repeat walk_at "dw"
  refine DW.ite2 (fun h1 => ?_) fun h1 => ?_
  · repeat walk_at "dw"
    refine w_call (k3.up (by decide)) hr rfl ?_
    repeat walk_at "dw"
    refine w_callk (i := 0) (k2.up (by decide)) hr rfl rfl (h := ?_)
    repeat walk_at "dw"
    refine w_callB rfl B.min PyProof.Rows.boot_min ?_
    repeat walk_at "dw"
    refine ⟨_, cd_min2 rfl, ?_⟩
    repeat walk_at "dw"
    refine ⟨⟨r, _, rfl, r1, r4, by split <;> omega, by split <;> omega⟩, fun d hd => ?_⟩
    obtain ⟨xs, rfl, lx, hx⟩ := hd
    repeat walk_at "dw"
    refine ⟨⟨r, xs, rfl, r1, r4, lx, hx _ _ rfl⟩, fun d hd => ?_⟩
    obtain ⟨a, rfl, la, ga⟩ := hd
    exact post a (by omega) (ga _ _ rfl)
  repeat walk_at "dw"
  refine ws_set (i := 5) sc_l_free.nd rfl (.inl rfl) (by exact (by decide : 5 < 9)) ?_
  refine W.imp (Φ := fun d => ∃ n : Int, d = .int n ∧ 0 ≤ n ∧ n ≤ m) (w_if ?_) fun d hd => ?_
  · repeat walk_at "dw"
    refine w_callk (i := 0) (k1.up (by decide)) hr rfl rfl (h := ?_)
    repeat walk_at "dw"
    refine ⟨⟨_, rfl, by decide, by decide⟩, fun d hd => ?_⟩
    obtain ⟨x, rfl, x0, x1⟩ := hd
    repeat walk_at "dw"
    refine DW.ite2 (fun h1 => ?_) fun h1 => ?_
    · refine w_callk (i := 0) (k1.up (by decide)) hr rfl rfl (h := ?_)
      repeat walk_at "dw"
      refine ⟨⟨_, rfl, by omega, by omega⟩, fun d hd => ?_⟩
      obtain ⟨y, rfl, y0, y1⟩ := hd
      have y1 := y1 _ rfl
      exact ⟨y, rfl, y0, by omega⟩
    · refine w_callB rfl B.min PyProof.Rows.boot_min ?_
      repeat walk_at "dw"
      refine w_callk (i := 0) (k1.up (by decide)) hr rfl rfl (h := ?_)
      repeat walk_at "dw"
      refine ⟨⟨_, rfl, by decide, by decide⟩, fun d hd => ?_⟩
      obtain ⟨y, rfl, y0, y1⟩ := hd
      repeat walk_at "dw"
      refine ⟨_, cd_min2 rfl, _, rfl, ?_, ?_⟩
      · split <;> omega
      · split <;> omega
  obtain ⟨n, rfl, n0, nm⟩ := hd
  repeat walk_at "dw"
  refine ws_for (L := [6]) PassesOwn.never rfl (h := ?_)
  refine it_range1 rfl B.range ?_
  repeat walk_at "dw"
  refine ⟨_, rfl, by omega, by omega, fun i es1 => ∃ (x y z : Sl) (a : List Tp), es1 = [.dk, .d (.int r), .d (.int m), .d (.int way), .od (kvO a), .d (.int n), x, y, z] ∧ (isOwn z = false ∧ ∀ kvs, z ≠ .fd kvs) ∧ Gd r a ∧ a.length ≤ i, ⟨_, _, _, [], rfl, ⟨rfl, fun _ h => nomatch h⟩, gd_nil, Nat.le_refl _⟩, fun i es1 d hd hp => ?_, fun es1 hp => ?_⟩
  · obtain ⟨x, y, z, a, rfl, hz, ga, la⟩ := hp
    have hi : i < n.toNat := by have := (List.getElem?_eq_some_iff.mp hd).1; rw [irng_len] at this; exact this
    rw [irng_at hi] at hd
    cases hd
    refine tg_name (i := 6) sc_l_free.nd rfl (.inl rfl) (by exact (by decide : 6 < 9)) ?_
    repeat walk_at "dw"
    refine ws_set (i := 7) sc_l_free.nd rfl (.inl rfl) (by exact (by decide : 7 < 9)) ?_
    refine W.imp (Φ := fun d => ∃ xs : List Int, d = iv xs ∧ (∀ x ∈ xs, Gb x) ∧ (xs.length : Int) = r) (w_if ?_) fun d hd => ?_
    · repeat walk_at "dw"
      refine DW.ite2 (fun h1 => ?_) fun h1 => ?_
      · refine w_callk (i := 0) (k4.up (by decide)) hr rfl rfl (h := ?_)
        repeat walk_at "dw"
        refine ⟨⟨r, rfl, r1, r4⟩, fun d hd => ?_⟩
        obtain ⟨xs, rfl, h1, h2⟩ := hd
        exact ⟨xs, rfl, h1, h2 _ rfl⟩
      · refine w_callTy rfl B.tup PyProof.Rows.boot_tuple ?_
        refine wa_cons ?_
        refine w_l (wl_lc [("_law_at", 8)] (L := [8]) rfl sc_l_free.nd (blkOk_by (N := n_l_free) (sc := defScope s_l_free) (by decide +kernel)) (by decide) (noOwn8 hz.1 hz.2) (h := ?_))
        refine lc_map (fun d r' => ∃ x : Int, r' = .int x ∧ Gb x) ?_
        refine it_range1 rfl B.range ?_
        repeat walk_at "dw"
        refine ⟨_, rfl, by omega, by omega, by rw [irng_len, sizeLine_eq]; omega, fun d hd F' e1 e2 s H C cl fp => ?_, fun out ho => ?_⟩
        · refine tg_name (i := 8) sc_l_free.nd rfl (.inl rfl) (by exact (by decide : 8 < 9)) ?_
          intro s H C cl fp
          repeat walk_at "dw"
          refine w_callk (i := 0) (k1.up (by decide)) hr rfl rfl (h := ?_)
          repeat walk_at "dw"
          refine ⟨⟨_, rfl, by decide, by decide⟩, fun d hd => ?_⟩
          obtain ⟨y, rfl, y0, y1⟩ := hd
          have y1 := y1 _ rfl
          repeat walk_at "dw"
          exact gb_small (by omega)
        · repeat walk_at "dw"
          obtain ⟨xs, rfl, hl, hg⟩ := outI_all ho
          rw [irng_len] at hl
          exact ⟨_, cd_tuple_l, xs, rfl, hg, by omega⟩
    obtain ⟨room, rfl, gr, lr⟩ := hd
    repeat walk_at "dw"
    refine ws_putD (i := 4) rfl (Nat.lt_of_le_of_lt (Nat.add_le_add_left (by decide : 9 ≤ 64) _) hu9) rfl (hl := by rw [List.length_map, sizeLine_eq]; omega) (h := ?_)
    refine w_callk (i := 0) (k5.up (by decide)) hr rfl rfl (h := ?_)
    repeat walk_at "dw"
    refine ⟨rfl, fun d hd => ?_⟩
    obtain ⟨v, rfl, gv⟩ := hd
    repeat walk_at "dw"
    refine w_callk (i := 0) (k1.up (by decide)) hr rfl rfl (h := ?_)
    repeat walk_at "dw"
    refine ⟨⟨_, rfl, by omega, by omega⟩, fun d hd => ?_⟩
    obtain ⟨j, rfl, j0, j1⟩ := hd
    have j1 := j1 _ rfl
    repeat walk_at "dw"
    refine ⟨asKey_dK (room, 1 + j), ?_⟩
    rw [stored_kvO _ (room, 1 + j)]
    repeat walk_at "dw"
    exact ⟨_, _, _, putT a (room, 1 + j) v, rfl, hz, gd_put ga ⟨lr, by show 1 ≤ 1 + j; omega, by show 1 + j ≤ r; omega⟩ gr gv, by have := putT_len a (room, 1 + j) v; omega⟩
  · obtain ⟨x, y, z, a, rfl, hz, ga, la⟩ := hp
    rw [irng_len] at la
    repeat walk_at "dw"
    refine w_callF (i := 4) (k6.up (by decide)) hr rfl rfl ⟨⟨_, rfl, by omega⟩, fun d hd => ?_⟩
    obtain rfl := hd _ rfl
    exact post a (by omega) ga
end
end A7
namespace A7
open PySem PySem.W L2 RZ PyProof.Rows DW K9 A3
local macro_rules | `(tactic| walk_at "dw") => `(tactic| first
  | ((with_reducible show W _ _ (.Name _ _) _ _); first
    | refine w_var (i := 0) rfl (q := ?_)
    | refine w_var (i := 1) rfl (q := ?_)
    | refine w_var (i := 2) rfl (q := ?_)
    | refine w_var (i := 3) rfl (q := ?_)
    | refine w_var (i := 4) rfl (q := ?_)
    | refine w_var (i := 5) rfl (q := ?_)
    | refine w_var (i := 6) rfl (q := ?_)
    | refine w_var (i := 7) rfl (q := ?_)
    | refine w_var (i := 8) rfl (q := ?_)
    | refine w_var (i := 9) rfl (q := ?_)
    | refine w_var (i := 10) rfl (q := ?_)
    | refine w_var (i := 11) rfl (q := ?_)
    | refine w_var (i := 12) rfl (q := ?_)
    | refine w_var (i := 13) rfl (q := ?_)
    | refine w_var (i := 14) rfl (q := ?_)
    | refine w_var (i := 15) rfl (q := ?_))
  | ((with_reducible show W _ _ (.Constant (.int _) _ _) _ _); refine w_int ?_)
  | ((with_reducible show W _ _ (.Constant (.bool _) _ _) _ _); refine w_bool ?_)
  | ((with_reducible show W _ _ (.Constant .none _ _) _ _); refine w_none ?_)
  | ((with_reducible show W _ _ (.Constant (.str _) _ _) _ _); refine w_str ?_)
  | ((with_reducible show W _ _ (.BoolOp .And (_ :: _ :: _) _) _ _); refine w_andV ?_)
  | ((with_reducible show W _ _ (.BoolOp .Or (_ :: _ :: _) _) _ _); refine w_orV ?_)
  | ((with_reducible show W _ _ (.BoolOp _ [_] _) _ _); refine w_one ?_)
  | ((with_reducible show W _ _ (.UnaryOp .Not _ _) _ _); refine w_notV ?_)
  | ((with_reducible show W _ _ (.UnaryOp .USub _ _) _ _); refine w_un ?_)
  | ((with_reducible show W _ _ (.BinOp _ _ _ _) _ _); refine w_bin ?_)
  | ((with_reducible show W _ _ (.Tuple _ _ _) _ _); refine w_tup ?_)
  | ((with_reducible show W _ _ (.Compare _ [_] _ _) _ _); refine w_cmp (h := ?_))
  | ((with_reducible show W _ _ (.Compare _ [_, _] _ _) _ _); refine w_chain (h := ?_))
  | ((with_reducible show T _ _ (.Compare _ [_] _ _) _ _); refine t_cmp (h := ?_))
  | ((with_reducible show T _ _ (.Compare _ [_, _] _ _) _ _); refine t_chain (h := ?_))
  | ((with_reducible show T _ _ (.UnaryOp .Not _ _) _ _); refine t_not ?_)
  | ((with_reducible show T _ _ (.Call _ _ _ _) _ _); refine t_val ?_)
  | ((with_reducible show T _ _ (.BoolOp .And _ _) _ _); refine t_w ?_)
  | ((with_reducible show T _ _ (.BoolOp .Or _ _) _ _); refine t_w ?_)
  | ((with_reducible show T _ _ (.Name _ _) _ _); refine t_val ?_)
  | ((with_reducible show TW _ _ (.BoolOp .And [_] _) _ _); refine tw_and1 ?_)
  | ((with_reducible show TW _ _ (.BoolOp .Or [_] _) _ _); refine tw_or1 ?_)
  | ((with_reducible show TW _ _ (.BoolOp .And (_ :: _ :: _) _) _ _); refine tw_and ?_)
  | ((with_reducible show TW _ _ (.BoolOp .Or (_ :: _ :: _) _) _ _); refine tw_or ?_)
  | ((with_reducible show WS _ _ (.Return (some _) _) _ _); refine ws_ret ?_)
  | ((with_reducible show WS _ _ (.If _ _ _ _) _ _); refine ws_if ?_)
  | ((with_reducible show WS _ _ (.Pass _) _ _); refine ws_pass ?_)
  | ((with_reducible show WA _ _ [] _ _); refine wa_nil ?_)
  | ((with_reducible show WA _ _ (_ :: _) _ _); refine wa_cons ?_)
  | ((with_reducible show WK _ _ [] _ _); refine wk_nil ?_)
  | ((with_reducible show WK _ _ (_ :: _) _ _); refine wk_cons ?_)
  | ((with_reducible show WP _ _ none _ _); refine wp_none ?_)
  | ((with_reducible show WP _ _ (some _) _ _); refine wp_some ?_)
  | ((with_reducible show WB _ _ [] _ _); refine wb_nil ?_)
  | ((with_reducible show WB _ _ (_ :: _) _ _); refine wb_cons ?_)
  | ((with_reducible show WB _ _ (defBody _) _ _); refine wb_cons ?_)
  | ((with_reducible show ∃ z, OpD _ (binaryOp .Add) (.int _) (.int _) z ∧ _); refine ⟨_, od_add, ?_⟩)
  | ((with_reducible show ∃ z, OpD _ (binaryOp .Sub) (.int _) (.int _) z ∧ _); refine ⟨_, od_sub, ?_⟩)
  | ((with_reducible show ∃ z, OpD _ (compareOp .Lt) (.int _) (.int _) z ∧ _); refine ⟨_, od_lt, ?_⟩)
  | ((with_reducible show ∃ z, OpD _ (compareOp .Lt) (.int _) (.int _) (.bool z) ∧ _); refine ⟨_, od_lt, ?_⟩)
  | ((with_reducible show ∃ z, OpD _ (compareOp .LtE) (.int _) (.int _) z ∧ _); refine ⟨_, od_le, ?_⟩)
  | ((with_reducible show ∃ z, OpD _ (compareOp .LtE) (.int _) (.int _) (.bool z) ∧ _); refine ⟨_, od_le, ?_⟩)
  | ((with_reducible show ∃ z, OpD _ (compareOp .Gt) (.int _) (.int _) z ∧ _); refine ⟨_, od_gt, ?_⟩)
  | ((with_reducible show ∃ z, OpD _ (compareOp .Gt) (.int _) (.int _) (.bool z) ∧ _); refine ⟨_, od_gt, ?_⟩)
  | ((with_reducible show ∃ z, OpD _ (compareOp .GtE) (.int _) (.int _) z ∧ _); refine ⟨_, od_ge, ?_⟩)
  | ((with_reducible show ∃ z, OpD _ (compareOp .GtE) (.int _) (.int _) (.bool z) ∧ _); refine ⟨_, od_ge, ?_⟩)
  | ((with_reducible show ∃ z, OpD _ (compareOp .Eq) (.int _) (.int _) z ∧ _); refine ⟨_, od_eqI, ?_⟩)
  | ((with_reducible show ∃ z, OpD _ (compareOp .Eq) (.int _) (.int _) (.bool z) ∧ _); refine ⟨_, od_eqI, ?_⟩)
  | ((with_reducible show ∃ z, OpD _ (compareOp .NotEq) (.int _) (.int _) z ∧ _); refine ⟨_, od_neI, ?_⟩)
  | ((with_reducible show ∃ z, OpD _ (compareOp .NotEq) (.int _) (.int _) (.bool z) ∧ _); refine ⟨_, od_neI, ?_⟩)
  | ((with_reducible show ∃ z, OpD _ (compareOp .Is) (.bool _) (.bool _) z ∧ _); refine ⟨_, od_isB, ?_⟩)
  | ((with_reducible show ∃ z, OpD _ (compareOp .Is) (.bool _) (.bool _) (.bool z) ∧ _); refine ⟨_, od_isB, ?_⟩)
  | ((with_reducible show ∃ z, OpD _ (compareOp .IsNot) (.bool _) (.bool _) z ∧ _); refine ⟨_, od_notB, ?_⟩)
  | ((with_reducible show ∃ z, OpD _ (compareOp .IsNot) (.bool _) (.bool _) (.bool z) ∧ _); refine ⟨_, od_notB, ?_⟩)
  | ((with_reducible show ∃ z, OpD _ (binaryOp .Pow) (.int _) (.int _) z ∧ _); refine ⟨_, od_pow (by exact ⟨by decide, by decide, by decide⟩), ?_⟩)
  | ((with_reducible show ∃ z, OpD _ (compareOp .NotEq) (.str _) (.str _) (.bool z) ∧ _); refine ⟨_, od_neS, ?_⟩)
  | ((with_reducible show ∃ z, OpD _ (compareOp .Eq) (.str _) (.str _) (.bool z) ∧ _); refine ⟨_, od_eqS, ?_⟩)
  | ((with_reducible show ∃ z, OpD _ (compareOp .Eq) (.str _) (.str _) z ∧ _); refine ⟨_, od_eqS, ?_⟩)
  | ((with_reducible show ∃ z, UnD _ (unaryOp .USub) (.int _) z ∧ _); refine ⟨_, ud_neg, ?_⟩)
  | ((with_reducible show ∃ i, PyData.int _ = PyData.int i ∧ _); refine ⟨_, rfl, ?_⟩)
  | ((with_reducible show ∃ i, PyData.bool _ = PyData.bool i ∧ _); refine ⟨_, rfl, ?_⟩)
  | ((with_reducible show ∃ i, PyData.tuple _ = PyData.tuple i ∧ _); refine ⟨_, rfl, ?_⟩)
  | ((with_reducible show ∃ i, PyData.list _ = PyData.list i ∧ _); refine ⟨_, rfl, ?_⟩)
  | ((with_reducible show List.length [_] ≤ sizeLine ∧ _); refine ⟨len_le1, ?_⟩)
  | ((with_reducible show List.length [_, _] ≤ sizeLine ∧ _); refine ⟨len_le2, ?_⟩)
  | ((with_reducible show List.length [_, _, _] ≤ sizeLine ∧ _); refine ⟨len_le3, ?_⟩))
section
variable {P : Program} {w : World} {K : PySem.W.Frag} {mg : Str → Option Value} {base : Heap} {f : Addr} {fd : FuncData}
abbrev SpDeck (K : PySem.W.Frag) : Sp := fun vs H Q _ => ∃ (a : Addr) (ns : List Int), vs = [.ref a] ∧ SqL K H a (ns.map V.int) ∧ ∀ d c H', (∀ b o, H b = some o → H' b = some o) → H d = none → H c = none → d ≠ c → Dk d c H' → Q (.ref d) H'
abbrev s_l_deck : Stmt := topS 80
abbrev n_l_deck : List Str := ["_law_script", "_law_mixed", "_law_cell"]
theorem sc_l_deck : FnScope ["_law_script", "_law_mixed", "_law_cell"] ["_law_script"] (defScope s_l_deck) := ⟨rfl, rfl, rfl, by decide +kernel, rfl, by decide +kernel, by decide +kernel⟩
theorem ok_l_deck (B : Bi mg) (F : Fun K "_law_deck" "_law_deck" s_l_deck f fd) : FnG P w K mg base 1 f fd ["_law_script"] (SpDeck K) := by
  refine ok_g F sc_l_deck (fun vs H Q E h => by obtain ⟨_, _, rfl, _⟩ := h; rfl) (fun cdv A outer s H vs Q E hr h => ?_)
  obtain ⟨a, ns, rfl, hS, q⟩ := h
  have nd := sc_l_deck.nd
  refine ⟨_, pss_cons (ps_set (i := 1) nd rfl (.inl rfl) pe_int)
    (pss_cons (ps_for PassesOwn.never rfl (pi_list (pe_slice sl_list (pv 0) po_none (po_some pe_int))) (pg_name (i := 2) nd rfl (.inl rfl))
      (pss_one (ps_set (i := 1) nd rfl (.inl rfl) (pe_op op_mod (pe_callTy call_int1 rfl B.int PyProof.Rows.boot_int (pa_cons (pe_op op_add (pe_op op_add (pe_op op_mul (pv 1) pe_int) (pe_op op_mod (pe_callTy call_int1 rfl B.int PyProof.Rows.boot_int (pa_cons (pv 2) pa_nil)) pe_int)) pe_int) pa_nil)) pe_int))))
    (pss_one (ps_ret (pe_disp (pps_cons pe_str (pe_revL (pe_callTy call_list_of rfl B.list PyProof.Rows.boot_list (pa_cons (pe_slice sl_list (pv 0) po_none (po_some pe_int)) pa_nil))) (pps_cons pe_str (pv 1) (pps_cons pe_str pe_int pps_nil))) rfl rfl (by decide) (by decide))))), ?_⟩
  refine ⟨.ref a, rfl, 63, rfl, a, ns.map V.int, rfl, hS, fun p hp => ?_⟩
  obtain ⟨ms, e1, hm⟩ := cutV63 ns
  rw [e1]
  have x1 : ∀ b o, H b = some o → upd H p (.lst (ms.map V.int)) b = some o := fun b o e => by rw [upd_ne (ne_of_none e hp)]; exact e
  refine ⟨p, rfl, ⟨_, SqL.of upd_same⟩, for_list (xs := ms.map V.int) (fun i σ H1 => ∃ (m : Int) (z : Option V), σ = [some (.ref a), some (.int m), z] ∧ H1 = upd H p (.lst (ms.map V.int))) ⟨_, none, rfl, rfl⟩ (fun i σ H1 _ ⟨_, _, _, e⟩ => by rw [e]; exact SqL.of upd_same) (fun i x σ H1 hx hv => ?_) fun σ H1 hv => ?_⟩
  · obtain ⟨m, z, rfl, rfl⟩ := hv
    rw [List.getElem?_map] at hx
    obtain ⟨n, hn, rfl⟩ := Option.map_eq_some_iff.mp hx
    refine ⟨_, rfl, _, 69621, rfl, rfl, .inr ⟨by decide, by decide⟩, _, rfl, .inl ⟨_, rfl, _, 2147483629, rfl, rfl, (show (0 : Int) < 2147483629 from by decide), _, _, rfl, rfl, _, 73, rfl, rfl, .inl ⟨_, rfl, _, 2147483587, rfl, rfl, (show (0 : Int) < 2147483587 from by decide), ?_⟩⟩⟩
    exact ⟨_, _, rfl, rfl⟩
  · obtain ⟨m, z, rfl, rfl⟩ := hv
    intro d hd
    have gr : ∀ {H0 H1 : Hp} {b : Addr} {o : HO}, (∀ b o, H0 b = some o → H1 b = some o) → H1 b = none → ∀ c u, H0 c = some u → upd H1 b o c = some u := fun e n c u h => by rw [upd_ne (ne_of_none (e c u h) n)]; exact e c u h
    have no : ∀ {H0 H1 : Hp} {b : Addr}, (∀ b o, H0 b = some o → H1 b = some o) → H1 b = none → H0 b = none := fun {H0 H1 b} e n => by
      cases z : H0 b with
      | none => rfl
      | some o => rw [e b o z] at n; cases n
    have x2 := gr (o := .dK []) x1 hd
    have d2 : upd (upd H p (.lst (ms.map V.int))) d (.dK []) d = some (.dK []) := upd_same
    generalize upd (upd H p (.lst (ms.map V.int))) d (.dK []) = H2 at x2 d2 ⊢
    refine ⟨.ref a, rfl, 63, rfl, a, ns.map V.int, rfl, seq_up x2 hS, fun p1 hp1 => ?_⟩
    have x3 := gr (o := .lst (cutV (ns.map V.int) none (some 63))) x2 hp1
    have d3 : upd H2 p1 (.lst (cutV (ns.map V.int) none (some 63))) d = some (.dK []) := by rw [upd_ne (ne_of_none d2 hp1)]; exact d2
    refine ⟨p1, _, rfl, .inl (SqL.of upd_same), fun l hl => ⟨l, _, rfl, SqL.of upd_same, fun c hc => ?_⟩⟩
    have x4 := gr (o := .lst (cutV (ns.map V.int) none (some 63))) x3 hl
    have d4 : upd (upd H2 p1 (.lst (cutV (ns.map V.int) none (some 63)))) l (.lst (cutV (ns.map V.int) none (some 63))) d = some (.dK []) := by rw [upd_ne (ne_of_none d3 hl)]; exact d3
    have x5 := gr (o := .lst (cutV (ns.map V.int) none (some 63)).reverse) x4 hc
    have d5 : upd (upd (upd H2 p1 (.lst (cutV (ns.map V.int) none (some 63)))) l (.lst (cutV (ns.map V.int) none (some 63)))) c (.lst (cutV (ns.map V.int) none (some 63)).reverse) d = some (.dK []) := by rw [upd_ne (ne_of_none d4 hc)]; exact d4
    have hdc : d ≠ c := ne_of_none d4 hc
    have hH : H d = none := no x1 hd
    have hC : H c = none := no x4 hc
    refine ⟨_, rfl, d5, [(kCells, .ref c), (kMixed, .int m), (kDraws, .int 0)], rfl, by show 3 ≤ 15; decide, ?_⟩
    rw [disp3]
    refine q d c _ (fun b o e => ?_) hH hC hdc ⟨ms.reverse, m, 0, upd_same, ?_, by rw [List.length_reverse]; omega⟩
    · rw [upd_ne (ne_of_none e hH)]
      exact x5 b o e
    · rw [upd_ne hdc.symm, upd_same, e1, List.map_reverse]
end
end A7
namespace K4
open PySem PySem.W L2 RZ PyProof.Rows DW K9
structure Be (mg : Str → Option Value) : Prop where
  b : Bi mg
  en : mg "enumerate" = none
theorem bg_of {x : Int} {n : Nat} (h : x.natAbs ≤ n) (hn : n < 2 ^ 64) : Bg x := Nat.lt_of_lt_of_le (Nat.lt_of_le_of_lt h hn) (Nat.pow_le_pow_right (by decide) (by decide))
theorem mulW {x y : Int} (h : Bg x) (g : Bg y) : CMulW x y := wide_mul h g (by decide) (by decide) (by decide)
theorem rep_iv (n : Nat) : PyData.tuple (List.replicate n (PyData.int 0)) = iv (List.replicate n 0) := by rw [show iv (List.replicate n 0) = .tuple ((List.replicate n (0 : Int)).map PyData.int) from rfl, List.map_replicate]
abbrev SpWhole : Sp := Pu (fun ds => ∃ i, ds = [.int i]) (fun _ d => d = .bool true)
abbrev SpIsStep : Sp := Pu (fun ds => ∃ r s : Int, ds = [.int r, .int s] ∧ StOk r s) (fun _ d => d = .bool true)
abbrev SpBegin : Sp := Pu (fun ds => ∃ r : Int, ds = [.int r] ∧ 1 ≤ r ∧ r ≤ 4) (fun ds d => ∀ r : Int, ds = [.int r] → d = iv (org r))
abbrev Two (g : List Int → List Int → List Int) : Sp := Pu (fun ds => ∃ x y : List Int, ds = [iv x, iv y] ∧ x.length ≤ 4 ∧ y.length ≤ 4) (fun ds d => ∀ x y : List Int, ds = [iv x, iv y] → d = iv (g x y))
abbrev SpPlusR : Sp := Two fun x y => List.zipWith (· + ·) x y
abbrev SpLessR : Sp := Two lsR
abbrev SpTimR : Sp := Pu (fun ds => ∃ (n : Int) (xs : List Int), ds = [.int n, iv xs] ∧ xs.length ≤ 4 ∧ Bg n ∧ ∀ x ∈ xs, Bg x) (fun ds d => ∀ (n : Int) (xs : List Int), ds = [.int n, iv xs] → d = iv (xs.map (n * ·)))
abbrev SpStp : Sp := Pu (fun ds => ∃ (xs : List Int) (s : Int), ds = [iv xs, .int s] ∧ xs.length ≤ 4 ∧ StOk xs.length s) (fun ds d => ∀ (xs : List Int) (s : Int), ds = [iv xs, .int s] → d = iv (stp xs s))
abbrev SpAhead : Sp := Pu (fun ds => ∃ xs : List Int, ds = [iv xs] ∧ xs.length ≤ 4 ∧ isZ xs = false) (fun ds d => ∀ xs : List Int, ds = [iv xs] → d = .bool (decide (0 < lead xs)))
abbrev RowP (ds : List D) : Prop := ∃ (r : Int) (row : List Int), ds = [.int r, iv row] ∧ 1 ≤ r ∧ r ≤ 4 ∧ AllS r row ∧ row.length ≤ 40
abbrev SpIsRow : Sp := Pu RowP (fun _ d => d = .bool true)
abbrev SpChkRow : Sp := Pu RowP (fun _ d => True)
abbrev SpEnd : Sp := Pu RowP (fun ds d => ∀ (r : Int) (row : List Int), ds = [.int r, iv row] → d = iv (we (org r) row))
abbrev SpShowOf : Sp := Pu RowP (fun ds d => ∀ (r : Int) (row : List Int), ds = [.int r, iv row] → d = dS (sh r row))
abbrev SpTold (w : World) : Sp := Fz w (fun kvs => ∃ a : List Tp, kvs = kvO a ∧ a.length ≤ 100000) (fun kvs d => ∀ a : List Tp, kvs = kvO a → d = dS (lst a))
abbrev SpShWith (w : World) : Sp := Fz w (fun kvs => ∃ a : List Tp, kvs = kvO a ∧ a.length ≤ 100000) (fun kvs d => ∀ a : List Tp, kvs = kvO a → d = dS (canon a))
abbrev SpMvB : Sp := Pu (fun ds => ∃ (s : List Tp) (rm : List Int), ds = [dS s, iv rm] ∧ s.length ≤ 40 ∧ (∀ t ∈ s, t.1.1.length ≤ 4) ∧ rm.length ≤ 4) (fun ds d => ∀ (s : List Tp) (rm : List Int), ds = [dS s, iv rm] → d = dS (mvS rm s))
/-- a room along another one: bounds -/
def AlP (x d : List Int) : Prop := x.length = d.length ∧ 1 ≤ d.length ∧ d.length ≤ 4 ∧ Nb 1000000 x ∧ Nb 40 d
abbrev SpAlong : Sp := Pu (fun ds => ∃ x d : List Int, ds = [iv x, iv d] ∧ AlP x d ∧ isZ d = false) (fun ds v => ∀ x d : List Int, ds = [iv x, iv d] → v = .tuple [iv (frs x d), .int (mlt x d)])
abbrev SpFst : Sp := Pu (fun ds => ∃ x d : List Int, ds = [iv x, iv d] ∧ AlP x d ∧ isZ d = false) (fun ds v => ∀ x d : List Int, ds = [iv x, iv d] → v = iv (frs x d))
abbrev SpFrs : Sp := Pu (fun ds => ∃ x d : List Int, ds = [iv x, iv d] ∧ AlP x d) (fun ds v => ∀ x d : List Int, ds = [iv x, iv d] → v = iv (frs x d))
abbrev ShwP (s : List Tp) (d : List Int) : Prop := s.length ≤ 40 ∧ ∀ t ∈ s, AlP t.1.1 d
abbrev SpRb : Sp := Pu (fun ds => ∃ (s : List Tp) (d : List Int), ds = [dS s, iv d] ∧ ShwP s d) (fun ds v => ∀ (s : List Tp) (d : List Int), ds = [dS s, iv d] → v = dS (rbS s d))
abbrev SpRl : Sp := Pu (fun ds => ∃ (s : List Tp) (d : List Int), ds = [dS s, iv d] ∧ ShwP s d ∧ isZ d = false) (fun ds v => ∀ (s : List Tp) (d : List Int), ds = [dS s, iv d] → v = dS (rlS s d))
abbrev SpFold : Sp := Pu (fun ds => ∃ (s : List Tp) (d : List Int), ds = [dS s, iv d] ∧ ShwP s d ∧ d.length ≤ 4) (fun ds v => ∀ (s : List Tp) (d : List Int), ds = [dS s, iv d] → v = dS (fold s d))
end K4
namespace K4
open PySem PySem.W L2 RZ PyProof.Rows DW K9
theorem jx_zero {d : List Int} {n : Nat} (h : n < jx d) : d.getD n 0 = 0 := by
  have := List.not_of_lt_findIdx h
  have hl : n < d.length := Nat.lt_of_lt_of_le h List.findIdx_le_length
  rw [List.getD_eq_getElem?_getD, List.getElem?_eq_getElem hl]
  simpa using this
theorem ls_mul (x d : List Int) (m : Int) : lsR x (d.map (m * ·)) = List.zipWith (fun a b => a - m * b) x d := by
  unfold lsR
  rw [List.zipWith_map_right]
theorem isZ_org {d : List Int} : isZ d = true ↔ d = List.replicate d.length 0 := by
  unfold isZ
  rw [List.all_eq_true]
  constructor
  · intro h
    exact List.eq_replicate_iff.mpr ⟨rfl, fun x hx => of_decide_eq_true (h x hx)⟩
  · intro h x hx
    rw [h] at hx
    exact decide_eq_true (List.mem_replicate.mp hx).2
theorem at_int {xs : List Int} {n : Nat} (h : n < xs.length) : atI (xs.map PyData.int) (n : Int) = some (.int (xs.getD n 0)) := atI_nat (by rw [List.getElem?_map, List.getD_eq_getElem?_getD, List.getElem?_eq_getElem h]; rfl)
theorem out_map {α : Type} {g h : α → D} (inj : ∀ a b, g a = g b → h a = h b) : ∀ {l : List α} {out : List D}, Paired (fun d r => ∃ a, d = g a ∧ r = h a) (l.map g) out → out = l.map h
  | [], _, p => by cases p; rfl
  | a :: l, _, p => by
    cases p with
    | cons h1 h2 =>
      obtain ⟨b, e, rfl⟩ := h1
      rw [List.map_cons, ← out_map inj h2, inj a b e]
theorem flt_map {α : Type} {g : α → D} {p : D → Bool} {p' : α → Bool} (hp : ∀ a, p (g a) = p' a) (l : List α) : (l.map g).filter p = (l.filter p').map g := by
  rw [List.filter_map]
  congr 1
  congr 1
  funext a
  exact hp a
def pP (i n : Int) : D → Bool
  | .tuple [_, .int k, .int c] => decide (k = i) && decide (c = n)
  | _ => false
def unI : D → Int
  | .int i => i
  | _ => 0
def unIv : D → List Int
  | .tuple xs => xs.map unI
  | _ => []
theorem unIv_iv (m : List Int) : unIv (iv m) = m := by
  show (m.map PyData.int).map unI = m
  rw [List.map_map]
  show m.map (fun x => x) = m
  exact List.map_id' m
theorem eqv_dT (a b : Tp) : PyData.eqv (dT a) (dT b) = decide (a = b) := by
  simp only [PyData.eqv, PyData.eqvAll, eqv_ints]
  obtain ⟨⟨x, i⟩, n⟩ := a
  obtain ⟨⟨y, j⟩, m⟩ := b
  by_cases h1 : x = y <;> by_cases h2 : i = j <;> by_cases h3 : n = m <;> simp [h1, h2, h3]
theorem eqv_dSL : ∀ a b : List Tp, PyData.eqvAll (a.map dT) (b.map dT) = decide (a = b)
  | [], [] => by simp [PyData.eqvAll]
  | [], _ :: _ => by simp [PyData.eqvAll]
  | _ :: _, [] => by simp [PyData.eqvAll]
  | x :: xs, y :: ys => by
    rw [List.map_cons, List.map_cons, PyData.eqvAll, eqv_dSL xs ys, eqv_dT]
    by_cases h : x = y <;> by_cases h' : xs = ys <;> simp [h, h']
theorem eqv_dS (a b : List Tp) : PyData.eqv (dS a) (dS b) = decide (a = b) := by rw [PyData.eqv, eqv_dSL]
theorem eqv_nil (a : List Tp) : PyData.eqv (dS a) (.tuple []) = decide (a = []) := eqv_dS a []
theorem canLay_dT (a : Tp) : PyData.canLay0 (dT a) = true := by simp [PyData.canLay0, PyData.canLayAll0, canLay_ints]
theorem canLay_dSL : ∀ a : List Tp, PyData.canLayAll0 (a.map dT) = true
  | [] => by simp [PyData.canLayAll0]
  | x :: xs => by rw [List.map_cons, PyData.canLayAll0, canLay_dSL xs, canLay_dT]; rfl
theorem shaped_dS (a : List Tp) : SeqAt.shaped (dS a) = true := by
  have := depth_dS a
  unfold SeqAt.shaped
  rw [Bool.and_eq_true]
  exact ⟨by rw [PyData.canLay0]; exact canLay_dSL a, decide_eq_true (by omega)⟩
theorem shaped_nil : SeqAt.shaped (.tuple []) = true := shaped_dS []
theorem iv_injf : ∀ a b : List Int, iv a = iv b → iv a = iv b := fun _ _ h => h
theorem wb_cut {F : Fc} {X : Cx} {s : Stmt} {ss : List Stmt} {es : List Sl} {K : Ek} (Q : List Sl → Prop) (h1 : WS F X s es { nx := Q, rt := K.rt }) (h2 : ∀ es', Q es' → WB F X ss es' K) : WB F X (s :: ss) es K := wb_cons fun σ H D sg g => h1 σ H D sg ⟨fun σ' H' es' s' t q => g.nx σ' H' es' s' t (h2 es' q), g.rt, fun _ _ _ _ _ z => z.elim, fun _ _ _ _ _ z => z.elim⟩
end K4
namespace K4
open PySem PySem.W L2 RZ PyProof.Rows DW K9
structure RmB (d : List Int) (b : Nat) (s : List Tp) : Prop where
  each : ∀ t ∈ s, t.1.1.length = d.length ∧ Nb b t.1.1
  len : s.length ≤ 40
structure DkB (d : List Int) : Prop where
  d1 : 1 ≤ d.length
  d4 : d.length ≤ 4
  nd : Nb 40 d
theorem rm_shw {d : List Int} {b : Nat} {s : List Tp} (h : RmB d b s) (g : DkB d) (hb : b ≤ 1000000) : ShwP s d := ⟨h.len, fun t ht => ⟨(h.each t ht).1, g.d1, g.d4, nb_up (h.each t ht).2 hb, g.nd⟩⟩
theorem rm_fo {r : Int} {d : List Int} {b c : Nat} {s : List Tp} (h : Fo r b s) (hd : (d.length : Int) = r) (hb : b ≤ c) : RmB d c s := ⟨fun t ht => ⟨by have := (h.each t ht).1.1; omega, nb_up (h.each t ht).2 hb⟩, h.len⟩
theorem rm_mv {d m : List Int} {a b : Nat} {s : List Tp} (h : RmB d a s) (hm : m.length = d.length) (nm : Nb b m) : RmB d (a + b) (mvS m s) := by
  refine ⟨fun t ht => ?_, by unfold mvS; rw [List.length_map]; exact h.len⟩
  obtain ⟨u, hu, rfl⟩ := List.mem_map.mp ht
  obtain ⟨h1, h2⟩ := h.each u hu
  exact ⟨by show (List.zipWith (· + ·) u.1.1 m).length = _; rw [List.length_zipWith]; omega, pl_nb h2 nm⟩
theorem nearB {F G : List Tp} {d : List Int} {b : Nat} (hF : RmB d b F) (hG : RmB d b G) (g : DkB d) : ∀ m ∈ nearS F G d, m.length = d.length ∧ Nb ((b + b) * 41) m := by
  intro m hm
  have hm := List.mem_mergeSort.mp hm
  cases F with
  | nil => cases hm
  | cons t F =>
    obtain ⟨u, hu, rfl⟩ := List.mem_map.mp hm
    obtain ⟨h1, h2⟩ := hG.each u (List.mem_filter.mp hu).1
    obtain ⟨h3, h4⟩ := hF.each t List.mem_cons_self
    have e1 : u.1.1.length = t.1.1.length := by omega
    have e2 := ls_len e1
    exact ⟨by rw [frs_len (by omega), e2]; exact h1, frs_nb (ls_nb h2 h4) g.nd⟩
theorem nearS_len {F G : List Tp} {d : List Int} : (nearS F G d).length ≤ G.length := by unfold nearS; rw [List.length_mergeSort]; exact near_len
abbrev SpMvA : Sp := Pu (fun ds => ∃ (s : List Tp) (m d : List Int), ds = [dS s, iv m, iv d] ∧ RmB d 2000 s ∧ DkB d ∧ m.length = d.length ∧ Nb 200000 m) (fun ds v => ∀ (s : List Tp) (m d : List Int), ds = [dS s, iv m, iv d] → v = dS (rbS (mvS m s) d))
abbrev SpTest : Sp := Pu (fun ds => ∃ (F G : List Tp) (d : List Int), ds = [dS F, dS G, iv d] ∧ RmB d 2000 F ∧ RmB d 2000 G ∧ DkB d) (fun ds v => ∀ (F G : List Tp) (d : List Int), ds = [dS F, dS G, iv d] → v = .list ((nearS F G d).map iv))
abbrev SpNear : Sp := Pu (fun ds => ∃ (F G : List Tp) (d : List Int), ds = [dS F, dS G, iv d] ∧ RmB d 2000 F ∧ RmB d 2000 G ∧ DkB d ∧ F ≠ []) (fun ds v => ∀ (F G : List Tp) (d : List Int), ds = [dS F, dS G, iv d] → v = .list ((nearS F G d).map iv))
abbrev Row2 (ds : List D) : Prop := ∃ (r : Int) (one other : List Int), ds = [.int r, iv one, iv other] ∧ 1 ≤ r ∧ r ≤ 4 ∧ AllS r one ∧ one.length ≤ 40 ∧ AllS r other ∧ other.length ≤ 40
abbrev SpLead : Sp := Pu Row2 (fun ds v => ∀ (r : Int) (one other : List Int), ds = [.int r, iv one, iv other] → v = leadD r one other)
abbrev SpLed : Sp := Pu Row2 (fun ds v => ∀ (r : Int) (one other : List Int), ds = [.int r, iv one, iv other] → v = .bool (!PyData.eqv (leadD r one other) (.tuple [])))
theorem dS_cons {t : Tp} {s : List Tp} : dS (t :: s) = .tuple (dT t :: s.map dT) := rfl
theorem atI_zero {d : D} {ds : List D} : atI (d :: ds) 0 = some d := atI_nat (j := 0) rfl
theorem alike_iv (a b : List Int) : alike (iv a) (iv b) = true := by have := K9.alike_ints a b; rw [alike]; exact this
theorem all_iv {L : List (List Int)} : AllAlike (L.map iv) := fun d hd d' hd' => by
  obtain ⟨a, _, rfl⟩ := List.mem_map.mp hd
  obtain ⟨b, _, rfl⟩ := List.mem_map.mp hd'
  exact alike_iv a b
theorem sortable_iv {L : List (List Int)} (h : ∀ a ∈ L, 1 ≤ a.length) : Sortable (L.map iv) := .inl fun d hd => by
  obtain ⟨a, ha, rfl⟩ := List.mem_map.mp hd
  have := h a ha
  cases a with
  | nil => exact absurd this (by decide)
  | cons x a => exact ⟨_, _, rfl⟩
theorem nearL_pos {F G : List Tp} {d : List Int} {b : Nat} (hF : RmB d b F) (hG : RmB d b G) (g : DkB d) : ∀ m ∈ nearL F G d, 1 ≤ m.length := fun m hm => by
  have := (nearB hF hG g m (List.mem_mergeSort.mpr hm)).1
  have := g.d1
  omega
theorem depth_iv {L : List (List Int)} : ∀ d ∈ L.map iv, d.depth ≤ 8 := fun d hd => by
  obtain ⟨a, _, rfl⟩ := List.mem_map.mp hd
  have := K9.depth_ints a
  simp only [PyData.depth]
  omega
theorem iv_eq {a b : List Int} : iv a = iv b ↔ a = b := ⟨iv_inj, fun h => by rw [h]⟩
theorem lead_none {r : Int} {one other : List Int} (h1 : we (org r) one = we (org r) other) (h2 : fold (sh r one) (we (org r) one) = []) (h3 : fold (sh r other) (we (org r) one) = []) : leadD r one other = .none := by unfold leadD; rw [if_pos h1, if_pos h2, if_pos h3]
theorem lead_nil {r : Int} {one other : List Int} (h1 : we (org r) one = we (org r) other) (h2 : fold (sh r one) (we (org r) one) = []) (h3 : fold (sh r other) (we (org r) one) ≠ []) : leadD r one other = .tuple [] := by unfold leadD; rw [if_pos h1, if_pos h2, if_neg h3]
theorem lead_some {r : Int} {one other : List Int} (h1 : we (org r) one = we (org r) other) (h2 : fold (sh r one) (we (org r) one) ≠ []) : leadD r one other = .tuple ((leadL (fold (sh r one) (we (org r) one)) (fold (sh r other) (we (org r) one)) (we (org r) one)).map iv) := by unfold leadD; rw [if_pos h1, if_neg h2]
theorem lead_out {r : Int} {one other : List Int} (h1 : we (org r) one ≠ we (org r) other) : leadD r one other = .tuple [] := by unfold leadD; rw [if_neg h1]
theorem leadL_nil {G : List Tp} {d : List Int} : leadL [] G d = [] := by
  show ((([] : List (List Int)).mergeSort rle).filter _) = []
  rw [List.mergeSort_nil]
  rfl
theorem canLay_iv (a : List Int) : PyData.canLay0 (iv a) = true := by simp [PyData.canLay0, canLay_ints]
theorem canLay_ivs : ∀ L : List (List Int), PyData.canLayAll0 (L.map iv) = true
  | [] => by simp [PyData.canLayAll0]
  | x :: xs => by rw [List.map_cons, PyData.canLayAll0, canLay_ivs xs, canLay_iv]; rfl
theorem depth_ivs (L : List (List Int)) : PyData.depth (.tuple (L.map iv)) ≤ 3 := by
  have := depths_le (L.map iv) 2 fun d hd => by
    obtain ⟨a, _, rfl⟩ := List.mem_map.mp hd
    have := K9.depth_ints a
    simp only [PyData.depth]
    omega
  simp only [PyData.depth]
  omega
theorem shaped_ivs (L : List (List Int)) : SeqAt.shaped (.tuple (L.map iv)) = true := by
  have := depth_ivs L
  unfold SeqAt.shaped
  rw [Bool.and_eq_true]
  exact ⟨by rw [PyData.canLay0]; exact canLay_ivs L, decide_eq_true (by omega)⟩
theorem shaped_none : SeqAt.shaped .none = true := by decide
theorem lead_form (r : Int) (one other : List Int) : leadD r one other = .none ∨ ∃ L : List (List Int), leadD r one other = .tuple (L.map iv) := by
  unfold leadD
  split
  · split
    · split
      · exact .inl rfl
      · exact .inr ⟨[], rfl⟩
    · exact .inr ⟨_, rfl⟩
  · exact .inr ⟨[], rfl⟩
theorem shaped_lead (r : Int) (one other : List Int) : SeqAt.shaped (leadD r one other) = true := by
  rcases lead_form r one other with e | ⟨L, e⟩ <;> rw [e]
  · exact shaped_none
  · exact shaped_ivs L
end K4
namespace DW
open PySem PySem.W L2 RZ PyProof.Rows
theorem sg_start {w : World} {M : Addr → Prop} {H : Hp} {kn : ∀ b, M b → ∃ o, H b = some o} {N : List Str} {vs : List V} {ds : List D} (t : DtA M H vs ds) : Sg (FcP w M H kn) H (L2.start N vs) (es0 N ds) := by
  have no : ∀ (i : Nat) e, (es0 N ds)[i]? = some e → isOwn e = false := fun i e h => (no_own_d h).1
  refine ⟨?_, ExM.refl, fun _ _ _ q => q, fun i y hi => ?_, fun i e hi z => ?_, fun i j e e' l h1 _ z => ?_, fun i hi => ?_, fun i kvs hi => ?_⟩
  · unfold es0 L2.start
    rw [List.length_append, List.length_append, List.length_map, List.length_map, List.length_replicate, List.length_replicate, t.length]
  · obtain ⟨v, e1, t1⟩ := t.get (get_map_d hi)
    exact ⟨v, start_at e1, t1.weak (mx_none (F := FcP w M H kn) no)⟩
  · rw [no i e hi] at z; cases z
  · rw [no i e h1] at z; cases z
  · exact absurd rfl (no_own_d hi).2.1
  · exact absurd rfl ((no_own_d hi).2.2 _)
/-- statements to an end of one's own -/
def WR (F : Fc) (X : Cx) (D0 : Ends) (H0 : Hp) (σ0 : L2.St) (e0 : List Sl) (ss : List Stmt) (es : List Sl) : Prop := ∀ σ H, Sg F H σ es → Tr F H0 σ0 e0 H σ es → canB X ss D0 σ H
theorem wr_cons {F : Fc} {X : Cx} {D0 : Ends} {H0 : Hp} {σ0 : L2.St} {e0 es : List Sl} {s : Stmt} {ss : List Stmt} (h : WS F X s es { nx := fun es' => WR F X D0 H0 σ0 e0 ss es', rt := fun _ => False }) : WR F X D0 H0 σ0 e0 (s :: ss) es := fun σ H sg tr => by
  refine ⟨_, pss_cons can_s can_b, ?_⟩
  exact h σ H _ sg ⟨fun σ' H' es' s' t' q => q σ' H' s' (tr.trans t'), fun _ _ _ _ _ _ z => z.elim, fun _ _ _ _ _ z => z.elim, fun _ _ _ _ _ z => z.elim⟩
section
variable {X : Cx} {e : Expr} {te : TE}
def tFreeze (te : TE) : TE := fun σ H Q => te σ H fun v H1 => ∃ (l : Addr) (u : HO), H1 l = some u ∧ Mut (some u) ∧ ∀ od, Q v (upd H1 l (.frz od u))
theorem pe_freeze (h : PE X e te) : PE X e (tFreeze te) := ⟨fun pins s σ H Q I hw => thn (h.run pins s σ H _ I hw) fun v s1 ⟨x, H1, I1, r, l, u, hl, mu, q⟩ => by
  obtain ⟨od, I2⟩ := I1.lock hl mu
  exact ⟨x, _, I2, r, q od⟩⟩
end
end DW
namespace K4
open PySem PySem.W L2 RZ PyProof.Rows DW K9
theorem out_zip (g : Int → Int → Int) : ∀ {x y : List Int} {out : List D}, Paired (fun d r => ∃ a b : Int, d = .tuple [.int a, .int b] ∧ r = .int (g a b)) (pairs (x.map PyData.int) (y.map PyData.int)) out → out = (List.zipWith g x y).map PyData.int
  | [], _, _, h => by cases h; rfl
  | _ :: _, [], _, h => by cases h; rfl
  | a :: x, b :: y, _, h => by
    cases h with
    | cons h1 h2 =>
      obtain ⟨a', b', e, rfl⟩ := h1
      injection e with e
      injection e with e1 e2
      injection e1 with e1
      injection e2 with e2 _
      injection e2 with e2
      subst e1 e2
      rw [List.zipWith_cons_cons, List.map_cons, ← out_zip g h2]
theorem pairs_mem2 : ∀ {x y : List Int} {d : D}, d ∈ pairs (x.map PyData.int) (y.map PyData.int) → ∃ a b : Int, d = .tuple [.int a, .int b] ∧ a ∈ x ∧ b ∈ y
  | [], _, _, h => by simp [pairs] at h
  | _ :: _, [], _, h => by simp [pairs] at h
  | a :: x, b :: y, d, h => by
    rcases List.mem_cons.mp h with e | h
    · exact ⟨a, b, e, List.mem_cons_self, List.mem_cons_self⟩
    · obtain ⟨p, q, e, h1, h2⟩ := pairs_mem2 h
      exact ⟨p, q, e, List.mem_cons_of_mem _ h1, List.mem_cons_of_mem _ h2⟩
def pE : D → Bool
  | .tuple [_, .int x] => !decide (x = 0)
  | _ => false
theorem enum_ints (d : List Int) : enumD (d.map PyData.int) = (List.range d.length).map fun i => PyData.tuple [.int (i : Nat), .int (d.getD i 0)] := by
  unfold enumD
  rw [List.length_map]
  refine List.map_congr_left fun i hi => ?_
  have hi := List.mem_range.mp hi
  rw [List.getD_eq_getElem?_getD, List.getD_eq_getElem?_getD, List.getElem?_map, List.getElem?_eq_getElem hi]
  rfl
theorem head_jx {d : List Int} (h : isZ d = false) : ∃ l, (List.range d.length).filter (fun i => !decide (d.getD i 0 = 0)) = jx d :: l := by
  have hj := jx_lt h
  have hn := lead_ne h
  obtain ⟨m, hm⟩ : ∃ m, d.length = jx d + (m + 1) := ⟨d.length - jx d - 1, by omega⟩
  rw [hm, List.range_add, List.filter_append, List.filter_eq_nil_iff.mpr fun i hi => by
    have := jx_zero (List.mem_range.mp hi)
    simp only [this]
    decide, List.nil_append, List.range_succ_eq_map, List.map_cons, List.filter_cons]
  rw [if_pos (by show (!decide (d.getD (jx d + 0) 0 = 0)) = true; rw [Nat.add_zero, decide_eq_false (show ¬ d.getD (jx d) 0 = 0 from hn)]; rfl)]
  exact ⟨_, rfl⟩
def und (xs : List Int) : List Int := xs.reverse.map fun x => -x
abbrev SpUnd : Sp := Pu (fun ds => ∃ xs : List Int, ds = [iv xs] ∧ xs.length ≤ 40) (fun ds d => ∀ xs : List Int, ds = [iv xs] → d = iv (und xs))
def pZ : D → Bool
  | .int x => !decide (x = 0)
  | _ => false
theorem isZ_filter (d : List Int) : d.filter (fun x => !decide (x = 0)) = [] ↔ isZ d = true := by
  unfold isZ
  rw [List.filter_eq_nil_iff, List.all_eq_true]
  exact forall_congr' fun x => forall_congr' fun _ => by by_cases h : x = 0 <;> simp [h]
theorem eqv_listI (a : List Int) : PyData.eqv (.list (a.map PyData.int)) (.list []) = decide (a = []) := by rw [PyData.eqv]; exact eqvL_ints a
theorem shaped_lnil : SeqAt.shaped (.list []) = true := shapedL_ints []
/-- a number below the one asked for -/
abbrev SpDraw : Sp := Dr (fun ds => ∃ n : Int, ds = [.int n] ∧ 1 ≤ n ∧ n < 2 ^ 60) (fun ds d => ∃ x : Int, d = .int x ∧ 0 ≤ x ∧ ∀ n : Int, ds = [.int n] → x < n)
abbrev SpPick : Sp := Dr (fun ds => ∃ xs : List D, ds = [.list xs] ∧ 1 ≤ xs.length ∧ xs.length < 1000) (fun ds d => ∀ xs : List D, ds = [.list xs] → d ∈ xs)
abbrev SpDeck (K : PySem.W.Frag) : Sp := fun vs H Q _ => ∃ (a : Addr) (ns : List Int), vs = [.ref a] ∧ SqL K H a (ns.map V.int) ∧ ∀ d c H', (∀ b o, H b = some o → H' b = some o) → H d = none → H c = none → d ≠ c → Dk d c H' → Q (.ref d) H'
end K4
namespace K4
open PySem PySem.W L2 RZ PyProof.Rows DW K9
def RowL (r : Int) (xs : List Int) : Prop := AllS r xs ∧ xs.length ≤ 40
abbrev SpRowD : Sp := Dr (fun ds => ∃ r m : Int, ds = [.int r, .int m] ∧ 1 ≤ r ∧ r ≤ 4 ∧ 0 ≤ m ∧ m ≤ 40) (fun ds d => ∃ xs : List Int, d = iv xs ∧ ∀ r m : Int, ds = [.int r, .int m] → AllS r xs ∧ (xs.length : Int) = m)
abbrev SpOthr : Sp := Dr (fun ds => ∃ (r m : Int) (row : List Int), ds = [.int r, iv row, .int m] ∧ 1 ≤ r ∧ r ≤ 4 ∧ RowL r row ∧ m ≤ 40) (fun ds d => ∃ xs : List Int, d = iv xs ∧ ∀ (r m : Int) (row : List Int), ds = [.int r, iv row, .int m] → RowL r xs)
abbrev SpLoop : Sp := Dr (fun ds => ∃ r : Int, ds = [.int r] ∧ 1 ≤ r ∧ r ≤ 4) (fun ds d => ∃ xs : List Int, d = iv xs ∧ xs.length ≤ 8 ∧ ∀ r : Int, ds = [.int r] → AllS r xs)
abbrev SpFit : Sp := Dr (fun ds => ∃ (r : Int) (row : List Int), ds = [.int r, iv row] ∧ 1 ≤ r ∧ r ≤ 4 ∧ RowL r row) (fun ds d => ∃ xs : List Int, d = iv xs ∧ ∀ (r : Int) (row : List Int), ds = [.int r, iv row] → RowL r xs)
abbrev SpBegun : Sp := Dr (fun ds => ∃ r : Int, ds = [.int r] ∧ 1 ≤ r ∧ r ≤ 4) (fun ds d => ∃ xs : List Int, d = iv xs ∧ ∀ r : Int, ds = [.int r] → RowL r xs)
theorem allS_app {r : Int} {a b : List Int} (h : AllS r a) (g : AllS r b) : AllS r (a ++ b) := fun s hs => (List.mem_append.mp hs).elim (h s) (g s)
theorem allS_und {r : Int} {a : List Int} (h : AllS r a) : AllS r (und a) := neg_ok fun s hs => h s (List.mem_reverse.mp hs)
theorem und_len (a : List Int) : (und a).length = a.length := by unfold und; rw [List.length_map, List.length_reverse]
theorem allS_sub {r : Int} {a b : List Int} (h : AllS r a) (g : ∀ s ∈ b, s ∈ a) : AllS r b := fun s hs => h s (g s hs)
theorem cut_mid (xs : List D) {a b : Nat} (h1 : a ≤ xs.length) (h2 : b ≤ xs.length) : DW.cutD xs (some (a : Int)) (some (b : Int)) = (xs.drop a).take (b - a) := by
  unfold DW.cutD
  rw [HT.sIx_nat, HT.sIx_nat, Nat.min_eq_left h1, Nat.min_eq_left h2]
theorem od_repT' {X : Cx} {xs : List D} {k : Int} (h0 : xs ≠ []) (h1 : 2 ≤ k) (h2 : k ≤ 1000) (hl : xs.length ≤ 1000) : OpD X (binaryOp .Mult) (.tuple xs) (.int k) (.tuple (List.replicate k.toNat xs).flatten) := od_repT h0 h1 h2 hl
theorem at_last {ds : List D} {d : D} : atI (ds ++ [d]) (-1) = some d := by
  unfold atI ixN
  simp
  rw [if_pos (by omega)]
  have e : (-1 + ((ds.length : Int) + 1)).toNat = ds.length := by omega
  simp [e]
theorem at_neg {ds : List D} (h : ds ≠ []) : ∃ d, atI ds (-1) = some d ∧ d ∈ ds := by
  obtain ⟨xs, d, rfl⟩ : ∃ xs d, ds = xs ++ [d] := ⟨ds.dropLast, ds.getLast h, (List.dropLast_concat_getLast h).symm⟩
  exact ⟨d, at_last, List.mem_append.mpr (.inr List.mem_cons_self)⟩
theorem shaped_li (xs : List Int) : SeqAt.shaped (.list (xs.map PyData.int)) = true := shapedL_ints xs
end K4
namespace K4
open PySem PySem.W L2 RZ PyProof.Rows DW K9
/-- a range's numbers picked out, as data -/
def pN (p : Nat → Bool) (lo : Int) : D → Bool
  | .int z => p (z - lo).toNat
  | _ => false
theorem rng_imp {lo : Int} : ∀ {l : List Nat} {out : List D}, Paired (fun d r => ∃ z : Int, d = .int z ∧ r = .int z) (l.map fun i => PyData.int (lo + (i : Nat))) out → Paired (fun d r => ∃ a : Nat, d = PyData.int (lo + (a : Nat)) ∧ r = PyData.int (lo + (a : Nat))) (l.map fun i => PyData.int (lo + (i : Nat))) out
  | [], _, h => by cases h; exact .nil
  | a :: l, _, h => by
    cases h with
    | cons h1 h2 =>
      obtain ⟨z, e, rfl⟩ := h1
      exact .cons ⟨a, rfl, by rw [← e]⟩ (rng_imp h2)
theorem pick_rng {p : Nat → Bool} {lo : Int} {n : Nat} {out : List D} (h : Paired (fun d r => ∃ z : Int, d = .int z ∧ r = .int z) ((irng lo n).filter (pN p lo)) out) : out = ((List.range n).filter p).map fun i => PyData.int (lo + (i : Nat)) := by
  unfold irng at h
  rw [flt_map (p' := p) (fun i => by show p (lo + (i : Nat) - lo).toNat = p i; congr 1; omega)] at h
  exact out_map (g := fun i : Nat => PyData.int (lo + (i : Nat))) (fun a b e => e) (rng_imp h)
theorem rng_asc {p : Nat → Bool} {n a b : Nat} {l : List Nat} (h : (List.range n).filter p = a :: b :: l) : a < b ∧ b < n := by
  have hp : ((List.range n).filter p).Pairwise (· < ·) := List.pairwise_lt_range.filter _
  rw [h] at hp
  have hb : b ∈ (List.range n).filter p := by rw [h]; exact List.mem_cons_of_mem _ List.mem_cons_self
  exact ⟨(List.pairwise_cons.mp hp).1 b List.mem_cons_self, List.mem_range.mp (List.mem_filter.mp hb).1⟩
/-- two neighbouring stretches exchanged -/
theorem swap_ok {r : Int} {xs : List Int} {i a b : Nat} (h : RowL r xs) (h1 : i ≤ a) (h2 : a ≤ b) (h3 : b ≤ xs.length) : RowL r (xs.take i ++ (xs.drop a).take (b - a) ++ (xs.drop i).take (a - i) ++ xs.drop b) := by
  obtain ⟨ha, hl⟩ := h
  refine ⟨allS_sub ha fun s hs => ?_, ?_⟩
  · rcases List.mem_append.mp hs with z | z
    · rcases List.mem_append.mp z with z | z
      · rcases List.mem_append.mp z with z | z
        · exact List.mem_of_mem_take z
        · exact List.mem_of_mem_drop (List.mem_of_mem_take z)
      · exact List.mem_of_mem_drop (List.mem_of_mem_take z)
    · exact List.mem_of_mem_drop z
  · simp only [List.length_append, List.length_take, List.length_drop]
    omega
theorem put_ok {r : Int} {xs ys : List Int} {i : Nat} (h : AllS r xs) (g : AllS r ys) (hl : xs.length + ys.length ≤ 40) : RowL r (xs.take i ++ ys ++ xs.drop i) := by
  refine ⟨fun s hs => ?_, ?_⟩
  · rcases List.mem_append.mp hs with z | z
    · rcases List.mem_append.mp z with z | z
      · exact h s (List.mem_of_mem_take z)
      · exact g s z
    · exact h s (List.mem_of_mem_drop z)
  · simp only [List.length_append, List.length_take, List.length_drop]
    omega
theorem cutI_hi (xs : List Int) (k : Nat) : DW.cutD (xs.map PyData.int) none (some (k : Int)) = (xs.take k).map PyData.int := by rw [cut_hi, List.map_take]
theorem cutI_lo (xs : List Int) (k : Nat) : DW.cutD (xs.map PyData.int) (some (k : Int)) none = (xs.drop k).map PyData.int := by rw [cut_lo, List.map_drop]
theorem cutI_mid (xs : List Int) {a b : Nat} (h1 : a ≤ xs.length) (h2 : b ≤ xs.length) : DW.cutD (xs.map PyData.int) (some (a : Int)) (some (b : Int)) = ((xs.drop a).take (b - a)).map PyData.int := by rw [cut_mid _ (by rw [List.length_map]; exact h1) (by rw [List.length_map]; exact h2), List.map_take, List.map_drop]
theorem cat_iv (a b : List Int) : PyData.tuple (a.map PyData.int ++ b.map PyData.int) = iv (a ++ b) := by rw [← List.map_append]
theorem od_catI {X : Cx} {a b : List Int} (h : a.length + b.length ≤ 1000) : OpD X (binaryOp .Add) (iv a) (iv b) (iv (a ++ b)) := by
  have := od_cat (X := X) (xs := a.map PyData.int) (ys := b.map PyData.int) (by rw [List.length_map, List.length_map, sizeLine_eq]; omega)
  rw [cat_iv] at this
  exact this
theorem enum_inv {ds : List D} {i : Nat} {d : D} (h : (enumD ds)[i]? = some d) : ∃ v, ds[i]? = some v ∧ d = .tuple [.int (i : Nat), v] := by
  have hi : i < ds.length := by have := (List.getElem?_eq_some_iff.mp h).1; rw [enumD_len] at this; exact this
  refine ⟨ds[i], List.getElem?_eq_getElem hi, ?_⟩
  rw [enumD_at (List.getElem?_eq_getElem hi)] at h
  injection h with h
  exact h.symm
theorem ws_cut {F : Fc} {X : Cx} {s : Stmt} {es : List Sl} {K : Ek} (Q : List Sl → Prop) (h1 : WS F X s es { nx := Q, rt := K.rt }) (h2 : ∀ es', Q es' → K.nx es') : WS F X s es K := fun σ H D sg g => h1 σ H D sg ⟨fun σ' H' es' s' t q => g.nx σ' H' es' s' t (h2 es' q), g.rt, fun _ _ _ _ _ z => z.elim, fun _ _ _ _ _ z => z.elim⟩
def okS (x : Sl) : Prop := ∀ kvs, x ≠ .fd kvs
theorem nofd12 {a b c d e x y z g h i j : Sl} (ha : okS a) (hb : okS b) (hc : okS c) (hd : okS d) (he : okS e) (hx : okS x) (hy : okS y) (hz : okS z) (hg : okS g) (hh : okS h) (hi : okS i) (hj : okS j) : ∀ (n : Nat) kvs, [a, b, c, d, e, x, y, z, g, h, i, j][n]? ≠ some (.fd kvs) := fun n kvs q => by
  have m := List.mem_of_getElem? q
  simp only [List.mem_cons, List.not_mem_nil, or_false] at m
  rcases m with m | m | m | m | m | m | m | m | m | m | m | m
  · exact ha kvs m.symm
  · exact hb kvs m.symm
  · exact hc kvs m.symm
  · exact hd kvs m.symm
  · exact he kvs m.symm
  · exact hx kvs m.symm
  · exact hy kvs m.symm
  · exact hz kvs m.symm
  · exact hg kvs m.symm
  · exact hh kvs m.symm
  · exact hi kvs m.symm
  · exact hj kvs m.symm
theorem okS_d {d : D} : okS (.d d) := fun _ z => nomatch z
theorem okS_no : okS .no := fun _ z => nomatch z
theorem okS_dk : okS .dk := fun _ z => nomatch z
end K4
namespace K4
open PySem PySem.W L2 RZ PyProof.Rows DW K9
theorem sm_of {x : Int} {n : Nat} (h : x.natAbs ≤ n) (hn : n < 2 ^ 64) : Sm x := Nat.lt_of_lt_of_le (Nat.lt_of_le_of_lt h hn) (Nat.pow_le_pow_right (by decide) (by decide))
def RmOk (m : List Int) : Prop := m.length ≤ 4 ∧ ∀ x ∈ m, Sm x
theorem rooms_ok : ∀ {L : List (List Int)}, (∀ m ∈ L, RmOk m) → PyData.showableAll (L.map iv) = true ∧ PyData.hasDictAll (L.map iv) = false ∧ PyData.leavesShortAll 580 (L.map iv) = true ∧ PyData.bulkAll (L.map iv) ≤ 8 * L.length
  | [], _ => ⟨rfl, rfl, rfl, Nat.le_refl _⟩
  | m :: L, h => by
    obtain ⟨h1, h2, h3, h4⟩ := rooms_ok (L := L) fun y hy => h y (List.mem_cons_of_mem _ hy)
    obtain ⟨hl, hm⟩ := h m List.mem_cons_self
    obtain ⟨g1, g2, g3, g4⟩ := ints_ok hm
    rw [List.map_cons, PyData.showableAll, PyData.hasDictAll, PyData.leavesShortAll, PyData.bulkAll, h1, h2, h3, PyData.showable, PyData.hasDict, PyData.leavesShort, PyData.bulk, g1, g2, g3, g4, List.length_cons]
    exact ⟨rfl, rfl, rfl, by omega⟩
theorem lead_bd {r : Int} {one other : List Int} (r1 : 1 ≤ r) (r4 : r ≤ 4) (h : RowL r one) (h' : RowL r other) : leadD r one other = .none ∨ ∃ L : List (List Int), leadD r one other = .tuple (L.map iv) ∧ L.length ≤ 40 ∧ ∀ m ∈ L, RmOk m := by
  have dl := we_len h.1 (org_len r1)
  have dn := we_nb (row := one) (org_nb (r := r) (b := 0))
  have lo := h.2
  have DB : DkB (we (org r) one) := ⟨by omega, by omega, nb_up dn (by omega)⟩
  have g1 := fo_fold (fo_sh r1 h.1 h.2) dl DB.nd
  have g2 := fo_fold (fo_sh r1 h'.1 h'.2) dl DB.nd
  have R1 := rm_fo (c := 2000) g1 dl (by decide)
  have R2 := rm_fo (c := 2000) g2 dl (by decide)
  by_cases e1 : we (org r) one = we (org r) other
  · by_cases e2 : fold (sh r one) (we (org r) one) = []
    · by_cases e3 : fold (sh r other) (we (org r) one) = []
      · exact .inl (lead_none e1 e2 e3)
      · exact .inr ⟨[], lead_nil e1 e2 e3, Nat.zero_le _, fun m hm => by cases hm⟩
    · refine .inr ⟨_, lead_some e1 e2, ?_, fun m hm => ?_⟩
      · unfold leadL
        have h1 := List.length_filter_le (fun m => decide (fold (mvS m (fold (sh r one) (we (org r) one))) (we (org r) one) = fold (sh r other) (we (org r) one))) (nearS (fold (sh r one) (we (org r) one)) (fold (sh r other) (we (org r) one)) (we (org r) one))
        have h2 := nearS_len (F := fold (sh r one) (we (org r) one)) (G := fold (sh r other) (we (org r) one)) (d := we (org r) one)
        have h3 := R2.len
        omega
      · obtain ⟨ml, mn⟩ := nearB R1 R2 DB m (List.mem_filter.mp hm).1
        exact ⟨by have := DB.d4; omega, fun x hx => sm_of (mn x hx) (by decide)⟩
  · exact .inr ⟨[], lead_out e1, Nat.zero_le _, fun m hm => by cases hm⟩
theorem rp_lead {r : Int} {one other : List Int} (r1 : 1 ≤ r) (r4 : r ≤ 4) (h : RowL r one) (h' : RowL r other) (b : Bool) : ReprOk (.tuple [leadD r one other, .bool b]) := by
  rcases lead_bd r1 r4 h h' with e | ⟨L, e, hl, hm⟩ <;> rw [e]
  · refine ok_fit ?_ ?_ ?_ ?_ ?_
    · rfl
    · rfl
    · cases b <;> decide +kernel
    · show _ ≤ 16100
      simp only [PyData.bulk, PyData.bulkAll]
      omega
    · simp only [PyData.depth, PyData.depthAll]
      decide
  · obtain ⟨h1, h2, h3, h4⟩ := rooms_ok hm
    have hd := depth_ivs L
    refine ok_fit ?_ ?_ ?_ ?_ ?_
    · simp only [PyData.showable, PyData.showableAll, h1]; rfl
    · simp only [PyData.hasDict, PyData.hasDictAll, h2]; rfl
    · simp only [PyData.leavesShort, PyData.leavesShortAll, h3]; cases b <;> decide +kernel
    · simp only [PyData.bulk, PyData.bulkAll]
      omega
    · have e2 : PyData.depthAll [PyData.tuple (L.map iv), .bool b] ≤ 3 := depths_le _ 3 fun d hd' => by
        simp only [List.mem_cons, List.not_mem_nil, or_false] at hd'
        rcases hd' with z | z <;> rw [z]
        · exact hd
        · simp [PyData.depth]
      rw [PyData.depth]
      omega
abbrev SpRight : Sp := Pu Row2 (fun _ d => d = .bool true)
theorem row2 {r : Int} {a b : List Int} (r1 : 1 ≤ r) (r4 : r ≤ 4) (h : RowL r a) (g : RowL r b) : Row2 [.int r, iv a, iv b] := ⟨r, a, b, rfl, r1, r4, h.1, h.2, g.1, g.2⟩
theorem rowL_und {r : Int} {a : List Int} (h : RowL r a) : RowL r (und a) := ⟨allS_und h.1, by rw [und_len]; exact h.2⟩
end K4
namespace DW
open PySem PySem.W L2 RZ PyProof.Rows
section
variable {F : Fc} {X : Cx} {e : Expr} {es : List Sl} {Φ : D → Prop} {H : Hp} {σ : L2.St}
theorem own_fd {i : Nat} {kvs : List (D × D)} {b : Addr} (hi : i < es.length) (h : Own σ (es.set i (.fd kvs)) b) : ∃ (j : Nat) (x : Sl), j ≠ i ∧ es[j]? = some x ∧ isOwn x = true ∧ σ[j]? = some (some (.ref b)) := by
  obtain ⟨j, x, h1, h2, h3⟩ := h
  by_cases hij : i = j
  · subst hij
    rw [List.getElem?_set_self hi] at h1
    cases h1
    cases h2
  · rw [List.getElem?_set_ne hij] at h1
    exact ⟨j, x, fun z => hij z.symm, h1, h2, h3⟩
/-- one's own dict is read within the expression -/
theorem w_lock {i : Nat} {kvs : List (D × D)} (hd : es[i]? = some (.od kvs)) (h : W F X e (es.set i (.fd kvs)) Φ) : W F X e es Φ := fun σ H s Q k => by
  refine ⟨_, pe_lock can_e, ?_⟩
  have hi : i < es.length := (List.getElem?_eq_some_iff.mp hd).1
  obtain ⟨l, q1, q0, _, xs, q2, q3⟩ := s.own i _ hd rfl
  have lM : Mx F σ es l := .inr ⟨i, _, hd, rfl, q1⟩
  have up : ∀ b, Mx F σ (es.set i (.fd kvs)) b → Mx F σ es b := fun b z => by
    rcases z with z | z
    · exact .inl z
    · obtain ⟨j, x, _, h1, h2, h3⟩ := own_fd hi z
      exact .inr ⟨j, x, h1, h2, h3⟩
  have dn : ∀ b, Mx F σ es b → b ≠ l → Mx F σ (es.set i (.fd kvs)) b := fun b z nb => by
    rcases z with z | ⟨j, x, h1, h2, h3⟩
    · exact .inl z
    · have hij : i ≠ j := fun e => by
        subst e
        rw [q1] at h3
        cases h3
        exact nb rfl
      exact .inr ⟨j, x, by rw [List.getElem?_set_ne hij]; exact h1, h2, h3⟩
  have nl : ¬ Mx F σ (es.set i (.fd kvs)) l := fun z => by
    rcases z with z | z
    · exact q0.2 z
    · obtain ⟨j, x, hj, h1, h2, h3⟩ := own_fd hi z
      exact hj (s.inj j i x _ l h1 hd h2 rfl h3 q1)
  refine ⟨l, ND F.w l xs, q2, trivial, fun od => ?_⟩
  have mv : ∀ b o, H b = some o → ¬ Mx F σ es b → upd H l (.frz od (ND F.w l xs)) b = some o ∧ ¬ Mx F σ (es.set i (.fd kvs)) b := fun b o e n => by
    have hb : b ≠ l := fun z => n (by rw [z]; exact lM)
    exact ⟨by rw [upd_ne hb]; exact e, fun z => n (up b z)⟩
  have s1 : Sg F (upd H l (.frz od (ND F.w l xs))) σ (es.set i (.fd kvs)) := by
    refine ⟨by rw [List.length_set]; exact s.len, fun b o e n => ?_, F.okx H _ s.ok fun b o z e => ?_, fun j x hj => ?_, fun j x hj z => ?_, fun j j' x x' l' h1 h2 z1 z2 h3 h4 => ?_, fun j hj => ?_, fun j kvs' hj => ?_⟩
    · rw [upd_ne (ne_of_none e q0.1)]; exact s.ext b o e n
    · have hb : b ≠ l := fun z' => q0.2 (by rw [← z']; exact z)
      rw [upd_ne hb]; exact e
    · have hij : i ≠ j := fun z => by subst z; rw [List.getElem?_set_self hi] at hj; cases hj
      rw [List.getElem?_set_ne hij] at hj
      obtain ⟨v, r1, r2⟩ := s.dat j x hj
      exact ⟨v, r1, r2.move mv⟩
    · have hij : i ≠ j := fun y => by subst y; rw [List.getElem?_set_self hi] at hj; cases hj; cases z
      rw [List.getElem?_set_ne hij] at hj
      obtain ⟨l', r1, r0, ⟨o, r2⟩, r3⟩ := s.own j x hj z
      have hl : l' ≠ l := fun y => by
        subst y
        exact hij (s.inj i j _ x l' hd hj rfl z q1 r1)
      exact ⟨l', r1, r0, ⟨o, by rw [upd_ne hl]; exact r2⟩, r3.move mv fun o e => by rw [upd_ne hl]; exact e⟩
    · have hij : i ≠ j := fun y => by subst y; rw [List.getElem?_set_self hi] at h1; cases h1; cases z1
      have hij' : i ≠ j' := fun y => by subst y; rw [List.getElem?_set_self hi] at h2; cases h2; cases z2
      rw [List.getElem?_set_ne hij] at h1
      rw [List.getElem?_set_ne hij'] at h2
      exact s.inj j j' x x' l' h1 h2 z1 z2 h3 h4
    · have hij : i ≠ j := fun y => by subst y; rw [List.getElem?_set_self hi] at hj; cases hj
      rw [List.getElem?_set_ne hij] at hj
      exact s.dk j hj
    · by_cases hij : i = j
      · subst hij
        rw [List.getElem?_set_self hi] at hj
        cases hj
        exact ⟨l, od, xs, q1, upd_same, nl, KvOk.move mv q3⟩
      · rw [List.getElem?_set_ne hij] at hj
        obtain ⟨l', od', xs', r1, r2, r3, r4⟩ := s.fd j kvs' hj
        have hl : l' ≠ l := fun y => r3 (by rw [y]; exact lM)
        exact ⟨l', od', xs', r1, by rw [upd_ne hl]; exact r2, fun z => r3 (up _ z), KvOk.move mv r4⟩
  refine h σ _ s1 _ fun v d H1 s2 x2 t2 ph => ?_
  have hl1 : H1 l = some (.frz od (ND F.w l xs)) := x2 l _ upd_same q0.2
  refine ⟨hl1, ?_⟩
  have mv2 : ∀ b o, H1 b = some o → ¬ Mx F σ (es.set i (.fd kvs)) b → b ≠ l → upd H1 l (ND F.w l xs) b = some o ∧ ¬ Mx F σ es b := fun b o e n hb => ⟨by rw [upd_ne hb]; exact e, fun z => n (dn b z hb)⟩
  have mvT : ∀ (d : D) (v : V), Dt (Mx F σ (es.set i (.fd kvs))) H1 v d → Dt (Mx F σ es) (upd H1 l (ND F.w l xs)) v d := fun d v t =>
    Dt.moveT (fun b ys e n => mv2 b _ e n fun z => by rw [z, hl1] at e; cases e) (fun b ys e n => mv2 b _ e n fun z => by rw [z, hl1] at e; cases e) (fun b o z e n => mv2 b _ e n fun y => by
      rw [y, hl1] at e
      cases e
      rcases z with z | ⟨_, _, _, z⟩
      · exact z
      · cases z) d v t
  have mvK : ∀ {ys : List NKV} {kvs' : List (D × D)}, Paired (KvOk (Mx F σ (es.set i (.fd kvs))) H1) ys kvs' → Paired (KvOk (Mx F σ es) (upd H1 l (ND F.w l xs))) ys kvs' := fun {ys kvs'} p => by
    induction p with
    | nil => exact .nil
    | cons r _ ih => exact .cons ⟨r.1, r.2.1, r.2.2.1, mvT _ _ r.2.2.2.1, mvT _ _ r.2.2.2.2⟩ ih
  have mvA : ∀ (ds : List D) (vs : List V), DtA (Mx F σ (es.set i (.fd kvs))) H1 vs ds → DtA (Mx F σ es) (upd H1 l (ND F.w l xs)) vs ds := fun ds => by
    induction ds with
    | nil => intro vs t; cases t; exact .nil
    | cons d ds ih =>
      intro vs t
      cases t with
      | cons a b => exact .cons (mvT _ _ a) (ih _ b)
  have s3 : Sg F (upd H1 l (ND F.w l xs)) σ es := by
    refine ⟨s.len, fun b o e n => ?_, F.okx H1 _ s2.ok fun b o z e => ?_, fun j x hj => ?_, fun j x hj z => ?_, s.inj, s.dk, fun j kvs' hj => ?_⟩
    · rw [upd_ne (ne_of_none e q0.1)]; exact s2.ext b o e n
    · have hb : b ≠ l := fun z' => q0.2 (by rw [← z']; exact z)
      rw [upd_ne hb]; exact e
    · have hij : i ≠ j := fun z => by subst z; rw [hd] at hj; cases hj
      obtain ⟨v, r1, r2⟩ := s2.dat j x (by rw [List.getElem?_set_ne hij]; exact hj)
      exact ⟨v, r1, mvT _ _ r2⟩
    · by_cases hij : i = j
      · subst hij
        rw [hd] at hj
        cases hj
        obtain ⟨l', od', xs', r1, r2, _, r4⟩ := s2.fd i kvs (List.getElem?_set_self hi)
        rw [q1] at r1
        cases r1
        rw [hl1] at r2
        injection r2 with r2
        injection r2 with _ r2
        exact ⟨l, q1, q0, ⟨_, upd_same⟩, xs', by rw [upd_same, r2], mvK r4⟩
      · obtain ⟨l', r1, r0, ⟨o, r2⟩, r3⟩ := s2.own j x (by rw [List.getElem?_set_ne hij]; exact hj) z
        have hl : l' ≠ l := fun y => by
          subst y
          exact hij (s.inj i j _ x l' hd hj rfl z q1 r1)
        refine ⟨l', r1, r0, ⟨o, by rw [upd_ne hl]; exact r2⟩, ?_⟩
        cases x with
        | own ds =>
          obtain ⟨ys, g1, g2⟩ := r3
          exact ⟨ys, by rw [upd_ne hl]; exact g1, mvA _ _ g2⟩
        | od kvs' =>
          obtain ⟨ys, g1, g2⟩ := r3
          exact ⟨ys, by rw [upd_ne hl]; exact g1, mvK g2⟩
        | oda l0 kvs' =>
          obtain ⟨g0, ys, g1, g2⟩ := r3
          exact ⟨g0, ys, by rw [upd_ne hl]; exact g1, mvK g2⟩
        | _ => trivial
    · have hij : i ≠ j := fun z => by subst z; rw [hd] at hj; cases hj
      obtain ⟨l0, _, _, r10, _, r30, _⟩ := s.fd j kvs' hj
      obtain ⟨l', od', xs', r1, r2, r3, r4⟩ := s2.fd j kvs' (by rw [List.getElem?_set_ne hij]; exact hj)
      rw [r10] at r1
      cases r1
      have hl : l0 ≠ l := fun y => r30 (by rw [y]; exact lM)
      exact ⟨l0, od', xs', r10, by rw [upd_ne hl]; exact r2, r30, mvK r4⟩
  refine k v d _ s3 (fun b o e n => ?_) (mvT _ _ t2) ph
  by_cases hb : b = l
  · rw [hb, q2] at e
    rw [hb, upd_same]; exact e
  · rw [upd_ne hb]
    exact x2 b o (by rw [upd_ne hb]; exact e) n
def rGeD (K : PySem.W.Frag) : R2 := fun x y H Q => ∃ d e, Dp K H x d ∧ Dp K H y e ∧ PySem.W.alike d e = true ∧ d ≠ .none ∧ min d.depth e.depth ≤ 8 ∧ Q (.bl (!PySem.W.dataLt d e)) H
theorem op_geD (hu : X.A.units + 64 < cLine) : OpR X (compareOp .GtE) (rGeD X.K) := by
  intro pins s σ H x y v u Q I rx ry h
  obtain ⟨d, e, hd, he, al, nn, dp, q⟩ := h
  obtain ⟨as, r1⟩ := Dp.reads I d x v hd rx
  obtain ⟨bs, r2⟩ := Dp.reads I e y u he ry
  exact PySem.W.ge_data r1 r2 al nn (by omega) ⟨.bl _, H, I, rfl, q⟩
theorem od_geD {d e : D} (hu : X.A.units + 64 < cLine) (al : PySem.W.alike d e = true) (nn : d ≠ .none) (dp : min d.depth e.depth ≤ 8) (n1 : PySem.W.alike d d = true) (n2 : PySem.W.alike e e = true) : OpD X (compareOp .GtE) d e (.bool (!PySem.W.dataLt d e)) := fun M H v u kn hv hu' Q q =>
  ⟨_, op_geD hu, d, e, hv.dp _ _ (alike_nd _ n1), hu'.dp _ _ (alike_nd _ n2), al, nn, dp, q _ H same0 (.bl _)⟩
end
end DW
namespace DW
open PySem L2 RZ PyProof.Rows
section
variable {F : Fc} {X : Cx} {e a b c : Expr} {es : List Sl} {Φ : D → Prop} {K : Ek} {pos p pos' pn apos cpos : Pos} {s : Stmt} {ss : List Stmt} {H H' : Hp} {σ : L2.St}
/-! a dict of the caller's, at l0 -/
theorem ws_putA {l0 : Addr} {i : Nat} {x : Str} {kvs : List (D × D)} {k value : Expr} (hw : F.w = X.w) (hu : X.A.units + 9 < cLine) (he : es[i]? = some (.oda l0 kvs)) (hN : X.N[i]? = some x := by rfl) (hv : Vis X.env.scope x := by first | exact Or.inl rfl | exact Or.inr (Or.inl rfl) | exact Or.inr (Or.inr rfl))
    (hl : kvs.length < sizeLine) (h : W F X value es fun v => W F X k es fun kd => asKey kd = true ∧ K.nx (es.set i (.oda l0 (storedD kvs kd v))))
    (hs : swapsWith value (some (.Subscript (.Name x pn) k pos')) pos.line X.env = pure false := by rfl) (hd : (x == ("__debug__" : Str)) = false := by decide) (hcd : (x == ("__classdict__" : Str)) = false := by decide) :
    WS F X (.Assign [.Subscript (.Name x pn) k pos'] value pos) es K := fun σ H D s g => by
  refine ⟨_, ps_ndput hu (pv i hN hv hd hcd) can_e can_e hs, ?_⟩
  refine h σ H s _ fun v vd H1 s1 x1 t1 hk => ?_
  obtain ⟨l, q1, q0, _, q00, xs0, q2, q3⟩ := s1.own i _ he rfl
  refine ⟨.ref l, q1, ?_⟩
  refine hk σ H1 s1 _ fun y kd H2 s2 x2 t2 ⟨ak, po⟩ => ?_
  obtain ⟨ky, kdp, ds, rfl⟩ := asKey_of ak
  obtain ⟨b, rfl⟩ := key_ref t2
  obtain ⟨l', r1, _, _, _, xs, r2, r3⟩ := s2.own i _ he rfl
  rw [q1] at r1
  cases r1
  rw [hw] at r2
  have tv := t1.mono x2.mx
  refine ⟨l, b, xs, toKey (.tuple ds), rfl, rfl, r2, by rw [kv_len r3]; exact hl, ⟨_, _, t2, ky, rfl, kdp⟩, kv_nkey r3, ?_⟩
  obtain ⟨s3, t3⟩ := s2.turn (y := .oda l0 (storedD kvs (.tuple ds) vd)) (o := ND X.w l (storedN xs (toKey (.tuple ds)) b v)) he rfl rfl q1 (fun od u z => by rw [r2] at z; cases z) fun M hM => by
    refine ⟨q00, _, by rw [hw]; exact upd_same, ?_⟩
    have mv : ∀ c u, H2 c = some u → ¬ Mx F σ es c → upd H2 l (ND X.w l (storedN xs (toKey (.tuple ds)) b v)) c = some u ∧ ¬ M c := fun c u e n => ⟨by rw [upd_ne fun z => n (by rw [z]; exact .inr ⟨i, _, he, rfl, q1⟩)]; exact e, fun z => n ((hM c).mp z)⟩
    exact kv_stored ky kdp (t2.move mv) (tv.move mv) (KvOk.move mv r3)
  exact g.nx _ _ _ s3 (((Tr.of x1.mx).trans (Tr.of x2.mx)).trans t3) po
theorem w_getA {l0 : Addr} {i : Nat} {x : Str} {kvs : List (D × D)} {k f : Expr} (hw : F.w = X.w) (hu : X.A.units + 9 < cLine) (he : es[i]? = some (.oda l0 kvs)) (hN : X.N[i]? = some x := by rfl) (hv : Vis X.env.scope x := by first | exact Or.inl rfl | exact Or.inr (Or.inl rfl) | exact Or.inr (Or.inr rfl))
    (m : M2 X (.Name x pn) "get" apos k f cpos) (h : W F X k es fun kd => W F X f es fun z => asKey kd = true ∧ Φ ((valD kvs kd).getD z)) (hd : (x == ("__debug__" : Str)) = false := by decide) (hcd : (x == ("__classdict__" : Str)) = false := by decide) :
    W F X (.Call (.Attribute (.Name x pn) "get" apos) [k, f] [] cpos) es Φ := fun σ H s Q kk => by
  refine ⟨_, pe_ndget2 hu (pv i hN hv hd hcd) can_e can_e m, ?_⟩
  obtain ⟨l, q1, q0, _, q00, xs0, q2, q3⟩ := s.own i _ he rfl
  rw [hw] at q2
  refine ⟨.ref l, q1, l, rfl, ⟨xs0, q2⟩, ?_⟩
  refine h σ H s _ fun y kd H1 s1 x1 t1 hf => ?_
  refine hf σ H1 s1 _ fun z zd H2 s2 x2 t2 ⟨ak, po⟩ => ?_
  obtain ⟨ky, kdp, ds, rfl⟩ := asKey_of ak
  obtain ⟨b, rfl⟩ := key_ref t1
  obtain ⟨l', r1, _, _, _, xs, r2, r3⟩ := s2.own i _ he rfl
  rw [q1] at r1
  cases r1
  rw [hw] at r2
  refine ⟨b, xs, toKey (.tuple ds), rfl, r2, ⟨_, _, t1.mono x2.mx, ky, rfl, kdp⟩, kv_nkey r3, ?_⟩
  rcases kv_val (k := .tuple ds) r3 with ⟨e1, e2⟩ | ⟨v, d, e1, e2, td⟩
  · rw [e1]
    rw [e2] at po
    exact kk _ _ H2 s2 (x1.trans' x2) t2 po
  · rw [e1]
    rw [e2] at po
    exact kk _ _ H2 s2 (x1.trans' x2) td po
end
end DW
namespace DW
open PySem PySem.W L2 RZ PyProof.Rows
/-! ### a def that changes the caller's dict (its first argument) -/
def Ad (w : World) (Pre : List (D × D) → List D → Prop) (Post : List (D × D) → List D → List (D × D) → Prop) : Sp := fun vs H Q _ => ∃ (M : Addr → Prop) (l : Addr) (us : List V) (xs : List NKV) (kvs : List (D × D)) (ds : List D), vs = .ref l :: us ∧ M l ∧ (∀ b, M b → ∃ o, H b = some o) ∧ H l = some (ND w l xs) ∧ Paired (KvOk M H) xs kvs ∧ DtA M H us ds ∧ Pre kvs ds ∧
  ∀ H', (∀ b o, H b = some o → b ≠ l → H' b = some o) → (∃ xs' kvs', H' l = some (ND w l xs') ∧ Paired (KvOk M H') xs' kvs' ∧ Post kvs ds kvs') → Q .non H'
def es0a (N : List Str) (l : Addr) (kvs : List (D × D)) (ds : List D) : List Sl := .oda l kvs :: (ds.map Sl.d ++ List.replicate (N.length - (ds.length + 1)) .no)
section
variable {P : Program} {w : World} {K : PySem.W.Frag} {mg : Str → Option Value} {base : Heap} {x qual : Str} {st : Stmt} {f : Addr} {fd : FuncData} {N ps : List Str} {k : Nat}
theorem ok_ad {Pre : List (D × D) → List D → Prop} {Post : List (D × D) → List D → List (D × D) → Prop} (F : Fun K x qual st f fd) (S : FnScope N ps (defScope st)) (len : ∀ kvs ds, Pre kvs ds → ds.length + 1 = ps.length) (hN : ps.length ≤ N.length := by decide)
    (h : ∀ (cdv : Value) (A : Around) (outer : List Env) (s : Shared) (H : Hp) (E : XK), Rm k (A.deeper (envOfC qual (defScope st) s.heap.objs.size f cdv)) → ∀ (F : Fc) (l : Addr) (kvs : List (D × D)) (ds : List D), F.w = w → Pre kvs ds →
      WB F (Xf P w K mg base N qual st f cdv A outer s H E) (defBody st) (es0a N l kvs ds) { nx := fun es' => ∃ kvs', es'[0]? = some (.oda l kvs') ∧ Post kvs ds kvs', rt := fun _ => False }) : FnG P w K mg base (k + 1) f fd ps (Ad w Pre Post) := by
  refine ok_g F S (fun vs H Q E hs => ?_) (fun cdv A outer s H vs Q E hr hs => ⟨_, can_b, ?_⟩)
  · obtain ⟨M, l, us, xs, kvs, ds, rfl, _, _, _, _, t, hp, _⟩ := hs
    rw [List.length_cons, t.length]
    exact len kvs ds hp
  · obtain ⟨M, l, us, xs, kvs, ds, rfl, lM, kn, hl, kv, t, hp, q⟩ := hs
    have hlen := len kvs ds hp
    have hd : ∀ b o, (if b = l then none else H b) = some o → H b = some o ∧ b ≠ l := fun b o e => by
      by_cases hb : b = l
      · rw [if_pos hb] at e; cases e
      · rw [if_neg hb] at e; exact ⟨e, hb⟩
    have kn' : ∀ b, (M b ∧ b ≠ l) → ∃ o, (fun b => if b = l then none else H b) b = some o := fun b z => by
      obtain ⟨o, e⟩ := kn b z.1
      exact ⟨o, by show (if b = l then none else H b) = some o; rw [if_neg z.2]; exact e⟩
    let F0 := FcP w (fun b => M b ∧ b ≠ l) (fun b => if b = l then none else H b) kn'
    have no : ∀ (i : Nat) e, (es0a N l kvs ds)[i + 1]? = some e → isOwn e = false ∧ e ≠ .dk ∧ ∀ kvs, e ≠ .fd kvs := fun i e h => no_own_d h
    have mx : ∀ b, Mx F0 (L2.start N (.ref l :: us)) (es0a N l kvs ds) b → M b := fun b z => by
      rcases z with z | ⟨i, e, h1, h2, h3⟩
      · exact z.1
      · cases i with
        | zero =>
          have e3 : (L2.start N (.ref l :: us))[0]? = some (some (.ref l)) := start_at rfl
          rw [e3] at h3
          cases h3
          exact lM
        | succ i => rw [(no i e h1).1] at h2; cases h2
    have sg : Sg F0 H (L2.start N (.ref l :: us)) (es0a N l kvs ds) := by
      refine ⟨?_, fun b o e _ => (hd b o e).1, fun b o _ e => (hd b o e).1, fun i y hi => ?_, fun i e hi z => ?_, fun i j e e' l' h1 h2 z1 z2 _ _ => ?_, fun i hi => ?_, fun i kvs' hi => ?_⟩
      · unfold es0a L2.start
        rw [List.length_cons, List.length_append, List.length_append, List.length_map, List.length_map, List.length_replicate, List.length_replicate, List.length_cons, t.length]
        omega
      · cases i with
        | zero => cases hi
        | succ i =>
          obtain ⟨v, e1, t1⟩ := t.get (get_map_d hi)
          exact ⟨v, start_at (by rw [List.getElem?_cons_succ]; exact e1), t1.weak mx⟩
      · cases i with
        | zero =>
          cases hi
          exact ⟨l, start_at rfl, ⟨if_pos rfl, fun z => z.2 rfl⟩, ⟨_, hl⟩, rfl, xs, hl, KvOk.move (fun b o e n => ⟨e, fun z => n (mx b z)⟩) kv⟩
        | succ i => rw [(no i e hi).1] at z; cases z
      · cases i with
        | zero =>
          cases j with
          | zero => rfl
          | succ j => rw [(no j e' h2).1] at z2; cases z2
        | succ i => rw [(no i e h1).1] at z1; cases z1
      · cases i with
        | zero => cases hi
        | succ i => exact absurd rfl (no i _ hi).2.1
      · cases i with
        | zero => cases hi
        | succ i => exact absurd rfl ((no i _ hi).2.2 _)
    refine h cdv A outer s H E hr F0 l kvs ds rfl hp (L2.start N (.ref l :: us)) H _ sg ⟨fun σ' H' es' s' _ po => ?_, fun _ _ _ _ _ _ z => z.elim, fun _ _ _ _ _ z => z.elim, fun _ _ _ _ _ z => z.elim⟩
    obtain ⟨kvs', e0, pp⟩ := po
    obtain ⟨l', q1, q0, _, rfl, xs', r1, r2⟩ := s'.own 0 _ e0 rfl
    refine q H' (fun b o e nb => ?_) ⟨xs', kvs', r1, KvOk.move (fun b o e n => ⟨e, fun z => n ?_⟩) r2, pp⟩
    · have e2 : (fun b => if b = l' then none else H b) b = some o := by show (if b = l' then none else H b) = some o; rw [if_neg nb]; exact e
      by_cases hm : M b
      · exact s'.ok b o ⟨hm, nb⟩ e2
      · exact s'.ext b o e2 fun z => hm z.1
    · by_cases hb : b = l'
      · exact .inr ⟨0, _, e0, rfl, by rw [hb]; exact q1⟩
      · exact .inl ⟨z, hb⟩
end
section
variable {F : Fc} {X : Cx} {e a b c : Expr} {es : List Sl} {Φ : D → Prop} {K : Ek} {pos p pos' pn apos cpos : Pos} {s : Stmt} {ss : List Stmt} {H H' : Hp} {σ : L2.St}
theorem ws_callA {x y qual : Str} {st : Stmt} {k i : Nat} {p2 p4 : Pos} {ps : List Str} {kvs : List (D × D)} {ke ne : Expr} {Pre : List (D × D) → List D → Prop} {Post : List (D × D) → List D → List (D × D) → Prop} (hk : Kn X.prog X.w X.K X.mg X.base x qual st k ps (Ad F.w Pre Post)) (hr : Rm k X.A) (hg : Gl X x) (hd : es[i]? = some (.od kvs))
    (h : W F X ke es fun d1 => W F X ne es fun d2 => Pre kvs [d1, d2] ∧ ∀ kvs', Post kvs [d1, d2] kvs' → K.nx (es.set i (.od kvs')))
    (hN : X.N[i]? = some y := by rfl) (hv : Vis X.env.scope y := by first | exact Or.inl rfl | exact Or.inr (Or.inl rfl) | exact Or.inr (Or.inr rfl))
    (hdb : (x == ("__debug__" : Str)) = false := by decide) (hdy : (y == ("__debug__" : Str)) = false := by decide) (hcy : (y == ("__classdict__" : Str)) = false := by decide)
    (he : starEach [.Name y p2, ke, ne] X.env = (false, eval (.Name y p2) X.env) :: starEach [ke, ne] X.env := by rfl) (he2 : starEach [ke, ne] X.env = (false, eval ke X.env) :: starEach [ne] X.env := by rfl) (he3 : starEach [ne] X.env = (false, eval ne X.env) :: starEach [] X.env := by rfl)
    (hpl : (backTo p4 (starEach [ke, ne] X.env)).any (·.1) = false := by rfl) (hs : swapsWith (.Call (.Name x p) [.Name y p2, ke, ne] [] p4) none pos.line X.env = pure false := by rfl) :
    WS F X (.Expr (.Call (.Name x p) [.Name y p2, ke, ne] [] p4) pos) es K := fun σ H D s g => by
  obtain ⟨f, fd, hF, hm, hf, hb⟩ := hk.ex
  refine ⟨_, ps_expr (pe_callG hF hr hg hm hf.kp hb (pa_cons (pv i hN hv hdy hcy) (pa_cons can_e (pa_cons can_e pa_nil he3) he2) he) hdb he hpl) hs, ?_⟩
  obtain ⟨l, q1, q0, _, xs0, q2, q3⟩ := s.own i _ hd rfl
  refine ⟨.ref l, q1, ?_⟩
  refine h σ H s _ fun v kd H1 s1 x1 t1 h2 => ?_
  refine h2 σ H1 s1 _ fun u nd H2 s2 x2 t2 ⟨pre, po⟩ => ?_
  obtain ⟨l', r1, _, _, xs, r2, r3⟩ := s2.own i _ hd rfl
  rw [q1] at r1
  cases r1
  have lM : Mx F σ es l := .inr ⟨i, _, hd, rfl, q1⟩
  refine ⟨Mx F σ es, l, _, xs, kvs, [kd, nd], rfl, lM, s2.kn, r2, r3, .cons (t1.mono x2.mx) (.cons t2 .nil), pre, fun H' ke' ⟨xs', kvs', e1, e2, pp⟩ => ?_⟩
  have gr : ∀ b o, H2 b = some o → (fun b => if b = l then H2 b else H' b) b = some o := fun b o q => by
    by_cases hb : b = l
    · simp only [hb, if_true]; rw [hb] at q; exact q
    · simp only [hb, if_false]; exact ke' b o q hb
  have eqH : H' = upd (fun b => if b = l then H2 b else H' b) l (ND F.w l xs') := by
    funext b
    by_cases hb : b = l
    · rw [hb, upd_same, e1]
    · rw [upd_ne hb]; simp only [hb, if_false]
  have s3 := s2.grow gr
  have e2' : Paired (KvOk (Mx F σ es) (upd (fun b => if b = l then H2 b else H' b) l (ND F.w l xs'))) xs' kvs' := by rw [← eqH]; exact e2
  obtain ⟨s4, t4⟩ := s3.turn (y := .od kvs') (o := ND F.w l xs') hd rfl rfl q1 (fun od u z => by
    have z : (if l = l then H2 l else H' l) = some (.frz od u) := z
    rw [if_pos rfl, r2] at z
    cases z) fun M hM => ⟨xs', upd_same, KvOk.move (fun b o q n => ⟨q, fun z => n ((hM b).mp z)⟩) e2'⟩
  rw [← eqH] at s4 t4
  exact g.nx _ _ _ s4 ((((Tr.of x1.mx).trans (Tr.of x2.mx)).trans (Tr.of (ExM.of gr))).trans t4) (po kvs' pp)
end
end DW
namespace DW
open PySem PySem.W L2 RZ PyProof.Rows
/-! ### a def that draws and changes the caller's dict: f(deck, u, dict, v, w) -/
def AdK (w : World) (Pre : List (D × D) → D → D → D → Prop) (Post : List (D × D) → D → D → D → List (D × D) → Prop) : Sp := fun vs H Q _ => ∃ (M : Addr → Prop) (a c l : Addr) (u1 u2 u3 : V) (xs : List NKV) (kvs : List (D × D)) (d1 d2 d3 : D), vs = [.ref a, u1, .ref l, u2, u3] ∧ (M a ∧ M c ∧ a ≠ c) ∧ (M l ∧ l ≠ a ∧ l ≠ c) ∧ (∀ b, M b → ∃ o, H b = some o) ∧ Dk a c H ∧ H l = some (ND w l xs) ∧ Paired (KvOk M H) xs kvs ∧ (Dt M H u1 d1 ∧ Dt M H u2 d2 ∧ Dt M H u3 d3) ∧ Pre kvs d1 d2 d3 ∧
  ∀ H', (∀ b o, H b = some o → b ≠ l → b ≠ a → b ≠ c → H' b = some o) → Dk a c H' → (∃ xs' kvs', H' l = some (ND w l xs') ∧ Paired (KvOk M H') xs' kvs' ∧ Post kvs d1 d2 d3 kvs') → Q .non H'
def es0ak (N : List Str) (l : Addr) (kvs : List (D × D)) (d1 d2 d3 : D) : List Sl := .dk :: .d d1 :: .oda l kvs :: .d d2 :: .d d3 :: List.replicate (N.length - 5) .no
theorem no5 {N : List Str} {l : Addr} {kvs : List (D × D)} {d1 d2 d3 : D} {i : Nat} {e : Sl} (h : (es0ak N l kvs d1 d2 d3)[i]? = some e) : (isOwn e = true → i = 2 ∧ e = .oda l kvs) ∧ (e = .dk → i = 0) ∧ (∀ kvs', e ≠ .fd kvs') ∧ (∀ d, e = .d d → (i = 1 ∧ d = d1) ∨ (i = 3 ∧ d = d2) ∨ (i = 4 ∧ d = d3)) := by
  match i, h with
  | 0, h => cases h; exact ⟨fun z => (by cases z), fun _ => rfl, fun _ z => (by cases z), fun _ z => (by cases z)⟩
  | 1, h => cases h; exact ⟨fun z => (by cases z), fun z => (by cases z), fun _ z => (by cases z), fun _ z => (by cases z; exact .inl ⟨rfl, rfl⟩)⟩
  | 2, h => cases h; exact ⟨fun _ => ⟨rfl, rfl⟩, fun z => (by cases z), fun _ z => (by cases z), fun _ z => (by cases z)⟩
  | 3, h => cases h; exact ⟨fun z => (by cases z), fun z => (by cases z), fun _ z => (by cases z), fun _ z => (by cases z; exact .inr (.inl ⟨rfl, rfl⟩))⟩
  | 4, h => cases h; exact ⟨fun z => (by cases z), fun z => (by cases z), fun _ z => (by cases z), fun _ z => (by cases z; exact .inr (.inr ⟨rfl, rfl⟩))⟩
  | i + 5, h =>
    have h : (List.replicate (N.length - 5) Sl.no)[i]? = some e := h
    rw [List.getElem?_replicate] at h
    split at h
    · cases h; exact ⟨fun z => (by cases z), fun z => (by cases z), fun _ z => (by cases z), fun _ z => (by cases z)⟩
    · cases h
section
variable {P : Program} {w : World} {K : PySem.W.Frag} {mg : Str → Option Value} {base : Heap} {x qual : Str} {st : Stmt} {f : Addr} {fd : FuncData} {N ps : List Str} {k : Nat}
theorem ok_adk {Pre : List (D × D) → D → D → D → Prop} {Post : List (D × D) → D → D → D → List (D × D) → Prop} (F : Fun K x qual st f fd) (S : FnScope N ps (defScope st)) (len : ps.length = 5) (hN : 5 ≤ N.length := by decide)
    (h : ∀ (cdv : Value) (A : Around) (outer : List Env) (s : Shared) (H : Hp) (E : XK), Rm k (A.deeper (envOfC qual (defScope st) s.heap.objs.size f cdv)) → ∀ (F : Fc) (l : Addr) (kvs : List (D × D)) (d1 d2 d3 : D), F.w = w → Pre kvs d1 d2 d3 →
      WB F (Xf P w K mg base N qual st f cdv A outer s H E) (defBody st) (es0ak N l kvs d1 d2 d3) { nx := fun es' => ∃ kvs', es'[2]? = some (.oda l kvs') ∧ Post kvs d1 d2 d3 kvs', rt := fun _ => False }) : FnG P w K mg base (k + 1) f fd ps (AdK w Pre Post) := by
  refine ok_g F S (fun vs H Q E hs => ?_) (fun cdv A outer s H vs Q E hr hs => ⟨_, can_b, ?_⟩)
  · obtain ⟨M, a, c, l, u1, u2, u3, xs, kvs, d1, d2, d3, rfl, _⟩ := hs
    exact len.symm
  · obtain ⟨M, a, c, l, u1, u2, u3, xs, kvs, d1, d2, d3, rfl, ⟨ma, mc, ac⟩, ⟨lM, la, lc⟩, kn, dk, hl, kv, ⟨t1, t2, t3⟩, hp, q⟩ := hs
    have hd : ∀ b o, (if b = l then none else H b) = some o → H b = some o ∧ b ≠ l := fun b o e => by
      by_cases hb : b = l
      · rw [if_pos hb] at e; cases e
      · rw [if_neg hb] at e; exact ⟨e, hb⟩
    have kn' : ∀ b, (M b ∧ b ≠ l) → ∃ o, (fun b => if b = l then none else H b) b = some o := fun b z => by
      obtain ⟨o, e⟩ := kn b z.1
      exact ⟨o, by show (if b = l then none else H b) = some o; rw [if_neg z.2]; exact e⟩
    let F0 := FcD w (fun b => M b ∧ b ≠ l) (fun b => if b = l then none else H b) kn' a c ⟨⟨ma, Ne.symm la⟩, ⟨mc, Ne.symm lc⟩, ac⟩
    let σ0 := L2.start N [.ref a, u1, .ref l, u2, u3]
    have e2 : σ0[2]? = some (some (.ref l)) := start_at rfl
    have mx : ∀ b, Mx F0 σ0 (es0ak N l kvs d1 d2 d3) b → M b := fun b z => by
      rcases z with z | ⟨i, e, h1, h2, h3⟩
      · exact z.1
      · obtain ⟨rfl, _⟩ := (no5 h1).1 h2
        rw [e2] at h3
        cases h3
        exact lM
    have sg : Sg F0 H σ0 (es0ak N l kvs d1 d2 d3) := by
      refine ⟨?_, fun b o e _ => (hd b o e).1, ⟨fun b o _ e _ _ => (hd b o e).1, dk⟩, fun i y hi => ?_, fun i e hi z => ?_, fun i j e e' l' h1 h2 z1 z2 _ _ => ?_, fun i hi => ?_, fun i kvs' hi => ?_⟩
      · show _ = (L2.start N [.ref a, u1, .ref l, u2, u3]).length
        unfold es0ak L2.start
        simp only [List.length_cons, List.length_append, List.length_map, List.length_replicate, List.length_nil]
        omega
      · rcases (no5 hi).2.2.2 y rfl with ⟨rfl, rfl⟩ | ⟨rfl, rfl⟩ | ⟨rfl, rfl⟩
        · exact ⟨u1, start_at rfl, t1.weak mx⟩
        · exact ⟨u2, start_at rfl, t2.weak mx⟩
        · exact ⟨u3, start_at rfl, t3.weak mx⟩
      · obtain ⟨rfl, rfl⟩ := (no5 hi).1 z
        exact ⟨l, e2, ⟨if_pos rfl, fun z => z.2 rfl⟩, ⟨_, hl⟩, rfl, xs, hl, KvOk.move (fun b o e n => ⟨e, fun z => n (mx b z)⟩) kv⟩
      · rw [((no5 h1).1 z1).1, ((no5 h2).1 z2).1]
      · rw [(no5 hi).2.1 rfl]
        exact ⟨a, c, rfl, start_at rfl⟩
      · exact absurd rfl ((no5 hi).2.2.1 _)
    refine h cdv A outer s H E hr F0 l kvs d1 d2 d3 rfl hp σ0 H _ sg ⟨fun σ' H' es' s' _ po => ?_, fun _ _ _ _ _ _ z => z.elim, fun _ _ _ _ _ z => z.elim, fun _ _ _ _ _ z => z.elim⟩
    obtain ⟨kvs', e0, pp⟩ := po
    obtain ⟨l', q1, q0, _, rfl, xs', r1, r2⟩ := s'.own 2 _ e0 rfl
    refine q H' (fun b o e nb na nc => ?_) s'.ok.2 ⟨xs', kvs', r1, KvOk.move (fun b o e n => ⟨e, fun z => n ?_⟩) r2, pp⟩
    · have e2 : (fun b => if b = l' then none else H b) b = some o := by show (if b = l' then none else H b) = some o; rw [if_neg nb]; exact e
      by_cases hm : M b
      · exact s'.ok.1 b o ⟨hm, nb⟩ e2 na nc
      · exact s'.ext b o e2 fun z => hm z.1
    · by_cases hb : b = l'
      · exact .inr ⟨2, _, e0, rfl, by rw [hb]; exact q1⟩
      · exact .inl ⟨z, hb⟩
end
section
variable {F : Fc} {X : Cx} {e a b c : Expr} {es : List Sl} {Φ : D → Prop} {K : Ek} {pos p pos' pn apos cpos : Pos} {s : Stmt} {ss : List Stmt} {H H' : Hp} {σ : L2.St}
theorem ws_callAK {x y z qual : Str} {st : Stmt} {k i j : Nat} {p2 p3 p4 : Pos} {ps : List Str} {kvs : List (D × D)} {e1 e2 e3 : Expr} {Pre : List (D × D) → D → D → D → Prop} {Post : List (D × D) → D → D → D → List (D × D) → Prop} (hk : Kn X.prog X.w X.K X.mg X.base x qual st k ps (AdK F.w Pre Post)) (hr : Rm k X.A) (hg : Gl X x) (hj : es[j]? = some .dk) (hd : es[i]? = some (.od kvs))
    (h : W F X e1 es fun d1 => W F X e2 es fun d2 => W F X e3 es fun d3 => Pre kvs d1 d2 d3 ∧ ∀ kvs', Post kvs d1 d2 d3 kvs' → K.nx (es.set i (.od kvs')))
    (hN : X.N[i]? = some y := by rfl) (hv : Vis X.env.scope y := by first | exact Or.inl rfl | exact Or.inr (Or.inl rfl) | exact Or.inr (Or.inr rfl)) (hNz : X.N[j]? = some z := by rfl) (hvz : Vis X.env.scope z := by first | exact Or.inl rfl | exact Or.inr (Or.inl rfl) | exact Or.inr (Or.inr rfl))
    (hdb : (x == ("__debug__" : Str)) = false := by decide) (hdy : (y == ("__debug__" : Str)) = false := by decide) (hcy : (y == ("__classdict__" : Str)) = false := by decide) (hdz : (z == ("__debug__" : Str)) = false := by decide) (hcz : (z == ("__classdict__" : Str)) = false := by decide)
    (he0 : starEach [.Name z p3, e1, .Name y p2, e2, e3] X.env = (false, eval (.Name z p3) X.env) :: starEach [e1, .Name y p2, e2, e3] X.env := by rfl) (he1 : starEach [e1, .Name y p2, e2, e3] X.env = (false, eval e1 X.env) :: starEach [.Name y p2, e2, e3] X.env := by rfl) (he : starEach [.Name y p2, e2, e3] X.env = (false, eval (.Name y p2) X.env) :: starEach [e2, e3] X.env := by rfl) (he2 : starEach [e2, e3] X.env = (false, eval e2 X.env) :: starEach [e3] X.env := by rfl) (he3 : starEach [e3] X.env = (false, eval e3 X.env) :: starEach [] X.env := by rfl)
    (hpl : (backTo p4 (starEach [e1, .Name y p2, e2, e3] X.env)).any (·.1) = false := by rfl) (hs : swapsWith (.Call (.Name x p) [.Name z p3, e1, .Name y p2, e2, e3] [] p4) none pos.line X.env = pure false := by rfl) :
    WS F X (.Expr (.Call (.Name x p) [.Name z p3, e1, .Name y p2, e2, e3] [] p4) pos) es K := fun σ H D s g => by
  obtain ⟨f, fd, hF, hm, hf, hb⟩ := hk.ex
  refine ⟨_, ps_expr (pe_callG hF hr hg hm hf.kp hb (pa_cons (pv j hNz hvz hdz hcz) (pa_cons can_e (pa_cons (pv i hN hv hdy hcy) (pa_cons can_e (pa_cons can_e pa_nil he3) he2) he) he1) he0) hdb he0 hpl) hs, ?_⟩
  obtain ⟨da, dc, hdk, hz⟩ := s.dk j hj
  obtain ⟨m1, m2, m3⟩ := F.dkM da dc hdk
  refine ⟨.ref da, hz, ?_⟩
  refine h σ H s _ fun v1 d1 H1 s1 x1 t1 h2 => ?_
  obtain ⟨l, q1, q0, _, xs0, q2, q3⟩ := s1.own i _ hd rfl
  refine ⟨.ref l, q1, ?_⟩
  refine h2 σ H1 s1 _ fun v2 d2 H2 s2 x2 t2 h3 => ?_
  refine h3 σ H2 s2 _ fun v3 d3 H3 s3 x3 t3 ⟨pre, po⟩ => ?_
  obtain ⟨l', r1, _, _, xs, r2, r3⟩ := s3.own i _ hd rfl
  rw [q1] at r1
  cases r1
  have la : l ≠ da := fun y => q0.2 (by rw [y]; exact m1)
  have lc : l ≠ dc := fun y => q0.2 (by rw [y]; exact m2)
  have lM : Mx F σ es l := .inr ⟨i, _, hd, rfl, q1⟩
  refine ⟨Mx F σ es, da, dc, l, v1, v2, v3, xs, kvs, d1, d2, d3, rfl, ⟨.inl m1, .inl m2, m3⟩, ⟨lM, la, lc⟩, s3.kn, F.dkH da dc hdk H3 s3.ok, r2, r3, ⟨(t1.mono x2.mx).mono x3.mx, t2.mono x3.mx, t3⟩, pre, fun H' ke' kd ⟨xs', kvs', f1, f2, pp⟩ => ?_⟩
  have gr : ∀ b o, H3 b = some o → b ≠ da → b ≠ dc → (fun b => if b = l then H3 b else H' b) b = some o := fun b o q na nc => by
    by_cases hb : b = l
    · simp only [hb, if_true]; rw [hb] at q; exact q
    · simp only [hb, if_false]; exact ke' b o q hb na nc
  have eqH : H' = upd (fun b => if b = l then H3 b else H' b) l (ND F.w l xs') := by
    funext b
    by_cases hb : b = l
    · rw [hb, upd_same, f1]
    · rw [upd_ne hb]; simp only [hb, if_false]
  have kd' : Dk da dc (fun b => if b = l then H3 b else H' b) := by
    obtain ⟨ns, m, kk, g1, g2, g3⟩ := kd
    exact ⟨ns, m, kk, by simp only [Ne.symm la, if_false]; exact g1, by simp only [Ne.symm lc, if_false]; exact g2, g3⟩
  obtain ⟨s4, x4⟩ := s3.deck hdk gr kd'
  have f2' : Paired (KvOk (Mx F σ es) (upd (fun b => if b = l then H3 b else H' b) l (ND F.w l xs'))) xs' kvs' := by rw [← eqH]; exact f2
  obtain ⟨s5, t5⟩ := s4.turn (y := .od kvs') (o := ND F.w l xs') hd rfl rfl q1 (fun od u z => by
    have z : (if l = l then H3 l else H' l) = some (.frz od u) := z
    rw [if_pos rfl, r2] at z
    cases z) fun M hM => ⟨xs', upd_same, KvOk.move (fun b o q n => ⟨q, fun z => n ((hM b).mp z)⟩) f2'⟩
  rw [← eqH] at s5 t5
  exact g.nx _ _ _ s5 (((((Tr.of x1.mx).trans (Tr.of x2.mx)).trans (Tr.of x3.mx)).trans (Tr.of x4.mx)).trans t5) (po kvs' pp)
end
end DW
namespace DW
open PySem PySem.W L2 RZ PyProof.Rows
section
variable {X : Cx} {pos : Pos} {k v : Expr} {tk tv : TE}
/-- {(i, j, ..): y}: one entry, the key a tuple of ints and texts -/
def tDisp1 (trs : List (TE × TE)) : TE := fun σ H Q => ∀ p, H p = none → tPairs trs σ (upd H p (.dT [])) fun ps H2 => H2 p = some (.dT []) ∧ ∃ (b : Addr) (ks : List Key) (y : V), ps = [(.ref b, y)] ∧ H2 b = some (.tup (ks.map kV)) ∧ Q (.ref p) (upd H2 p (.dT [(ks, y)]))
theorem pe_disp1 {trs : List (TE × TE)} (hu : X.A.units + 1 < cLine) (h : PPs X pos [some k] [v] trs) : PE X (.Dict [some k] [v] pos) (tDisp1 trs) := by
  refine ⟨fun pins s σ H Q I want => ?_⟩
  have free := I.hok.fresh (Nat.le_refl s.heap.objs.size)
  have I1 := I.laid (a := s.heap.objs.size) (o := .dT []) (h' := s.heap.push { cls := .type "dict", data := .dict #[] }) (t' := s.toks) (fun _ _ q => Heap.get?_push_of_some _ q) (Nat.le_refl _) (dt_empty s.heap I.big)
  have hz := zip_pairTrees [some k] [v] X.env pos rfl rfl
  have hlp : (pairTrees [some k] [v] X.env pos).length = 1 := pairTrees_length [some k] [v] X.env pos rfl rfl
  rw [arm_eval_Dict, hz, dictDisplay_pairs _ (fun e => by rw [e] at hlp; cases hlp) (by rw [hlp]; decide)]
  refine wpAny_bind (wpAny_standAt (wpAny_bind (wpAny_subDictH (knd := tupleKind (mixKind X.prog X.w)) (show X.A.units < cLine by omega) (by rw [hlp]; decide) (thn (h.run pins _ σ _ _ I1 (want _ free)) fun ws s2 ⟨ps, H2, I2, rel, e, b, ks, y, ep, eb, q2⟩ => ?_))))
  subst ep
  cases rel with
  | @cons a c as cs h1 t =>
    cases t
    obtain ⟨c1, c2⟩ := c
    obtain ⟨r1, r2⟩ := h1
    cases (show c1 = Value.ref b from r1)
    obtain ⟨z, hd, xs, r0, dd⟩ := dt_of I2.hok e
    cases r0
    refine ⟨[(ks, b, c2)], ⟨rfl, rfl, key_of I2.hok eb, trivial⟩, dd, fun h' tk' dd' hs => wpAny_pure ?_⟩
    obtain ⟨o, es, ep', g1, g2, g3, g4, _, g5⟩ := dd'
    refine ⟨.ref s.heap.objs.size, _, d_write (ob := .dT [(ks, y)]) I2 (by rw [e]; exact True.intro) hs ⟨o, g1⟩ ⟨by rw [sizeLine_eq]; show 1 ≤ _; decide, hd, [(ks, b, c2)], .cons ⟨rfl, ?_, r2⟩ .nil, o, es, ep', g1, g2, g3, g4, g5⟩, rfl, q2⟩
    show upd H2 s.heap.objs.size _ b = some (.tup (ks.map kV))
    rw [upd_ne (ne_of eb e (fun z => nomatch z))]
    exact eb
end
end DW
namespace DW
open PySem PySem.W L2 RZ PyProof.Rows
section
variable {M : Addr → Prop} {H : Hp} {p : Addr} {ka kb : List (List Key × V)}
mutual
theorem Dt.upDct (hp : H p = some (.dT ka)) : ∀ (d : D) (v : V), Dt M H v d → Dt M (upd H p (.dT kb)) v d
  | .none, _, h => by cases h; exact .non
  | .bool b, _, h => by cases h; exact .bl b
  | .int i, _, h => by cases h; exact .int i
  | .str x, _, h => by cases h; exact .str x
  | .list ds, _, h => by
    cases h with
    | lst h1 h2 h3 => exact .lst (by rw [upd_ne fun z => by rw [z, hp] at h1; cases h1]; exact h1) h2 (DtA.upDct hp ds _ h3)
  | .tuple ds, _, h => by
    cases h with
    | tup h1 h2 h3 => exact .tup (by rw [upd_ne fun z => by rw [z, hp] at h1; cases h1]; exact h1) h2 (DtA.upDct hp ds _ h3)
  | .dict _, _, h => by
    cases h with
    | @dct a o h1 h2 h3 =>
      by_cases e : a = p
      · exact .dct (o := .dT kb) (by rw [e, upd_same]) h2 True.intro
      · exact .dct (by rw [upd_ne e]; exact h1) h2 h3
    | ins h1 h2 => exact .ins (by rw [upd_ne fun z => by rw [z, hp] at h1; cases h1]; exact h1) h2
theorem DtA.upDct (hp : H p = some (.dT ka)) : ∀ (ds : List D) (vs : List V), DtA M H vs ds → DtA M (upd H p (.dT kb)) vs ds
  | [], _, h => by cases h; exact .nil
  | d :: ds, _, h => by
    cases h with
    | cons h1 h2 => exact .cons (Dt.upDct hp d _ h1) (DtA.upDct hp ds _ h2)
end
theorem KvOk.upDct (hp : H p = some (.dT ka)) : ∀ {xs : List NKV} {kvs : List (D × D)}, Paired (KvOk M H) xs kvs → Paired (KvOk M (upd H p (.dT kb))) xs kvs
  | _, _, .nil => .nil
  | _, _, .cons r t => .cons ⟨r.1, r.2.1, r.2.2.1, Dt.upDct hp _ _ r.2.2.2.1, Dt.upDct hp _ _ r.2.2.2.2⟩ (KvOk.upDct hp t)
end
section
variable {F : Fc} {H : Hp} {σ : L2.St} {es : List Sl} {p : Addr} {ka kb : List (List Key × V)}
theorem Sg.upDct (s : Sg F H σ es) (hp : H p = some (.dT ka)) (h0 : F.H0 p = none) (hm : ¬ Mx F σ es p) : Sg F (upd H p (.dT kb)) σ es where
  len := s.len
  ext := fun b o e n => by rw [upd_ne (ne_of_none e h0)]; exact s.ext b o e n
  ok := F.okx H _ s.ok fun b o hb e => by rw [upd_ne fun z => hm (by rw [← z]; exact .inl hb)]; exact e
  dat := fun i x h => let ⟨v, q, r⟩ := s.dat i x h; ⟨v, q, Dt.upDct hp _ _ r⟩
  own := fun i e h z => by
    obtain ⟨l, q1, q0, ⟨o, q2⟩, q3⟩ := s.own i e h z
    have hl : l ≠ p := fun y => hm (by rw [← y]; exact .inr ⟨i, e, h, z, q1⟩)
    refine ⟨l, q1, q0, ⟨o, by rw [upd_ne hl]; exact q2⟩, ?_⟩
    cases e with
    | own ds =>
      obtain ⟨ys, g1, g2⟩ := q3
      exact ⟨ys, by rw [upd_ne hl]; exact g1, DtA.upDct hp _ _ g2⟩
    | od kvs =>
      obtain ⟨ys, g1, g2⟩ := q3
      exact ⟨ys, by rw [upd_ne hl]; exact g1, KvOk.upDct hp g2⟩
    | oda l0 kvs =>
      obtain ⟨g0, ys, g1, g2⟩ := q3
      exact ⟨g0, ys, by rw [upd_ne hl]; exact g1, KvOk.upDct hp g2⟩
    | _ => trivial
  inj := s.inj
  dk := s.dk
  fd := fun i kvs h => by
    obtain ⟨l, od, xs, q1, q2, q4, q3⟩ := s.fd i kvs h
    exact ⟨l, od, xs, q1, by rw [upd_ne fun z => by rw [z, hp] at q2; cases q2]; exact q2, q4, KvOk.upDct hp q3⟩
end
section
variable {F : Fc} {X : Cx} {k v : Expr} {es : List Sl} {Φ : D → Prop} {pos : Pos}
/-- {(i, j, ..): y} as a value -/
theorem w_dct1 (hu : X.A.units + 1 < cLine) (h : W F X k es fun kd => ∃ xs : List Int, kd = .tuple (xs.map PyData.int) ∧ W F X v es fun _ => Φ (.dict [])) : W F X (.Dict [some k] [v] pos) es Φ := fun σ H s Q kk => by
  refine ⟨_, pe_disp1 hu (pps_cons can_e can_e pps_nil), fun p hp => ?_⟩
  have nm0 := s.fresh hp
  have h0 : F.H0 p = none := by
    cases e : F.H0 p with
    | none => rfl
    | some o => have := s.ext p o e fun z => nm0 (.inl z); rw [hp] at this; cases this
  refine h σ _ (s.new hp) _ fun kv kd H1 s1 x1 t1 ⟨xs, e, hv⟩ => ?_
  subst e
  refine hv σ H1 s1 _ fun vv vd H2 s2 x2 t2 ph => ?_
  have p1 : H1 p = some (.dT []) := x1 p _ upd_same fun z => nm0 (.inl z)
  have p2 : H2 p = some (.dT []) := x2 p _ p1 fun z => nm0 (.inl z)
  obtain ⟨b, vs, rfl, g1, g2, g3⟩ := id t1.tup_inv
  have hb : H2 b = some (.tup vs) := x2 b _ g1 fun z => g2 (.inl z)
  rw [g3.ints] at hb
  refine ⟨p2, b, xs.map (fun i => (Sum.inl i : Key)), vv, rfl, by rw [hb, List.map_map]; rfl, ?_⟩
  refine kk _ _ _ (s2.upDct p2 h0 nm0) (fun c o e n => ?_) (.dct upd_same nm0 True.intro) ph
  have hc : c ≠ p := ne_of_none e hp
  rw [upd_ne hc]
  exact x2 c o (x1 c o (by rw [upd_ne hc]; exact e) n) n
end
end DW
/-! TY: shapes of data over DW -/
namespace DW
open PySem PySem.W L2 RZ PyProof.Rows
abbrev Ty := D → Prop
abbrev Tup (ts : List Ty) (ds : List D) : Prop := Paired (fun (t : Ty) d => t d) ts ds
def TI (lo hi : Int) : Ty := fun d => ∃ i : Int, d = .int i ∧ lo ≤ i ∧ i ≤ hi
def TB : Ty := fun d => ∃ b : Bool, d = .bool b
def TQ (z : D) : Ty := fun d => d = z
def TO (a b : Ty) : Ty := fun d => a d ∨ b d
def TS0 (n : Nat) : Ty := fun d => ∃ x : Str, d = .str x ∧ x.length ≤ n
def TV (t : Ty) (lo hi : Nat) : Ty := fun d => ∃ ds, d = .tuple ds ∧ lo ≤ ds.length ∧ ds.length ≤ hi ∧ ∀ x ∈ ds, t x
def TT (ts : List Ty) : Ty := fun d => ∃ ds, d = .tuple ds ∧ Tup ts ds
def LV (t : Ty) (lo hi : Nat) : Ty := fun d => ∃ ds, d = .list ds ∧ lo ≤ ds.length ∧ ds.length ≤ hi ∧ ∀ x ∈ ds, t x
/-- .. one below another -/
abbrev Sb (a b : Ty) : Prop := ∀ d, a d → b d
abbrev Sbs (as bs : List Ty) : Prop := Paired (fun a b => Sb a b) as bs
theorem sb_r {a : Ty} : Sb a a := fun _ h => h
theorem sb_t {a b c : Ty} (h : Sb a b) (g : Sb b c) : Sb a c := fun d q => g d (h d q)
theorem sb_I {a b c e : Int} (h1 : c ≤ a) (h2 : b ≤ e) : Sb (TI a b) (TI c e) := fun _ ⟨i, q, q1, q2⟩ => ⟨i, q, by omega, by omega⟩
theorem sb_E {z : D} {b : Ty} (h : b z) : Sb (TQ z) b := fun _ q => q ▸ h
theorem sb_O {a b c : Ty} (h : Sb a c) (g : Sb b c) : Sb (TO a b) c := fun d q => q.elim (h d) (g d)
theorem sb_l {a b c : Ty} (h : Sb a b) : Sb a (TO b c) := fun d q => .inl (h d q)
theorem sb_rr {a b c : Ty} (h : Sb a c) : Sb a (TO b c) := fun d q => .inr (h d q)
theorem sb_V {a b : Ty} {l h l' h' : Nat} (s : Sb a b) (h1 : l' ≤ l) (h2 : h ≤ h') : Sb (TV a l h) (TV b l' h') := fun _ ⟨ds, e, q1, q2, q3⟩ => ⟨ds, e, by omega, by omega, fun x hx => s x (q3 x hx)⟩
theorem sb_L {a b : Ty} {l h l' h' : Nat} (s : Sb a b) (h1 : l' ≤ l) (h2 : h ≤ h') : Sb (LV a l h) (LV b l' h') := fun _ ⟨ds, e, q1, q2, q3⟩ => ⟨ds, e, by omega, by omega, fun x hx => s x (q3 x hx)⟩
theorem tup_len {ts : List Ty} {ds : List D} (h : Tup ts ds) : ts.length = ds.length := paired_len h
theorem tup_all {b : Ty} : ∀ {ts : List Ty} {ds : List D}, (∀ t ∈ ts, Sb t b) → Tup ts ds → ∀ d ∈ ds, b d
  | _, _, _, .nil, d, hd => by cases hd
  | t :: ts, e :: ds, s, .cons q r, d, hd => by
    rcases List.mem_cons.mp hd with z | z
    · rw [z]; exact s t List.mem_cons_self _ q
    · exact tup_all (fun t ht => s t (List.mem_cons_of_mem _ ht)) r d z
theorem alls_nil {b : Ty} : ∀ t ∈ ([] : List Ty), Sb t b := fun _ h => by cases h
theorem alls_cons {a b : Ty} {ts : List Ty} (h : Sb a b) (g : ∀ t ∈ ts, Sb t b) : ∀ t ∈ a :: ts, Sb t b := fun t ht => by
  rcases List.mem_cons.mp ht with z | z
  · rw [z]; exact h
  · exact g t z
theorem sb_TV {b : Ty} {ts : List Ty} {l h : Nat} (s : ∀ t ∈ ts, Sb t b) (h1 : l ≤ ts.length) (h2 : ts.length ≤ h) : Sb (TT ts) (TV b l h) := fun _ ⟨ds, e, q⟩ => ⟨ds, e, by rw [← tup_len q]; exact h1, by rw [← tup_len q]; exact h2, tup_all s q⟩
theorem sbs_ap : ∀ {as bs : List Ty} {ds : List D}, Sbs as bs → Tup as ds → Tup bs ds
  | _, _, _, .nil, .nil => .nil
  | _, _, _, .cons h t, .cons q r => .cons (h _ q) (sbs_ap t r)
theorem sb_T {as bs : List Ty} (s : Sbs as bs) : Sb (TT as) (TT bs) := fun _ ⟨ds, e, q⟩ => ⟨ds, e, sbs_ap s q⟩
theorem sb_A {K : PySem.W.Frag} {n m : Nat} (h : n ≤ m) : Sb (A3.Wd K n) (A3.Wd K m) := fun _ q => q.mono h
theorem natAbs_pow {i : Int} {n : Nat} (h1 : -((2 : Int) ^ n) ≤ i) (h2 : i ≤ (2 : Int) ^ n) : i.natAbs ≤ 2 ^ n := by
  have h : ((2 ^ n : Nat) : Int) = (2 : Int) ^ n := Int.natCast_pow 2 n
  rw [← h] at h1 h2
  omega
theorem wd_I {K : PySem.W.Frag} {n : Nat} {a b : Int} (h1 : -((2 : Int) ^ 1000) ≤ a) (h2 : b ≤ (2 : Int) ^ 1000) : Sb (TI a b) (A3.Wd K n) := fun _ ⟨i, e, q1, q2⟩ => e ▸ .int (Nat.le_trans (natAbs_pow (Int.le_trans h1 q1) (Int.le_trans q2 h2)) (Nat.le_add_right _ _))
theorem wd_B {K : PySem.W.Frag} {n : Nat} : Sb TB (A3.Wd K n) := fun _ ⟨b, e⟩ => e ▸ .bl b
theorem wd_S {K : PySem.W.Frag} {n m : Nat} (h : m ≤ 1000) : Sb (TS0 m) (A3.Wd K n) := fun _ ⟨x, e, q⟩ => e ▸ .str (by omega)
theorem wd_V {K : PySem.W.Frag} {n l h : Nat} {a : Ty} (s : Sb a (A3.Wd K n)) (h2 : h ≤ 3000) : Sb (TV a l h) (A3.Wd K n) := fun _ ⟨ds, e, _, q2, q3⟩ => e ▸ .tup (by omega) fun d hd => s d (q3 d hd)
theorem wd_L {K : PySem.W.Frag} {n l h : Nat} {a : Ty} (s : Sb a (A3.Wd K n)) (h2 : h ≤ 3000) : Sb (LV a l h) (A3.Wd K n) := fun _ ⟨ds, e, _, q2, q3⟩ => e ▸ .lst (by omega) fun d hd => s d (q3 d hd)
theorem wd_T {K : PySem.W.Frag} {n : Nat} {ts : List Ty} (s : ∀ t ∈ ts, Sb t (A3.Wd K n)) (h2 : ts.length ≤ 3000) : Sb (TT ts) (A3.Wd K n) := fun _ ⟨ds, e, q⟩ => e ▸ .tup (by rw [← tup_len q]; omega) (tup_all s q)
theorem wd_N {K : PySem.W.Frag} {n : Nat} : Sb (TQ .none) (A3.Wd K n) := sb_E .non
/-! slots -/
inductive Sy where
  | no
  | dk
  | d (t : Ty)
  | own (t : Ty) (lo hi : Nat)
  | q (p : Sl → Prop)
def Sy.ok : Sy → Sl → Prop
  | .no, e => e = .no ∨ ∃ x, e = .d x
  | .dk, e => e = .dk
  | .d t, e => ∃ x, e = .d x ∧ t x
  | .own t lo hi, e => ∃ ds, e = .own ds ∧ lo ≤ ds.length ∧ ds.length ≤ hi ∧ ∀ x ∈ ds, t x
  | .q p, e => p e
abbrev TS (τ : List Sy) (es : List Sl) : Prop := Paired (fun y e => Sy.ok y e) τ es
theorem TS.len {τ : List Sy} {es : List Sl} (h : TS τ es) : τ.length = es.length := paired_len h
theorem TS.get : ∀ {τ : List Sy} {es : List Sl} {i : Nat} {y : Sy}, TS τ es → τ[i]? = some y → ∃ e, es[i]? = some e ∧ y.ok e
  | _, _, _, _, .nil, h => by simp at h
  | _ :: _, e :: _, 0, y, .cons q r, h => by
    simp at h; subst h; exact ⟨e, rfl, q⟩
  | _ :: _, _ :: _, i + 1, y, .cons q r, h => by
    obtain ⟨e, h1, h2⟩ := TS.get (i := i) r (by simpa using h)
    exact ⟨e, by simpa using h1, h2⟩
theorem TS.set {y : Sy} {e : Sl} (g : y.ok e) : ∀ {τ : List Sy} {es : List Sl} {i : Nat}, TS τ es → TS (τ.set i y) (es.set i e)
  | _, _, _, .nil => .nil
  | _ :: _, _ :: _, 0, .cons q r => .cons g r
  | _ :: _, _ :: _, i + 1, .cons q r => .cons q (TS.set g r)
/-- a refinement of one slot -/
theorem TS.upd {y : Sy} {e : Sl} (g : y.ok e) : ∀ {τ : List Sy} {es : List Sl} {i : Nat}, TS τ es → es[i]? = some e → TS (τ.set i y) es
  | _, _, _, .nil, _ => .nil
  | _ :: _, _ :: _, 0, .cons q r, h => by simp at h; subst h; exact .cons g r
  | _ :: _, _ :: _, i + 1, .cons q r, h => .cons q (TS.upd g r (by simpa using h))
abbrev Sys (a b : List Sy) : Prop := ∀ es, TS a es → TS b es
abbrev Sy1 (a b : Sy) : Prop := ∀ e, a.ok e → b.ok e
theorem sy_r {a : Sy} : Sy1 a a := fun _ h => h
theorem sy_d {a b : Ty} (h : Sb a b) : Sy1 (.d a) (.d b) := fun _ ⟨x, e, q⟩ => ⟨x, e, h x q⟩
theorem sy_no {a : Ty} : Sy1 (.d a) .no := fun _ ⟨x, e, _⟩ => .inr ⟨x, e⟩
theorem sy_own {a b : Ty} {l h l' h' : Nat} (s : Sb a b) (h1 : l' ≤ l) (h2 : h ≤ h') : Sy1 (.own a l h) (.own b l' h') := fun _ ⟨x, e, q1, q2, q3⟩ => ⟨x, e, by omega, by omega, fun d hd => s d (q3 d hd)⟩
theorem sys_r {a : List Sy} : Sys a a := fun _ h => h
theorem sys_nil : Sys [] [] := sys_r
theorem sys_cons {a b : Sy} {as bs : List Sy} (h : Sy1 a b) (g : Sys as bs) : Sys (a :: as) (b :: bs) := fun es q => by
  cases q with
  | cons q1 q2 => exact .cons (h _ q1) (g _ q2)
/-! judgements -/
section
variable {F : Fc} {X : Cx} {e a b c elt tg iter : Expr} {τ τ1 τ0 τ' τ2 : List Sy} {t u v R : Ty} {ts : List Ty} {pos p p2 : Pos} {s : Stmt} {ss : List Stmt} {r : List Expr} {B C : List Sl → Prop} {lo hi lo' hi' : Nat} {l h l' h' : Int}
def WT (F : Fc) (X : Cx) (e : Expr) (τ : List Sy) (t : Ty) : Prop := ∀ es, TS τ es → W F X e es t
def WAT (F : Fc) (X : Cx) (r : List Expr) (τ : List Sy) (ts : List Ty) : Prop := ∀ es, TS τ es → WA F X r es (Tup ts)
def WLT (F : Fc) (X : Cx) (e : Expr) (τ : List Sy) (t : Ty) (lo hi : Nat) : Prop := ∀ es, TS τ es → WL F X e es fun ds => lo ≤ ds.length ∧ ds.length ≤ hi ∧ ∀ x ∈ ds, t x
def CT (F : Fc) (X : Cx) (e : Expr) (τ τ1 τ0 : List Sy) : Prop := ∀ es, TS τ es → T F X e es fun k => (k = true → TS τ1 es) ∧ (k = false → TS τ0 es)
def ST (F : Fc) (X : Cx) (s : Stmt) (τ τ' : List Sy) (R : Ty) (B C : List Sl → Prop) : Prop := ∀ es, TS τ es → WS F X s es { nx := TS τ', rt := R, bk := B, ct := C }
def BT (F : Fc) (X : Cx) (ss : List Stmt) (τ τ' : List Sy) (R : Ty) (B C : List Sl → Prop) : Prop := ∀ es, TS τ es → WB F X ss es { nx := TS τ', rt := R, bk := B, ct := C }
def ITT (F : Fc) (X : Cx) (tg e : Expr) (τ : List Sy) (t : Ty) (lo hi : Nat) : Prop := ∀ es, TS τ es → It1 F X tg e es fun ds => lo ≤ ds.length ∧ ds.length ≤ hi ∧ ∀ x ∈ ds, t x
def TGT (F : Fc) (X : Cx) (tg : Expr) (L : List Nat) (τ : List Sy) (t : Ty) (τ' : List Sy) : Prop := ∀ es d, TS τ es → t d → TG1 F X tg L es d (TS τ')
def TGLT (F : Fc) (X : Cx) (tg : List Expr) (L : List Nat) (τ : List Sy) (ts : List Ty) (τ' : List Sy) : Prop := ∀ es ds, TS τ es → Tup ts ds → TGL F X tg L es ds (TS τ')
theorem WT.sub (h : WT F X e τ t) (s : Sb t u) : WT F X e τ u := fun es q => (h es q).imp s
theorem WT.at (h : WT F X e τ t) (s : Sys τ' τ) : WT F X e τ' t := fun es q => h es (s es q)
theorem bt_run {es : List Sl} {K : Ek} (h : BT F X ss τ τ' R (fun _ => False) fun _ => False) (g : TS τ es) (n : ∀ es', TS τ' es' → K.nx es') (r : ∀ d, R d → K.rt d) : WB F X ss es K := fun σ H D sg go =>
  h es g σ H D sg ⟨fun σ' H' es' s' t q => go.nx σ' H' es' s' t (n es' q), fun v d H' x o t q => go.rt v d H' x o t (r d q), fun _ _ _ _ _ z => z.elim, fun _ _ _ _ _ z => z.elim⟩
theorem BT.sub (h : BT F X ss τ1 τ0 R B C) (s1 : Sys τ τ1) (s2 : Sys τ0 τ') : BT F X ss τ τ' R B C := fun es g σ H D sg go => h es (s1 es g) σ H D sg ⟨fun σ' H' es' s' t q => go.nx σ' H' es' s' t (s2 es' q), go.rt, go.bk, go.ct⟩
/-! expressions -/
theorem t_var {i : Nat} {x : Str} (hi : τ[i]? = some (.d t)) (hN : X.N[i]? = some x := by rfl) (hv : Vis X.env.scope x := by first | exact Or.inl rfl | exact Or.inr (Or.inl rfl) | exact Or.inr (Or.inr rfl))
    (hd : (x == ("__debug__" : Str)) = false := by decide) (hcd : (x == ("__classdict__" : Str)) = false := by decide) : WT F X (.Name x pos) τ t := fun es g => by
  obtain ⟨_, h1, d, rfl, q⟩ := g.get hi
  exact w_var h1 hN hv q hd hcd
theorem t_int {i : Int} {j : Nat} (q : t (.int i)) : WT F X (.Constant (.int i) j pos) τ t := fun es g => w_int q
theorem t_intI {i : Int} {j : Nat} : WT F X (.Constant (.int i) j pos) τ (TI i i) := fun es g => w_int ⟨i, rfl, Int.le_refl _, Int.le_refl _⟩
theorem t_bool {i : Bool} {j : Nat} : WT F X (.Constant (.bool i) j pos) τ (TQ (.bool i)) := fun es g => w_bool rfl
theorem t_none {j : Nat} : WT F X (.Constant .none j pos) τ (TQ .none) := fun es g => w_none rfl
theorem t_str {x : Str} {j : Nat} : WT F X (.Constant (.str x) j pos) τ (TQ (.str x)) := fun es g => w_str rfl
theorem t_add (ha : WT F X a τ (TI l h)) (hb : WT F X b τ (TI l' h')) : WT F X (.BinOp a .Add b pos) τ (TI (l + l') (h + h')) := fun es g => w_bin ((ha es g).imp fun _ ⟨i, e, q1, q2⟩ => e ▸ (hb es g).imp fun _ ⟨j, e', q3, q4⟩ => e' ▸ ⟨_, od_add, _, rfl, by omega, by omega⟩)
theorem t_sub (ha : WT F X a τ (TI l h)) (hb : WT F X b τ (TI l' h')) : WT F X (.BinOp a .Sub b pos) τ (TI (l - h') (h - l')) := fun es g => w_bin ((ha es g).imp fun _ ⟨i, e, q1, q2⟩ => e ▸ (hb es g).imp fun _ ⟨j, e', q3, q4⟩ => e' ▸ ⟨_, od_sub, _, rfl, by omega, by omega⟩)
theorem t_neg (ha : WT F X a τ (TI l h)) : WT F X (.UnaryOp .USub a pos) τ (TI (-h) (-l)) := fun es g => w_un ((ha es g).imp fun _ ⟨i, e, q1, q2⟩ => e ▸ ⟨_, ud_neg, _, rfl, by omega, by omega⟩)
theorem t_fdiv {m : Int} {j : Nat} {p : Pos} (ha : WT F X a τ (TI l h)) (hm : 0 < m) (hm2 : m < 2 ^ 30) : WT F X (.BinOp a .FloorDiv (.Constant (.int m) j p) pos) τ (TI (l / m) (h / m)) := fun es g => w_bin ((ha es g).imp fun _ ⟨i, e, q1, q2⟩ => e ▸ w_int ⟨_, od_fdiv ⟨hm, hm2⟩, _, rfl, Int.ediv_le_ediv hm q1, Int.ediv_le_ediv hm q2⟩)
theorem t_cat (ha : WT F X a τ (TV t lo hi)) (hb : WT F X b τ (TV t lo' hi')) (hs : hi + hi' ≤ sizeLine) : WT F X (.BinOp a .Add b pos) τ (TV t (lo + lo') (hi + hi')) := fun es g => w_bin ((ha es g).imp fun _ ⟨xs, e, q1, q2, q5⟩ => e ▸ (hb es g).imp fun _ ⟨ys, e', q3, q4, q6⟩ => e' ▸
  ⟨_, od_cat (by omega), _, rfl, by rw [List.length_append]; omega, by rw [List.length_append]; omega, fun x hx => (List.mem_append.mp hx).elim (q5 x) (q6 x)⟩)
theorem t_catL (ha : WT F X a τ (LV t lo hi)) (hb : WT F X b τ (LV t lo' hi')) (hs : hi + hi' ≤ sizeLine) : WT F X (.BinOp a .Add b pos) τ (LV t (lo + lo') (hi + hi')) := fun es g => w_bin ((ha es g).imp fun _ ⟨xs, e, q1, q2, q5⟩ => e ▸ (hb es g).imp fun _ ⟨ys, e', q3, q4, q6⟩ => e' ▸
  ⟨_, od_catL (by omega), _, rfl, by rw [List.length_append]; omega, by rw [List.length_append]; omega, fun x hx => (List.mem_append.mp hx).elim (q5 x) (q6 x)⟩)
theorem wat_nil : WAT F X [] τ [] := fun es g => wa_nil .nil
theorem wat_cons (ha : WT F X a τ t) (hr : WAT F X r τ ts) (hs : starEach (a :: r) X.env = (false, eval a X.env) :: starEach r X.env := by rfl) : WAT F X (a :: r) τ (t :: ts) := fun es g => wa_cons ((ha es g).imp fun d q σ H s Q k => hr es g σ H s Q fun vs ds H' s' x t q2 => k vs ds H' s' x t (.cons q q2)) hs
theorem WA.imp {Φ Ψ : List D → Prop} {es : List Sl} (h : WA F X r es Φ) (w : ∀ d, Φ d → Ψ d) : WA F X r es Ψ := fun σ H s Q k => h σ H s Q fun v d H' s' x t q => k v d H' s' x t (w d q)
theorem WL.imp {Φ Ψ : List D → Prop} {es : List Sl} (h : WL F X e es Φ) (w : ∀ d, Φ d → Ψ d) : WL F X e es Ψ := fun σ H s Q k => h σ H s Q fun p xs ds H' s' x n hp t q => k p xs ds H' s' x n hp t (w ds q)
theorem T.imp {Φ Ψ : Bool → Prop} {es : List Sl} (h : T F X e es Φ) (w : ∀ d, Φ d → Ψ d) : T F X e es Ψ := fun σ H s Q k => h σ H s Q fun b H' s' x q => k b H' s' x (w b q)
theorem t_tup {n : Nat} (hr : WAT F X r τ ts) (hl : ts.length ≤ 1000) : WT F X (.Tuple r n pos) τ (TT ts) := fun es g => w_tup ((hr es g).imp fun ds q => ⟨by rw [← tup_len q]; exact Nat.le_trans hl (by decide), ds, rfl, q⟩)
theorem lt_lst {n : Nat} (hr : WAT F X r τ ts) (s : ∀ u ∈ ts, Sb u t) (hn : ts.length = n) (hl : n ≤ 1000) : WLT F X (.List r pos) τ t n n := fun es g => wl_lst ((hr es g).imp fun ds q => ⟨by rw [← tup_len q, hn]; exact Nat.le_trans hl (by decide), by rw [← hn, tup_len q]; exact Nat.le_refl _, by rw [← hn, tup_len q]; exact Nat.le_refl _, tup_all s q⟩)
theorem t_l (hl : WLT F X e τ t lo hi) : WT F X e τ (LV t lo hi) := fun es g => w_l (WL.imp (hl es g) fun ds q => ⟨ds, rfl, q⟩)
theorem t_if (hc : CT F X c τ τ1 τ0) (ha : WT F X a τ1 t) (hb : WT F X b τ0 t) : WT F X (.IfExp c a b pos) τ t := fun es g => w_if (T.imp (hc es g) fun k ⟨q1, q0⟩ => by
  cases k with
  | true => exact ha es (q1 rfl)
  | false => exact hb es (q0 rfl))
/-- slices -/
def SlOk (X : Cx) (o : Option Expr) (F : Fc) (τ : List Sy) : Prop := ∀ es, TS τ es → WP F X o es fun _ => True
theorem sl_none : SlOk X none F τ := fun es g => wp_none trivial
theorem sl_some (h1 : WT F X a τ (TI l h)) : SlOk X (some a) F τ := fun es g => wp_some ((h1 es g).imp fun _ ⟨i, e, _⟩ => ⟨i, e, trivial⟩)
theorem cut_mem {xs : List D} {i j : Option Int} : (cutD xs i j).length ≤ xs.length ∧ ∀ x ∈ cutD xs i j, x ∈ xs := by
  unfold cutD
  refine ⟨?_, fun x hx => List.mem_of_mem_drop (List.mem_of_mem_take hx)⟩
  rw [List.length_take, List.length_drop]; omega
theorem t_sl {i j : Option Expr} {p2 : Pos} (ha : WT F X a τ (TV t lo hi)) (hi' : SlOk X i F τ) (hj : SlOk X j F τ) : WT F X (.Subscript a (.Slice i j none p2) pos) τ (TV t 0 hi) := fun es g => w_slT ((ha es g).imp fun _ ⟨xs, e, _, q2, q3⟩ =>
  fun σ H s Q k => hi' es g σ H s Q fun o H1 s1 x1 _ => k o H1 s1 x1 fun σ2 H2 s2 Q2 k2 => hj es g σ2 H2 s2 Q2 fun o2 H3 s3 x3 _ => k2 o2 H3 s3 x3 ⟨xs, e, _, rfl, Nat.zero_le _, Nat.le_trans cut_mem.1 q2, fun x hx => q3 x (cut_mem.2 x hx)⟩)
theorem t_rev {k : Nat} {p1 p2 p3 : Pos} (ha : WT F X a τ (TV t lo hi)) : WT F X (.Subscript a (.Slice none none (some (.UnaryOp .USub (.Constant (.int 1) k p1) p2)) p3) pos) τ (TV t lo hi) := fun es g => w_revT ((ha es g).imp fun _ ⟨xs, e, q1, q2, q3⟩ => ⟨xs, e, _, rfl, by rw [List.length_reverse]; exact q1, by rw [List.length_reverse]; exact q2, fun x hx => q3 x (List.mem_reverse.mp hx)⟩)
theorem t_revL {k : Nat} {p1 p2 p3 : Pos} (ha : WT F X a τ (LV t lo hi)) : WLT F X (.Subscript a (.Slice none none (some (.UnaryOp .USub (.Constant (.int 1) k p1) p2)) p3) pos) τ t lo hi := fun es g => wl_revL ((ha es g).imp fun _ ⟨xs, e, q1, q2, q3⟩ => ⟨xs, e, by rw [List.length_reverse]; exact q1, by rw [List.length_reverse]; exact q2, fun x hx => q3 x (List.mem_reverse.mp hx)⟩)
theorem at_mem {ds : List D} {i : Int} (h0 : -(ds.length : Int) ≤ i) (h1 : i < ds.length) : ∃ d, atI ds i = some d ∧ d ∈ ds := by
  have key : ∃ j, ixN ds.length i = some j ∧ j < ds.length := by
    unfold ixN
    by_cases q : 0 ≤ i
    · rw [if_pos q, if_pos h1]; exact ⟨_, rfl, by omega⟩
    · rw [if_neg q]
      split
      · exact ⟨_, rfl, by omega⟩
      · omega
  obtain ⟨j, e, hj⟩ := key
  refine ⟨ds[j], ?_, List.getElem_mem hj⟩
  unfold atI
  rw [e]
  exact List.getElem?_eq_getElem hj
end
end DW
namespace DW
open PySem PySem.W L2 RZ PyProof.Rows
section
variable {F : Fc} {X : Cx} {e a b c elt tg iter : Expr} {τ τ1 τ0 τ' τ2 : List Sy} {t u v R : Ty} {ts : List Ty} {pos p p2 pos' pn apos cpos : Pos} {s : Stmt} {ss A B' : List Stmt} {r : List Expr} {B C : List Sl → Prop} {lo hi lo' hi' : Nat} {l h l' h' : Int}
/-! items -/
theorem t_ix (ha : WT F X a τ (TV t lo hi)) (hb : WT F X b τ (TI l h)) (h0 : -(lo : Int) ≤ l) (h1 : h < lo) (hs : PlainIx b := by exact fun _ _ => rfl) : WT F X (.Subscript a b pos) τ t := fun es g => w_ixT hs ((ha es g).imp fun _ ⟨xs, e, q1, _, q3⟩ => (hb es g).imp fun _ ⟨i, e', q4, q5⟩ => by
  obtain ⟨d, e1, e2⟩ := at_mem (ds := xs) (i := i) (by omega) (by omega)
  exact ⟨xs, i, d, e, e', e1, q3 d e2⟩)
theorem t_ixL (ha : WT F X a τ (LV t lo hi)) (hb : WT F X b τ (TI l h)) (h0 : -(lo : Int) ≤ l) (h1 : h < lo) (hs : PlainIx b := by exact fun _ _ => rfl) : WT F X (.Subscript a b pos) τ t := fun es g => w_ixL hs ((ha es g).imp fun _ ⟨xs, e, q1, _, q3⟩ => (hb es g).imp fun _ ⟨i, e', q4, q5⟩ => by
  obtain ⟨d, e1, e2⟩ := at_mem (ds := xs) (i := i) (by omega) (by omega)
  exact ⟨xs, i, d, e, e', e1, q3 d e2⟩)
theorem t_ixO {i : Nat} {x : Str} {p1 : Pos} (hi' : τ[i]? = some (.own t lo hi)) (hb : WT F X b τ (TI l h)) (h0 : -(lo : Int) ≤ l) (h1 : h < lo) (hs : PlainIx b := by exact fun _ _ => rfl) (hN : X.N[i]? = some x := by rfl)
    (hv : Vis X.env.scope x := by first | exact Or.inl rfl | exact Or.inr (Or.inl rfl) | exact Or.inr (Or.inr rfl)) (hd : (x == ("__debug__" : Str)) = false := by decide) (hcd : (x == ("__classdict__" : Str)) = false := by decide) : WT F X (.Subscript (.Name x p1) b pos) τ t := fun es g => by
  obtain ⟨_, h1', ds, rfl, q1, q2, q3⟩ := g.get hi'
  refine w_ixO h1' ((hb es g).imp fun _ ⟨j, e', q4, q5⟩ => ?_) hs hN hv hd hcd
  obtain ⟨d, e1, e2⟩ := at_mem (ds := ds) (i := j) (by omega) (by omega)
  exact ⟨j, d, e', e1, q3 d e2⟩
theorem tup_get : ∀ {ts : List Ty} {ds : List D} {i : Nat} {t : Ty}, Tup ts ds → ts[i]? = some t → ∃ d, ds[i]? = some d ∧ t d
  | _, _, _, _, .nil, h => by simp at h
  | _ :: _, d :: _, 0, t, .cons q r, h => by simp at h; subst h; exact ⟨d, rfl, q⟩
  | _ :: _, _ :: _, i + 1, t, .cons q r, h => by
    obtain ⟨e, h1, h2⟩ := tup_get (i := i) r (by simpa using h)
    exact ⟨e, by simpa using h1, h2⟩
theorem t_ixT {i j : Nat} {q : Pos} (ha : WT F X a τ (TT ts)) (hi' : ts[i]? = some t) : WT F X (.Subscript a (.Constant (.int (i : Int)) j q) pos) τ t := fun es g => w_ixT (fun _ _ => rfl) ((ha es g).imp fun _ ⟨xs, e, q1⟩ => w_int (by
  obtain ⟨d, e1, e2⟩ := tup_get q1 hi'
  exact ⟨xs, i, d, e, rfl, atI_nat e1, e2⟩))
/-! tests -/
theorem ct_lt (ha : WT F X a τ (TI l h)) (hb : WT F X b τ (TI l' h')) : CT F X (.Compare a [.Lt] [b] pos) τ τ τ := fun es g => t_cmp (h := (ha es g).imp fun _ ⟨i, e, _⟩ => e ▸ (hb es g).imp fun _ ⟨j, e', _⟩ => e' ▸ ⟨_, od_lt, fun _ => g, fun _ => g⟩)
theorem ct_le (ha : WT F X a τ (TI l h)) (hb : WT F X b τ (TI l' h')) : CT F X (.Compare a [.LtE] [b] pos) τ τ τ := fun es g => t_cmp (h := (ha es g).imp fun _ ⟨i, e, _⟩ => e ▸ (hb es g).imp fun _ ⟨j, e', _⟩ => e' ▸ ⟨_, od_le, fun _ => g, fun _ => g⟩)
theorem ct_gt (ha : WT F X a τ (TI l h)) (hb : WT F X b τ (TI l' h')) : CT F X (.Compare a [.Gt] [b] pos) τ τ τ := fun es g => t_cmp (h := (ha es g).imp fun _ ⟨i, e, _⟩ => e ▸ (hb es g).imp fun _ ⟨j, e', _⟩ => e' ▸ ⟨_, od_gt, fun _ => g, fun _ => g⟩)
theorem ct_ge (ha : WT F X a τ (TI l h)) (hb : WT F X b τ (TI l' h')) : CT F X (.Compare a [.GtE] [b] pos) τ τ τ := fun es g => t_cmp (h := (ha es g).imp fun _ ⟨i, e, _⟩ => e ▸ (hb es g).imp fun _ ⟨j, e', _⟩ => e' ▸ ⟨_, od_ge, fun _ => g, fun _ => g⟩)
theorem ct_eq (ha : WT F X a τ (TI l h)) (hb : WT F X b τ (TI l' h')) : CT F X (.Compare a [.Eq] [b] pos) τ τ τ := fun es g => t_cmp (h := (ha es g).imp fun _ ⟨i, e, _⟩ => e ▸ (hb es g).imp fun _ ⟨j, e', _⟩ => e' ▸ ⟨_, od_eqI, fun _ => g, fun _ => g⟩)
theorem ct_ne (ha : WT F X a τ (TI l h)) (hb : WT F X b τ (TI l' h')) : CT F X (.Compare a [.NotEq] [b] pos) τ τ τ := fun es g => t_cmp (h := (ha es g).imp fun _ ⟨i, e, _⟩ => e ▸ (hb es g).imp fun _ ⟨j, e', _⟩ => e' ▸ ⟨_, od_neI, fun _ => g, fun _ => g⟩)
theorem ct_val (ha : WT F X e τ TB) (he : ∀ whole, isTrue e X.env whole = (do let v ← whole; standAt e.pos; holding [v] (truthy v)) := by intro _; rfl) : CT F X e τ τ τ := fun es g => t_val ((ha es g).imp fun _ ⟨k, e⟩ => ⟨k, e, fun _ => g, fun _ => g⟩) he
theorem ct_not (hc : CT F X c τ τ1 τ0) : CT F X (.UnaryOp .Not c pos) τ τ0 τ1 := fun es g => t_not (T.imp (hc es g) fun k ⟨q1, q0⟩ => ⟨fun z => q0 (by cases k <;> simp_all), fun z => q1 (by cases k <;> simp_all)⟩)
def CTW (F : Fc) (X : Cx) (e : Expr) (τ τ1 τ0 : List Sy) : Prop := ∀ es, TS τ es → TW F X e es fun k => (k = true → TS τ1 es) ∧ (k = false → TS τ0 es)
theorem ct_w (hc : CTW F X c τ τ1 τ0) : CT F X c τ τ1 τ0 := fun es g => t_w (hc es g)
theorem TW.imp {Φ Ψ : Bool → Prop} {es : List Sl} (h : TW F X e es Φ) (w : ∀ d, Φ d → Ψ d) : TW F X e es Ψ := fun σ H s Q k => h σ H s Q fun b H' s' x q => k b H' s' x (w b q)
theorem ctw_and1 (hc : CT F X c τ τ1 τ0) : CTW F X (.BoolOp .And [c] pos) τ τ1 τ0 := fun es g => tw_and1 (hc es g)
theorem ctw_or1 (hc : CT F X c τ τ1 τ0) : CTW F X (.BoolOp .Or [c] pos) τ τ1 τ0 := fun es g => tw_or1 (hc es g)
theorem ctw_and {r : List Expr} (hc : CT F X a τ τ1 τ0) (hr : CTW F X (.BoolOp .And (b :: r) pos) τ1 τ2 τ0) : CTW F X (.BoolOp .And (a :: b :: r) pos) τ τ2 τ0 := fun es g => tw_and (T.imp (hc es g) fun k ⟨q1, q0⟩ => by
  cases k with
  | true => exact hr es (q1 rfl)
  | false => exact ⟨fun z => (nomatch z), fun _ => q0 rfl⟩)
theorem ctw_or {r : List Expr} (hc : CT F X a τ τ1 τ0) (hr : CTW F X (.BoolOp .Or (b :: r) pos) τ0 τ1 τ2) : CTW F X (.BoolOp .Or (a :: b :: r) pos) τ τ1 τ2 := fun es g => tw_or (T.imp (hc es g) fun k ⟨q1, q0⟩ => by
  cases k with
  | true => exact ⟨fun _ => q1 rfl, fun z => (nomatch z)⟩
  | false => exact hr es (q0 rfl))
theorem ct_sub {σ1 σ0 : List Sy} (hc : CT F X c τ τ1 τ0) (h1 : Sys τ1 σ1) (h0 : Sys τ0 σ0) : CT F X c τ σ1 σ0 := fun es g => T.imp (hc es g) fun k ⟨q1, q0⟩ => ⟨fun z => h1 es (q1 z), fun z => h0 es (q0 z)⟩
/-- own != [] -/
theorem ct_neO {i : Nat} {x : Str} (hu : X.A.units + 64 < cLine) (hi' : τ[i]? = some (.own t lo hi)) (sh : ∀ ds : List D, (∀ x ∈ ds, t x) → SeqAt.shaped (.list ds) = true) (hN : X.N[i]? = some x := by rfl)
    (hv : Vis X.env.scope x := by first | exact Or.inl rfl | exact Or.inr (Or.inl rfl) | exact Or.inr (Or.inr rfl)) (hd : (x == ("__debug__" : Str)) = false := by decide) (hcd : (x == ("__classdict__" : Str)) = false := by decide) :
    CT F X (.Compare (.Name x p) [.NotEq] [.List [] p2] pos) τ (τ.set i (.own t (max lo 1) hi)) τ := fun es g => by
  obtain ⟨_, h1, ds, rfl, q1, q2, q3⟩ := g.get hi'
  refine t_neO hu h1 (sh ds q3) ⟨fun z => ?_, fun _ => g⟩ hN hv hd hcd
  refine TS.upd (y := .own t (max lo 1) hi) ⟨ds, rfl, ?_, q2, q3⟩ g h1
  cases ds with
  | nil => simp [PyData.eqv, PyData.eqvAll] at z
  | cons d ds => simp only [List.length_cons] at q1 ⊢; omega
/-! built-ins -/
theorem t_len (hm : X.mg "len" = none) (hg : Gl X "len") (ha : WT F X a τ (TV t lo hi)) (he : starEach [a] X.env = (false, eval a X.env) :: starEach [] X.env := by rfl) (hpl : (backTo pos (starEach [] X.env)).any (·.1) = false := by rfl) : WT F X (.Call (.Name "len" p) [a] [] pos) τ (TI lo hi) := fun es g =>
  w_callB hg hm PySem.boot_len (wa_cons ((ha es g).imp fun _ ⟨xs, e, q1, q2, _⟩ => wa_nil ⟨_, e ▸ cd_len_t, _, rfl, by omega, by omega⟩) he) (he := he) (hpl := hpl)
theorem t_lenL (hm : X.mg "len" = none) (hg : Gl X "len") (ha : WT F X a τ (LV t lo hi)) (he : starEach [a] X.env = (false, eval a X.env) :: starEach [] X.env := by rfl) (hpl : (backTo pos (starEach [] X.env)).any (·.1) = false := by rfl) : WT F X (.Call (.Name "len" p) [a] [] pos) τ (TI lo hi) := fun es g =>
  w_callB hg hm PySem.boot_len (wa_cons ((ha es g).imp fun _ ⟨xs, e, q1, q2, _⟩ => wa_nil ⟨_, e ▸ cd_len_l, _, rfl, by omega, by omega⟩) he) (he := he) (hpl := hpl)
theorem t_tuple (hm : X.mg "tuple" = none) (hg : Gl X "tuple") (ha : WT F X a τ (LV t lo hi)) (he : starEach [a] X.env = (false, eval a X.env) :: starEach [] X.env := by rfl) (hpl : (backTo pos (starEach [] X.env)).any (·.1) = false := by rfl) : WT F X (.Call (.Name "tuple" p) [a] [] pos) τ (TV t lo hi) := fun es g =>
  w_callTy hg hm PyProof.Rows.boot_tuple (wa_cons ((ha es g).imp fun _ ⟨xs, e, q1, q2, q3⟩ => wa_nil ⟨_, e ▸ cd_tuple_l, _, rfl, q1, q2, q3⟩) he) (he := he) (hpl := hpl)
theorem lt_list (hm : X.mg "list" = none) (hg : Gl X "list") (ha : WT F X a τ (TV t lo hi)) (he : starEach [a] X.env = (false, eval a X.env) :: starEach [] X.env := by rfl) (hpl : (backTo pos (starEach [] X.env)).any (·.1) = false := by rfl) : WLT F X (.Call (.Name "list" p) [a] [] pos) τ t lo hi := fun es g =>
  wl_list hg hm PyProof.Rows.boot_list ((ha es g).imp fun _ ⟨xs, e, q1, q2, q3⟩ => ⟨xs, .inr e, q1, q2, q3⟩) (he := he) (hpl := hpl)
theorem lt_listL (hm : X.mg "list" = none) (hg : Gl X "list") (ha : WT F X a τ (LV t lo hi)) (he : starEach [a] X.env = (false, eval a X.env) :: starEach [] X.env := by rfl) (hpl : (backTo pos (starEach [] X.env)).any (·.1) = false := by rfl) : WLT F X (.Call (.Name "list" p) [a] [] pos) τ t lo hi := fun es g =>
  wl_list hg hm PyProof.Rows.boot_list ((ha es g).imp fun _ ⟨xs, e, q1, q2, q3⟩ => ⟨xs, .inl e, q1, q2, q3⟩) (he := he) (hpl := hpl)
theorem t_abs (hm : X.mg "abs" = none) (hg : Gl X "abs") {m : Int} (h1 : -m ≤ l) (h2 : h ≤ m) (ha : WT F X a τ (TI l h)) (he : starEach [a] X.env = (false, eval a X.env) :: starEach [] X.env := by rfl) (hpl : (backTo pos (starEach [] X.env)).any (·.1) = false := by rfl) : WT F X (.Call (.Name "abs" p) [a] [] pos) τ (TI 0 m) := fun es g =>
  w_callB hg hm PyProof.Rows.boot_abs (wa_cons ((ha es g).imp fun _ ⟨i, e, q1, q2⟩ => wa_nil ⟨_, e ▸ cd_abs, _, rfl, by split <;> omega, by split <;> omega⟩) he) (he := he) (hpl := hpl)
/-! calls of defs -/
theorem t_call {x qual : Str} {st : Stmt} {k : Nat} {ps : List Str} {Pre : List D → Prop} {Post : List D → D → Prop} {r : List Expr} (hk : Kn X.prog X.w X.K X.mg X.base x qual st k ps (Pu Pre Post)) (hr : Rm k X.A) (hg : Gl X x) (h : WAT F X (a :: r) τ ts)
    (ap : ∀ ds, Tup ts ds → Pre ds ∧ ∀ d, Post ds d → t d) (hdb : (x == ("__debug__" : Str)) = false := by decide) (he : starEach (a :: r) X.env = (false, eval a X.env) :: starEach r X.env := by rfl) (hpl : (backTo pos (starEach r X.env)).any (·.1) = false := by rfl) :
    WT F X (.Call (.Name x p) (a :: r) [] pos) τ t := fun es g => w_call hk hr hg (WA.imp (h es g) ap) hdb he hpl
theorem t_callk {x qual y : Str} {st : Stmt} {k i : Nat} {ps : List Str} {Pre : List D → Prop} {Post : List D → D → Prop} {r : List Expr} (hk : Kn X.prog X.w X.K X.mg X.base x qual st k ps (Dr Pre Post)) (hr : Rm k X.A) (hg : Gl X x) (hi' : τ[i]? = some .dk) (h : WAT F X r τ ts)
    (ap : ∀ ds, Tup ts ds → Pre ds ∧ ∀ d, Post ds d → t d) (hN : X.N[i]? = some y := by rfl) (hv : Vis X.env.scope y := by first | exact Or.inl rfl | exact Or.inr (Or.inl rfl) | exact Or.inr (Or.inr rfl)) (hdb : (x == ("__debug__" : Str)) = false := by decide)
    (hdy : (y == ("__debug__" : Str)) = false := by decide) (hcy : (y == ("__classdict__" : Str)) = false := by decide) (he : starEach (.Name y p2 :: r) X.env = (false, eval (.Name y p2) X.env) :: starEach r X.env := by rfl) (hpl : (backTo pos (starEach r X.env)).any (·.1) = false := by rfl) :
    WT F X (.Call (.Name x p) (.Name y p2 :: r) [] pos) τ t := fun es g => by
  obtain ⟨_, h1, rfl⟩ := g.get hi'
  exact w_callk hk hr hg h1 hN hv (WA.imp (h es g) ap) hdb hdy hcy he hpl
/-! statements -/
theorem bt_nil : BT F X [] τ τ R B C := fun es g => wb_nil g
theorem bt_cons (h1 : ST F X s τ τ1 R B C) (h2 : BT F X ss τ1 τ' R B C) : BT F X (s :: ss) τ τ' R B C := fun es g => wb_cons fun σ H D sg go => h1 es g σ H D sg ⟨fun σ' H' es' s' t q => go.nx σ' H' es' s' t (h2 es' q), go.rt, go.bk, go.ct⟩
theorem st_pass : ST F X (.Pass pos) τ τ R B C := fun es g => ws_pass g
theorem st_ret (h : WT F X e τ R) : ST F X (.Return (some e) pos) τ τ' R B C := fun es g => ws_ret (h es g)
theorem st_if {A1 B1 : List Stmt} (hc : CT F X c τ τ1 τ0) (ha : BT F X A1 τ1 τ' R B C) (hb : BT F X B1 τ0 τ' R B C) : ST F X (.If c A1 B1 pos) τ τ' R B C := fun es g => ws_if (T.imp (hc es g) fun k ⟨q1, q0⟩ => by
  cases k with
  | true => exact ha es (q1 rfl)
  | false => exact hb es (q0 rfl))
theorem st_set {i : Nat} {x : Str} (h : WT F X e τ t) (hN : X.N.Nodup) (hi' : X.N[i]? = some x) (hx : Loc X.env.scope x) (hl : i < τ.length)
    (hs : swapsWith e (some (.Name x pos')) pos.line X.env = pure false := by rfl) (hf : X.fn x = true ∨ X.env.scope.names.lookup x = some .local := by first | exact .inl rfl | exact .inr rfl | assumption) : ST F X (.Assign [.Name x pos'] e pos) τ (τ.set i (.d t)) R B C := fun es g =>
  ws_set hN hi' hx (by rw [← g.len]; exact hl) ((h es g).imp fun d q => TS.set (y := .d t) ⟨d, rfl, q⟩ g) hs hf
def Sy.nf : Sy → Bool
  | .q _ => false
  | _ => true
theorem nf_of {τ : List Sy} {es : List Sl} (g : TS τ es) (h : ∀ y ∈ τ, y.nf = true) : ∀ (j : Nat) kvs, es[j]? ≠ some (.fd kvs) := fun j kvs e => by
  induction g generalizing j with
  | nil => simp at e
  | @cons y x ys xs q r ih =>
    cases j with
    | zero =>
      simp at e; subst e
      have := h y List.mem_cons_self
      cases y with
      | q p => cases this
      | no => rcases q with z | ⟨_, z⟩ <;> cases z
      | dk => cases (show Sl.fd kvs = Sl.dk from q)
      | d t => obtain ⟨_, z, _⟩ := q; cases z
      | own => obtain ⟨_, z, _⟩ := q; cases z
    | succ j => exact ih (fun y hy => h y (List.mem_cons_of_mem _ hy)) j (by simpa using e)
theorem st_own {i : Nat} {x : Str} (hn : ∀ y ∈ τ, y.nf = true) (h : WLT F X e τ t lo hi) (hN : X.N.Nodup) (hi' : X.N[i]? = some x) (hx : Loc X.env.scope x) (hl : i < τ.length)
    (hs : swapsWith e (some (.Name x pos')) pos.line X.env = pure false := by rfl) (hf : X.fn x = true ∨ X.env.scope.names.lookup x = some .local := by first | exact .inl rfl | exact .inr rfl | assumption) : ST F X (.Assign [.Name x pos'] e pos) τ (τ.set i (.own t lo hi)) R B C := fun es g =>
  ws_own (nf_of g hn) hN hi' hx (by rw [← g.len]; exact hl) (WL.imp (h es g) fun ds q => TS.set (y := .own t lo hi) ⟨ds, rfl, q⟩ g) hs hf
theorem st_append {i : Nat} {x : Str} (hi' : τ[i]? = some (.own t lo hi)) (h : WT F X e τ t) (hz : hi < sizeLine) (hN : X.N[i]? = some x := by rfl) (hv : Vis X.env.scope x := by first | exact Or.inl rfl | exact Or.inr (Or.inl rfl) | exact Or.inr (Or.inr rfl))
    (hm : ∀ {ta tb : TE}, PE X (.Name x pn) ta → PE X e tb → PE X (.Call (.Attribute (.Name x pn) "append" apos) [e] [] cpos) (tBM X.K "list" rAppend ta (tCons tb tNil)))
    (hs : swapsWith (.Call (.Attribute (.Name x pn) "append" apos) [e] [] cpos) none pos.line X.env = pure false := by rfl) (hd : (x == ("__debug__" : Str)) = false := by decide) (hcd : (x == ("__classdict__" : Str)) = false := by decide) :
    ST F X (.Expr (.Call (.Attribute (.Name x pn) "append" apos) [e] [] cpos) pos) τ (τ.set i (.own t (lo + 1) (hi + 1))) R B C := fun es g => by
  obtain ⟨_, h1, ds, rfl, q1, q2, q3⟩ := g.get hi'
  refine ws_append h1 hN hv (by omega) ((h es g).imp fun d q => TS.set (y := .own t (lo + 1) (hi + 1)) ⟨_, rfl, by rw [List.length_append]; simp; omega, by rw [List.length_append]; simp; omega, fun x hx => ?_⟩ g) hm hs hd hcd
  rcases List.mem_append.mp hx with z | z
  · exact q3 x z
  · rw [List.mem_singleton.mp z]; exact q
theorem bt_freeze {i : Nat} (hi' : τ[i]? = some (.own t lo hi)) (h : BT F X ss (τ.set i (.d (LV t lo hi))) τ' R B C) : BT F X ss τ τ' R B C := fun es g => by
  obtain ⟨_, h1, ds, rfl, q1, q2, q3⟩ := g.get hi'
  exact wb_freeze h1 (h _ (TS.set (y := .d (LV t lo hi)) ⟨_, rfl, ds, rfl, q1, q2, q3⟩ g))
theorem st_par {i j : Nat} {x y : Str} {px py pt : Pos} {kt k2 pt2} (hc : X.calm = true) (hN : X.N.Nodup) (hi' : X.N[i]? = some x) (hj : X.N[j]? = some y) (hij : i ≠ j) (hx : X.env.scope.names.lookup x = some .local) (hy : X.env.scope.names.lookup y = some .local) (hli : i < τ.length) (hlj : j < τ.length)
    (ha : WT F X a τ t) (hb : WT F X b τ u) (hsa : starEach [a, b] X.env = (false, eval a X.env) :: starEach [b] X.env := by rfl) (hsb : starEach [b] X.env = (false, eval b X.env) :: starEach [] X.env := by rfl)
    (hw : swappedStores [.Tuple [.Name x px, .Name y py] kt pt] (.Tuple [a, b] k2 pt2) X.env = pure (some [x, y]) := by rfl) (hs : swapsWithSole [.Tuple [.Name x px, .Name y py] kt pt] (.Tuple [a, b] k2 pt2) pos.line X.env = pure false := by rfl) :
    ST F X (.Assign [.Tuple [.Name x px, .Name y py] kt pt] (.Tuple [a, b] k2 pt2) pos) τ ((τ.set i (.d t)).set j (.d u)) R B C := fun es g =>
  ws_par hc hN hi' hj hij hx hy (by rw [← g.len]; exact hli) (by rw [← g.len]; exact hlj) hsa hsb ((ha es g).imp fun d q => (hb es g).imp fun d' q' => TS.set (y := .d u) ⟨d', rfl, q'⟩ (TS.set (y := .d t) ⟨d, rfl, q⟩ g)) hw hs
/-! targets -/
theorem tgt_name {i : Nat} {x : Str} (hN : X.N.Nodup) (hi' : X.N[i]? = some x) (hx : Loc X.env.scope x) (hl : i < τ.length) (hf : X.fn x = true ∨ X.env.scope.names.lookup x = some .local := by first | exact .inl rfl | exact .inr rfl | assumption) : TGT F X (.Name x pos) [i] τ t (τ.set i (.d t)) := fun es d g q =>
  tg_name hN hi' hx (by rw [← g.len]; exact hl) (TS.set (y := .d t) ⟨d, rfl, q⟩ g) hf
theorem tglt_nil : TGLT F X [] [] τ [] τ := fun es ds g q => by
  cases q
  exact tgl_nil g
theorem TG1.imp {Φ Ψ : List Sl → Prop} {es : List Sl} {d : D} {L : List Nat} (h : TG1 F X e L es d Φ) (w : ∀ d, Φ d → Ψ d) : TG1 F X e L es d Ψ := fun σ H v s t Q k => h σ H v s t Q fun σ' es' s' tr c ce q => k σ' es' s' tr c ce (w es' q)
theorem tglt_cons {r : List Expr} {L L' : List Nat} (h1 : TGT F X a L τ t τ1) (h2 : TGLT F X r L' τ1 ts τ') (hs : (assignEach (a :: r) X.env).map (·.2) = assign a X.env :: (assignEach r X.env).map (·.2) := by rfl) : TGLT F X (a :: r) (L ++ L') τ (t :: ts) τ' := fun es ds g q => by
  cases q with
  | cons q1 q2 => exact tgl_cons (TG1.imp (h1 es _ g q1) fun es' g' => h2 es' _ g' q2) hs
theorem tgt_tup {r : List Expr} {n : Nat} {L : List Nat} (hc : X.calm = true) (hl : ts.length = r.length) (h : TGLT F X r L τ ts τ') (hn : (assignEach r X.env).length = r.length := by rfl) (hst : (assignEach r X.env).findIdx? (·.1) = none := by rfl) : TGT F X (.Tuple r n pos) L τ (TT ts) τ' := fun es d g ⟨ds, e, q⟩ =>
  e ▸ tg_tup hc (by rw [← tup_len q]; exact hl) (h es ds g q) hn hst
theorem st_unpack {tg : Expr} {L : List Nat} (h : WT F X e τ t) (ht : TGT F X tg L τ t τ') (hs : swapsWithSole [tg] e pos.line X.env = pure false := by rfl) (hw : swappedStores [tg] e X.env = pure none := by rfl)
    (h1 : (assignEach [tg] X.env).map (·.2) = [assign tg X.env] := by rfl) : ST F X (.Assign [tg] e pos) τ τ' R B C := fun es g => ws_unpack ((h es g).imp fun d q => ht es d g q) hs hw h1
/-! walks -/
theorem It1.imp {Φ Ψ : List D → Prop} {es : List Sl} (h : It1 F X tg e es Φ) (w : ∀ d, Φ d → Ψ d) : It1 F X tg e es Ψ := fun σ H s R k => h σ H s R fun J G ds H' s' x g wk q => k J G ds H' s' x g wk (w ds q)
theorem itt_tup (h : WT F X e τ (TV t lo hi)) : ITT F X tg e τ t lo hi := fun es g => it_tup ((h es g).imp fun _ ⟨ds, e, q⟩ => ⟨ds, e, q⟩)
theorem itt_lst (h : WT F X e τ (LV t lo hi)) : ITT F X tg e τ t lo hi := fun es g => it_lst ((h es g).imp fun _ ⟨ds, e, q⟩ => ⟨ds, e, q⟩)
theorem irng_mem {lo : Int} {n : Nat} {d : D} (h : d ∈ irng lo n) : ∃ i : Int, d = .int i ∧ lo ≤ i ∧ i ≤ lo + n - 1 := by
  unfold irng at h
  obtain ⟨i, hi, rfl⟩ := List.mem_map.mp h
  have := List.mem_range.mp hi
  exact ⟨_, rfl, by omega, by omega⟩
theorem itt_range (hm : X.mg "range" = none) (hg : Gl X "range") (ha : WT F X a τ (TI l h)) (b1 : -(2 ^ 62) ≤ l) (b2 : h < 2 ^ 62) (hs : starEach [a] X.env = [(false, eval a X.env)] := by rfl) :
    ITT F X tg (.Call (.Name "range" p) [a] [] pos) τ (TI 0 (h - 1)) l.toNat h.toNat := fun es g => it_range1 hg hm (wa_cons ((ha es g).imp fun _ ⟨n, e, q1, q2⟩ => wa_nil ⟨n, by rw [e], by omega, by omega, by rw [irng_len]; omega, by rw [irng_len]; omega, fun x hx => by
      obtain ⟨i, e, p1, p2⟩ := irng_mem hx
      exact ⟨i, e, p1, by omega⟩⟩) (hs.trans (by rfl))) hs
theorem enumD_mem {ds : List D} {d : D} (h : d ∈ enumD ds) : ∃ (i : Nat) (x : D), d = .tuple [.int (i : Nat), x] ∧ i < ds.length ∧ x ∈ ds := by
  unfold enumD at h
  obtain ⟨i, hi, rfl⟩ := List.mem_map.mp h
  have hi := List.mem_range.mp hi
  refine ⟨i, _, rfl, hi, ?_⟩
  rw [List.getD_eq_getElem?_getD, List.getElem?_eq_getElem hi]
  exact List.getElem_mem hi
theorem pairs_mem : ∀ {xs ys : List D} {d : D}, d ∈ pairs xs ys → ∃ x y, d = .tuple [x, y] ∧ x ∈ xs ∧ y ∈ ys
  | [], _, d, h => by simp [pairs] at h
  | _ :: _, [], d, h => by simp [pairs] at h
  | x :: xs, y :: ys, d, h => by
    rcases List.mem_cons.mp h with z | z
    · exact ⟨x, y, z, List.mem_cons_self, List.mem_cons_self⟩
    · obtain ⟨a, b, e, h1, h2⟩ := pairs_mem z
      exact ⟨a, b, e, List.mem_cons_of_mem _ h1, List.mem_cons_of_mem _ h2⟩
theorem itt_enumT {r : List Expr} {n : Nat} {tpos : Pos} (hm : X.mg "enumerate" = none) (hg : Gl X "enumerate") (ha : WT F X a τ (TV t lo hi)) (hs : starEach [a] X.env = [(false, eval a X.env)] := by rfl) : ITT F X (.Tuple r n tpos) (.Call (.Name "enumerate" p) [a] [] pos) τ (TT [TI 0 (hi - 1), t]) lo hi := fun es g =>
  it_enum hg hm ((ha es g).imp fun _ ⟨xs, e, q1, q2, q3⟩ => ⟨xs, .inl e, by rw [enumD_len]; exact q1, by rw [enumD_len]; exact q2, fun x hx => by
    obtain ⟨i, y, e, h1, h2⟩ := enumD_mem hx
    exact ⟨_, e, .cons ⟨_, rfl, by omega, by omega⟩ (.cons (q3 y h2) .nil)⟩⟩) hs
theorem itt_enumL {r : List Expr} {n : Nat} {tpos : Pos} (hm : X.mg "enumerate" = none) (hg : Gl X "enumerate") (ha : WT F X a τ (LV t lo hi)) (hs : starEach [a] X.env = [(false, eval a X.env)] := by rfl) : ITT F X (.Tuple r n tpos) (.Call (.Name "enumerate" p) [a] [] pos) τ (TT [TI 0 (hi - 1), t]) lo hi := fun es g =>
  it_enum hg hm ((ha es g).imp fun _ ⟨xs, e, q1, q2, q3⟩ => ⟨xs, .inr e, by rw [enumD_len]; exact q1, by rw [enumD_len]; exact q2, fun x hx => by
    obtain ⟨i, y, e, h1, h2⟩ := enumD_mem hx
    exact ⟨_, e, .cons ⟨_, rfl, by omega, by omega⟩ (.cons (q3 y h2) .nil)⟩⟩) hs
theorem itt_sub (h : ITT F X tg e τ t lo hi) (s : Sb t u) (h1 : lo' ≤ lo) (h2 : hi ≤ hi') : ITT F X tg e τ u lo' hi' := fun es g => It1.imp (h es g) fun ds ⟨q1, q2, q3⟩ => ⟨by omega, by omega, fun x hx => s x (q3 x hx)⟩
/-! for -/
theorem st_for {body : List Stmt} {L : List Nat} {τb τi : Nat → List Sy} (hp : PassesOwn (model X.prog X.w) X.A X.env X.xe) (hc : X.calm = true) (h0 : Sys τ (τi 0)) (it : ITT F X tg iter τ t lo hi) (tgt : ∀ i, i < hi → TGT F X tg L (τi i) t (τb i))
    (bd : ∀ i, i < hi → BT F X body (τb i) (τi (i + 1)) R (TS τ') (TS (τi (i + 1)))) (fin : ∀ n, lo ≤ n → n ≤ hi → Sys (τi n) τ') (hs : ∀ x, foldedSetIterable iter X.env x = pure x := by intro _; rfl) : ST F X (.For tg iter body [] pos) τ τ' R B C := fun es g =>
  ws_for hp hc hs (It1.imp (it es g) fun ds ⟨q1, q2, q3⟩ => ⟨fun i es1 => TS (τi i) es1, h0 es g, fun i es1 d hd g1 => by
    have hi' := (List.getElem?_eq_some_iff.mp hd).1
    exact TG1.imp (tgt i (by omega) es1 d g1 (q3 d (List.mem_of_getElem? hd))) fun es2 g2 => bd i (by omega) es2 g2, fun es1 g1 => fin ds.length q1 q2 es1 g1⟩)
/-! comprehensions -/
def wipeY : List Sy → List Nat → List Sy
  | τ, [] => τ
  | τ, v :: vs => (wipeY τ vs).set v .no
theorem ts_wipe {es : List Sl} (g : TS τ es) : ∀ vs : List Nat, TS (wipeY τ vs) (wipeS es vs)
  | [] => g
  | v :: vs => TS.set (y := .no) (.inl rfl) (ts_wipe g vs)
def Sy.ze : Sy → Bool
  | .no => true
  | .d _ => true
  | _ => false
theorem no_of {es : List Sl} {vs : List Nat} (g : TS τ es) (h : ∀ j ∈ vs, ∃ y, τ[j]? = some y ∧ y.ze = true) : noOwn es vs = true := by
  unfold noOwn
  rw [List.all_eq_true]
  intro j hj
  obtain ⟨y, h1, h2⟩ := h j hj
  obtain ⟨e, h3, h4⟩ := g.get h1
  rw [h3]
  cases y with
  | no => rcases h4 with z | ⟨_, z⟩ <;> subst z <;> rfl
  | d t => obtain ⟨_, z, _⟩ := h4; subst z; rfl
  | _ => cases h2
theorem paired_r {u : Ty} : ∀ {ds out : List D}, Paired (fun _ r => u r) ds out → ∀ x ∈ out, u x
  | _, _, .nil, x, hx => by cases hx
  | _, _, .cons q r, x, hx => by
    rcases List.mem_cons.mp hx with z | z
    · rw [z]; exact q
    · exact paired_r r x z
theorem lt_lc {scope : Scope} (own : List (Str × Nat)) {L : List Nat} {τb : List Sy} (hc : X.calm = true) (hN : X.N.Nodup) (ok : BlkOk X.N X.env.scope scope own) (hL : ∀ j ∈ L, j ∈ own.map (·.2)) (hz : ∀ j ∈ own.map (·.2), ∃ y, τ[j]? = some y ∧ y.ze = true)
    (it : ITT F X tg iter τ t lo hi) (hh : hi ≤ sizeLine) (tgt : ∀ (F' : Fc) s H C cl fp, TGT F' (Bk X scope s H C cl fp) tg L (wipeY τ (own.map (·.2))) t τb) (el : ∀ (F' : Fc) s H C cl fp, WT F' (Bk X scope s H C cl fp) elt τb u)
    (hs : ∀ x, foldedSetIterable iter X.env x = pure x := by intro _; rfl) : WLT F X (.ListComp elt [⟨tg, iter, [], 0⟩] scope pos) τ u lo hi := fun es g => by
  refine wl_lc own hc hN ok hL (no_of g hz) (lc_map (fun _ r => u r) (It1.imp (it es g) fun ds ⟨q1, q2, q3⟩ => ⟨by omega, fun d hd F' _ _ s H C cl fp => ?_, fun out po => ?_⟩)) hs
  · exact TG1.imp (tgt F' s H C cl fp _ d (ts_wipe g _) (q3 d hd)) fun es2 g2 s H C cl fp => el F' s H C cl fp es2 g2
  · have hl := paired_len po
    refine ⟨by omega, by omega, fun x hx => ?_⟩
    exact paired_r po x hx
end
end DW
namespace DW
open PySem PySem.W L2 RZ PyProof.Rows K9
section
variable {F : Fc} {X : Cx} {e a b c elt tg iter : Expr} {τ τ1 τ0 τ' τ2 : List Sy} {t u v R : Ty} {ts : List Ty} {pos p p2 pos' pn apos cpos : Pos} {s : Stmt} {ss A B' : List Stmt} {r : List Expr} {B C : List Sl → Prop} {lo hi lo' hi' : Nat} {l h l' h' : Int}
theorem bt_ret (x : WT F X e τ R) : BT F X (.Return (some e) pos :: ss) τ τ' R B C := fun es g => wb_cons (ws_ret (x es g))
theorem ctw_sub {σ1 σ0 : List Sy} (hc : CTW F X c τ τ1 τ0) (h1 : Sys τ1 σ1) (h0 : Sys τ0 σ0) : CTW F X c τ σ1 σ0 := fun es g => TW.imp (hc es g) fun k ⟨q1, q0⟩ => ⟨fun z => h1 es (q1 z), fun z => h0 es (q0 z)⟩
theorem zes_nil : ∀ j ∈ ([] : List Nat), ∃ y, τ[j]? = some y ∧ y.ze = true := fun _ h => by cases h
theorem zes_cons {i : Nat} {l : List Nat} (h : ∃ y, τ[i]? = some y ∧ y.ze = true) (g : ∀ j ∈ l, ∃ y, τ[j]? = some y ∧ y.ze = true) : ∀ j ∈ i :: l, ∃ y, τ[j]? = some y ∧ y.ze = true := fun j hj => by
  rcases List.mem_cons.mp hj with z | z
  · rw [z]; exact h
  · exact g j z
theorem nfs_nil : ∀ y ∈ ([] : List Sy), y.nf = true := fun _ h => by cases h
theorem nfs_cons {y : Sy} {l : List Sy} (h : y.nf = true) (g : ∀ y ∈ l, y.nf = true) : ∀ z ∈ y :: l, z.nf = true := fun j hj => by
  rcases List.mem_cons.mp hj with z | z
  · rw [z]; exact h
  · exact g j z
/-- a block that has ended -/
theorem bt_if {A1 B1 : List Stmt} (hc : CT F X c τ τ1 τ0) (ha : BT F X A1 τ1 τ' R B C) (hb : BT F X B1 τ0 τ' R B C) (hn : BT F X ss τ' τ2 R B C) : BT F X (.If c A1 B1 pos :: ss) τ τ2 R B C := bt_cons (st_if hc ha hb) hn
def NEV : List Sy := [.q fun _ => False]
theorem nev {es : List Sl} (h : TS NEV es) : False := by
  cases h with
  | cons q _ => exact q
theorem bt_nev : BT F X ss NEV τ' R B C := fun es h => (nev h).elim
def TStp (r : Int) : Ty := fun d => ∃ s : Int, d = .int s ∧ StOk r s
theorem sb_stp {r r' : Int} (h : r ≤ r') : Sb (TStp r) (TStp r') := fun _ ⟨s, e, q1, q2, q3⟩ => ⟨s, e, q1, by omega, by omega⟩
theorem sb_stpI {r l h : Int} (h1 : l ≤ -r) (h2 : r ≤ h) : Sb (TStp r) (TI l h) := fun _ ⟨s, e, q1, q2, q3⟩ => ⟨s, e, by omega, by omega⟩
theorem sb_Istp {r l h : Int} (h1 : 1 ≤ l) (h2 : h ≤ r) : Sb (TI l h) (TStp r) := fun _ ⟨s, e, q1, q2⟩ => ⟨s, e, by omega, by omega, by omega⟩
theorem sb_Istn {r l h : Int} (h1 : -r ≤ l) (h2 : h ≤ -1) : Sb (TI l h) (TStp r) := fun _ ⟨s, e, q1, q2⟩ => ⟨s, e, by omega, by omega, by omega⟩
theorem t_sgn {k1 k2 : Nat} {p1 p3 p4 p5 : Pos} (ha : WT F X a τ (TI 1 h)) (hb : WT F X b τ (TI 0 1)) (h4 : h ≤ 4) : WT F X (.BinOp a .Mult (.BinOp (.Constant (.int 1) k1 p1) .Sub (.BinOp (.Constant (.int 2) k2 p3) .Mult b p4) p5) pos) τ (TStp h) := fun es g =>
  w_bin ((ha es g).imp fun _ ⟨i, e, q1, q2⟩ => e ▸ w_bin (w_int (w_bin (w_int ((hb es g).imp fun _ ⟨j, e', q3, q4⟩ => e' ▸ ⟨_, od_mul (.inl ⟨by decide, by decide⟩), _, od_sub, _, od_mul (.inl ⟨by omega, by omega⟩), by
    rcases (by omega : j = 0 ∨ j = 1) with z | z <;> subst z
    · exact ⟨_, rfl, by omega, by omega, by omega⟩
    · exact ⟨_, rfl, by omega, by omega, by omega⟩⟩)))))
theorem lc_may {es : List Sl} {scope : Scope} {vs L : List Nat} {Ψ : List D → Prop} (h : It1 F X tg iter es fun ds => ds.length ≤ sizeLine ∧ (∀ d, d ∈ ds → ∀ F' : Fc, F'.dk = F.dk → F'.w = F.w → ∀ s H C cl fp, TG1 F' (Bk X scope s H C cl fp) tg L (wipeS es vs) d fun es2 =>
    ∀ s H C cl fp, T F' (Bk X scope s H C cl fp) c es2 fun k => k = true → ∀ s H C cl fp, W F' (Bk X scope s H C cl fp) elt es2 u) ∧ ∀ out, out.length ≤ ds.length → (∀ x ∈ out, u x) → Ψ out) : LcW F X elt tg iter [c] scope vs L es Ψ := fun σ H sg Q k =>
  h σ H sg Q fun J G ds H' s' x g wk ⟨hl, turn, fin⟩ => k J G ds H' s' x g wk ⟨fun i acc => i ≤ ds.length ∧ acc.length ≤ i ∧ ∀ x ∈ acc, u x, ⟨Nat.zero_le _, Nat.le_refl _, fun _ h => by cases h⟩, fun i d acc hd ⟨hi, la, pr⟩ => by
    have hlt : i < ds.length := (List.getElem?_eq_some_iff.mp hd).1
    refine ⟨by omega, fun F' e1 e2 s H C cl fp => ?_⟩
    intro σ2 H2 v s2 t2 Q2 k2
    refine turn d (List.mem_of_getElem? hd) F' e1 e2 s H C cl fp σ2 H2 v s2 t2 Q2 fun σ3 es3 s3 tr c1 c2 q3 => k2 σ3 es3 s3 tr c1 c2 fun s H C cl fp => ti_one fun σ4 H4 s4 Q4 k4 => q3 s H C cl fp σ4 H4 s4 Q4 fun b H5 s5 x5 hb => k4 b H5 s5 x5 ?_
    refine iteB (fun hp => ?_) fun hp => ?_
    · exact fun s H C cl fp => (hb hp s H C cl fp).imp fun r hr => ⟨hlt, by rw [List.length_append]; simp; exact la, fun x hx => by
        rcases List.mem_append.mp hx with z | z
        · exact pr x z
        · rw [List.mem_singleton.mp z]; exact hr⟩
    · exact ⟨hlt, by omega, pr⟩, fun acc ⟨_, la, pr⟩ => fin acc la pr⟩
theorem lt_lcf {scope : Scope} (own : List (Str × Nat)) {L : List Nat} {τb σ1 σ0 : List Sy} (hc : X.calm = true) (hN : X.N.Nodup) (ok : BlkOk X.N X.env.scope scope own) (hL : ∀ j ∈ L, j ∈ own.map (·.2)) (hz : ∀ j ∈ own.map (·.2), ∃ y, τ[j]? = some y ∧ y.ze = true)
    (it : ITT F X tg iter τ t lo hi) (hh : hi ≤ sizeLine) (tgt : ∀ (F' : Fc) s H C cl fp, TGT F' (Bk X scope s H C cl fp) tg L (wipeY τ (own.map (·.2))) t τb) (ct : ∀ (F' : Fc) s H C cl fp, CT F' (Bk X scope s H C cl fp) c τb σ1 σ0) (el : ∀ (F' : Fc) s H C cl fp, WT F' (Bk X scope s H C cl fp) elt σ1 u)
    (hs : ∀ x, foldedSetIterable iter X.env x = pure x := by intro _; rfl) : WLT F X (.ListComp elt [⟨tg, iter, [c], 0⟩] scope pos) τ u 0 hi := fun es g => by
  refine wl_lc own hc hN ok hL (no_of g hz) (lc_may (It1.imp (it es g) fun ds ⟨q1, q2, q3⟩ => ⟨by omega, fun d hd F' _ _ s H C cl fp => ?_, fun out h1 h2 => ⟨Nat.zero_le _, by omega, h2⟩⟩)) hs
  exact TG1.imp (tgt F' s H C cl fp _ d (ts_wipe g _) (q3 d hd)) fun es2 g2 s H C cl fp => T.imp (ct F' s H C cl fp es2 g2) fun k ⟨q1, _⟩ hk s H C cl fp => el F' s H C cl fp es2 (q1 hk)
/-! known defs -/
abbrev TRow (r : Int) (lo hi : Nat) : Ty := TV (TStp r) lo hi
theorem ap_draw {l h : Int} (h1 : 1 ≤ l) (h2 : h < 2 ^ 60) : ∀ ds, Tup [TI l h] ds → (∃ n : Int, ds = [.int n] ∧ 1 ≤ n ∧ n < 2 ^ 60) ∧ ∀ d : D, (∃ x : Int, d = .int x ∧ 0 ≤ x ∧ ∀ n : Int, ds = [.int n] → x < n) → TI 0 (h - 1) d := fun ds g => by
  cases g with
  | cons q g =>
    cases g
    obtain ⟨i, rfl, q1, q2⟩ := q
    exact ⟨⟨i, rfl, by omega, by omega⟩, fun d ⟨x, e, x0, x1⟩ => ⟨x, e, x0, by have := x1 i rfl; omega⟩⟩
theorem ap_pick {t : Ty} {lo hi : Nat} (h1 : 1 ≤ lo) (h2 : hi < 1000) : ∀ ds, Tup [LV t lo hi] ds → (∃ xs : List D, ds = [.list xs] ∧ 1 ≤ xs.length ∧ xs.length < 1000) ∧ ∀ d : D, (∀ xs : List D, ds = [.list xs] → d ∈ xs) → t d := fun ds g => by
  cases g with
  | cons q g =>
    cases g
    obtain ⟨xs, rfl, q1, q2, q3⟩ := q
    exact ⟨⟨xs, rfl, by omega, by omega⟩, fun d h => q3 d (h xs rfl)⟩
theorem ivT {r : Int} {lo hi : Nat} {d : D} (h : TRow r lo hi d) : ∃ xs : List Int, d = iv xs ∧ AllS r xs ∧ lo ≤ xs.length ∧ xs.length ≤ hi := by
  obtain ⟨ds, rfl, q1, q2, q3⟩ := h
  have key : ∀ ds : List D, (∀ x ∈ ds, TStp r x) → ∃ xs : List Int, ds = xs.map PyData.int ∧ AllS r xs := by
    intro ds
    induction ds with
    | nil => exact fun _ => ⟨[], rfl, fun _ h => by cases h⟩
    | cons d ds ih =>
      intro q
      obtain ⟨xs, rfl, h⟩ := ih fun x hx => q x (List.mem_cons_of_mem _ hx)
      obtain ⟨s, rfl, hs⟩ := q d List.mem_cons_self
      exact ⟨s :: xs, rfl, fun y hy => by
        rcases List.mem_cons.mp hy with z | z
        · rw [z]; exact hs
        · exact h y z⟩
  obtain ⟨xs, rfl, h⟩ := key ds q3
  rw [List.length_map] at q1 q2
  exact ⟨xs, rfl, h, q1, q2⟩
theorem tIv {r : Int} {lo hi : Nat} {xs : List Int} (h : AllS r xs) (h1 : lo ≤ xs.length) (h2 : xs.length ≤ hi) : TRow r lo hi (iv xs) := ⟨_, rfl, by rw [List.length_map]; exact h1, by rw [List.length_map]; exact h2, fun d hd => by
  obtain ⟨s, hs, rfl⟩ := List.mem_map.mp hd
  exact ⟨s, rfl, h s hs⟩⟩
end
end DW
namespace DW
open PySem PySem.W L2 RZ PyProof.Rows
section
variable {X : Cx}
/-- == [], == (), != [], != (): whatever stands in the other -/
theorem size0 {xs : List V} {its : List Value} (r : Vals xs its) : its.toArray.size = xs.length := by rw [List.size_toArray, r.length]
def rL0 (K : PySem.W.Frag) (k : Bool → Bool) : R2 := fun x y H Q => ∃ (a : Addr) (xs : List V) (b : Addr), x = .ref a ∧ SqL K H a xs ∧ y = .ref b ∧ SqL K H b [] ∧ Q (.bl (k xs.isEmpty)) H
def rT0 (K : PySem.W.Frag) (k : Bool → Bool) : R2 := fun x y H Q => ∃ (a : Addr) (xs : List V) (b : Addr), x = .ref a ∧ SqT K H a xs ∧ y = .ref b ∧ SqT K H b [] ∧ Q (.bl (k xs.isEmpty)) H
theorem vals_nil {its : List Value} (r : Vals ([] : List V) its) : its = [] := by cases r; rfl
theorem op_eqL0 (hu : X.A.units < cLine) : OpR X (compareOp .Eq) (rL0 X.K id) := by
  intro pins s σ H x y v u Q I rx ry ⟨a, xs, b, e1, h1, e2, h2, q⟩
  subst e1 e2
  cases rx; cases ry
  obtain ⟨its, rv, ⟨o, n, ho, hc, _, hd⟩, _⟩ := I.list h1
  obtain ⟨jts, rw', ⟨o', n', ho', hc', _, hd'⟩, _⟩ := I.list h2
  obtain rfl := vals_nil rw'
  have l1 : s.heap.IsList a its.toArray := ⟨o, ho, hc, n, hd⟩
  have l2 : s.heap.IsList b (#[] : Array Value) := ⟨o', ho', hc', n', hd'⟩
  cases xs with
  | nil =>
    obtain rfl := vals_nil rv
    exact PySem.SeqAt.RcAt.lists (e := fun _ => true) l1 l2 rfl hu (fun j h => by cases h) X.prog X.w X.xe _ ⟨.bl _, H, I, rfl, q⟩
  | cons z zs =>
    have := size0 rv
    exact PySem.SeqAt.RcAt.lists_lengths l1 l2 (by rw [this]; rfl) hu X.prog X.w X.xe _ ⟨.bl _, H, I, rfl, q⟩
theorem op_neL0 (hu : X.A.units < cLine) : OpR X (compareOp .NotEq) (rL0 X.K not) := by
  intro pins s σ H x y v u Q I rx ry ⟨a, xs, b, e1, h1, e2, h2, q⟩
  subst e1 e2
  cases rx; cases ry
  obtain ⟨its, rv, ⟨o, n, ho, hc, _, hd⟩, _⟩ := I.list h1
  obtain ⟨jts, rw', ⟨o', n', ho', hc', _, hd'⟩, _⟩ := I.list h2
  obtain rfl := vals_nil rw'
  have l1 : s.heap.IsList a its.toArray := ⟨o, ho, hc, n, hd⟩
  have l2 : s.heap.IsList b (#[] : Array Value) := ⟨o', ho', hc', n', hd'⟩
  cases xs with
  | nil =>
    obtain rfl := vals_nil rv
    exact PySem.SeqAt.RcNeAt.lists (e := fun _ => true) l1 l2 rfl hu (fun j h => by cases h) X.prog X.w X.xe _ ⟨.bl _, H, I, rfl, q⟩
  | cons z zs =>
    have := size0 rv
    exact PySem.SeqAt.RcNeAt.lists_lengths l1 l2 (by rw [this]; rfl) hu X.prog X.w X.xe _ ⟨.bl _, H, I, rfl, q⟩
theorem op_eqT0 (hu : X.A.units < cLine) : OpR X (compareOp .Eq) (rT0 X.K id) := by
  intro pins s σ H x y v u Q I rx ry ⟨a, xs, b, e1, h1, e2, h2, q⟩
  subst e1 e2
  cases rx; cases ry
  obtain ⟨its, rv, ⟨o, ho, hc, n, hd⟩, _⟩ := I.tuple h1
  obtain ⟨jts, rw', ⟨o', ho', hc', n', hd'⟩, _⟩ := I.tuple h2
  obtain rfl := vals_nil rw'
  have l1 : s.heap.IsTuple a its.toArray := ⟨o, ho, hc, n, hd⟩
  have l2 : s.heap.IsTuple b (#[] : Array Value) := ⟨o', ho', hc', n', hd'⟩
  have sz := size0 rv
  refine PySem.SeqAt.RcAt.tuples (e := fun _ => true) l1 l2 hu (fun j _ h => by cases h) X.prog X.w X.xe _ ⟨.bl (id xs.isEmpty), H, I, ?_, q⟩
  have : ((List.range (min its.toArray.size (#[] : Array Value).size)).all (fun _ => true) && its.toArray.size == (#[] : Array Value).size) = xs.isEmpty := by
    rw [sz]; cases xs <;> simp
  show Value.bool _ = Value.bool _
  rw [this]; rfl
theorem op_neT0 (hu : X.A.units < cLine) : OpR X (compareOp .NotEq) (rT0 X.K not) := by
  intro pins s σ H x y v u Q I rx ry ⟨a, xs, b, e1, h1, e2, h2, q⟩
  subst e1 e2
  cases rx; cases ry
  obtain ⟨its, rv, ⟨o, ho, hc, n, hd⟩, _⟩ := I.tuple h1
  obtain ⟨jts, rw', ⟨o', ho', hc', n', hd'⟩, _⟩ := I.tuple h2
  obtain rfl := vals_nil rw'
  have l1 : s.heap.IsTuple a its.toArray := ⟨o, ho, hc, n, hd⟩
  have l2 : s.heap.IsTuple b (#[] : Array Value) := ⟨o', ho', hc', n', hd'⟩
  have sz := size0 rv
  refine PySem.SeqAt.RcNeAt.tuples (e := fun _ => true) l1 l2 hu (fun j _ h => by cases h) X.prog X.w X.xe _ ⟨.bl (not xs.isEmpty), H, I, ?_, q⟩
  have : ((List.range (min its.toArray.size (#[] : Array Value).size)).all (fun _ => true) && its.toArray.size == (#[] : Array Value).size) = xs.isEmpty := by
    rw [sz]; cases xs <;> simp
  show Value.bool _ = Value.bool _
  rw [this]
theorem isE {M : Addr → Prop} {H : Hp} {xs : List V} {ds : List D} (h : DtA M H xs ds) : xs.isEmpty = ds.isEmpty := by cases h <;> rfl
theorem dt_nil {M : Addr → Prop} {H : Hp} {xs : List V} (h : DtA M H xs []) : xs = [] := by cases h; rfl
theorem od_eqL0 (hu : X.A.units + 64 < cLine) {ds : List D} : OpD X (compareOp .Eq) (.list ds) (.list []) (.bool ds.isEmpty) := fun M H v u kn hv hu' Q q => by
  obtain ⟨a, xs, rfl, h1, _, h3⟩ := hv.lst_inv
  obtain ⟨b, ys, rfl, g1, _, g3⟩ := hu'.lst_inv
  obtain rfl := dt_nil g3
  exact ⟨_, op_eqL0 (by omega), a, xs, b, rfl, SqL.of h1, rfl, SqL.of g1, q _ H same0 (by rw [← isE h3]; exact .bl _)⟩
theorem od_neL0 (hu : X.A.units + 64 < cLine) {ds : List D} : OpD X (compareOp .NotEq) (.list ds) (.list []) (.bool (!ds.isEmpty)) := fun M H v u kn hv hu' Q q => by
  obtain ⟨a, xs, rfl, h1, _, h3⟩ := hv.lst_inv
  obtain ⟨b, ys, rfl, g1, _, g3⟩ := hu'.lst_inv
  obtain rfl := dt_nil g3
  exact ⟨_, op_neL0 (by omega), a, xs, b, rfl, SqL.of h1, rfl, SqL.of g1, q _ H same0 (by rw [← isE h3]; exact .bl _)⟩
theorem od_eqT0 (hu : X.A.units + 64 < cLine) {ds : List D} : OpD X (compareOp .Eq) (.tuple ds) (.tuple []) (.bool ds.isEmpty) := fun M H v u kn hv hu' Q q => by
  obtain ⟨a, xs, rfl, h1, _, h3⟩ := hv.tup_inv
  obtain ⟨b, ys, rfl, g1, _, g3⟩ := hu'.tup_inv
  obtain rfl := dt_nil g3
  exact ⟨_, op_eqT0 (by omega), a, xs, b, rfl, SqT.of h1, rfl, SqT.of g1, q _ H same0 (by rw [← isE h3]; exact .bl _)⟩
theorem od_neT0 (hu : X.A.units + 64 < cLine) {ds : List D} : OpD X (compareOp .NotEq) (.tuple ds) (.tuple []) (.bool (!ds.isEmpty)) := fun M H v u kn hv hu' Q q => by
  obtain ⟨a, xs, rfl, h1, _, h3⟩ := hv.tup_inv
  obtain ⟨b, ys, rfl, g1, _, g3⟩ := hu'.tup_inv
  obtain rfl := dt_nil g3
  exact ⟨_, op_neT0 (by omega), a, xs, b, rfl, SqT.of h1, rfl, SqT.of g1, q _ H same0 (by rw [← isE h3]; exact .bl _)⟩
end
end DW
namespace DW
open PySem PySem.W L2 RZ PyProof.Rows K9
section
variable {F : Fc} {X : Cx} {e a b c elt tg iter : Expr} {τ τ1 τ0 τ' τ2 : List Sy} {t u v R t1 t0 : Ty} {ts : List Ty} {pos p p2 pos' pn apos cpos : Pos} {s : Stmt} {ss A B' : List Stmt} {r : List Expr} {B C : List Sl → Prop} {lo hi lo' hi' : Nat} {l h l' h' : Int}
/-! tests that tell more of a slot -/
theorem ct_ref {i : Nat} {x : Str} {Cd : Bool → D → Prop} (hi' : τ[i]? = some (.d t)) (hN : X.N[i]? = some x := by rfl) (hv : Vis X.env.scope x := by first | exact Or.inl rfl | exact Or.inr (Or.inl rfl) | exact Or.inr (Or.inr rfl))
    (hT : ∀ es d, es[i]? = some (.d d) → t d → T F X c es fun k => Cd k d) (h1 : ∀ d, t d → Cd true d → t1 d) (h0 : ∀ d, t d → Cd false d → t0 d) : CT F X c τ (τ.set i (.d t1)) (τ.set i (.d t0)) := fun es g => by
  obtain ⟨_, e1, d, rfl, q⟩ := g.get hi'
  refine T.imp (hT es d e1 q) fun k hk => ⟨fun z => ?_, fun z => ?_⟩
  · subst z; exact TS.upd (y := .d t1) ⟨d, rfl, h1 d q hk⟩ g e1
  · subst z; exact TS.upd (y := .d t0) ⟨d, rfl, h0 d q hk⟩ g e1
abbrev vis (X : Cx) (x : Str) : Prop := Vis X.env.scope x
section
variable {i : Nat} {x : Str} {c' : Int} {j : Nat} {q : Pos}
theorem w_vr {es : List Sl} {d : D} {Φ : D → Prop} (he : es[i]? = some (.d d)) (hN : X.N[i]? = some x) (hv : Vis X.env.scope x) (hd : (x == ("__debug__" : Str)) = false) (hcd : (x == ("__classdict__" : Str)) = false) (q : Φ d) : W F X (.Name x p) es Φ := w_var he hN hv q hd hcd
theorem cr_gt (hi' : τ[i]? = some (.d (TI l h))) (hN : X.N[i]? = some x := by rfl) (hv : Vis X.env.scope x := by first | exact Or.inl rfl | exact Or.inr (Or.inl rfl) | exact Or.inr (Or.inr rfl)) (hd : (x == ("__debug__" : Str)) = false := by decide) (hcd : (x == ("__classdict__" : Str)) = false := by decide) {m n : Int} (h1 : m ≤ c' + 1 ∨ m ≤ l) (h2 : c' ≤ n ∨ h ≤ n) :
    CT F X (.Compare (.Name x p) [.Gt] [.Constant (.int c') j q] pos) τ (τ.set i (.d (TI m h))) (τ.set i (.d (TI l n))) :=
  ct_ref (Cd := fun k d => ∃ z : Int, d = .int z ∧ k = decide (c' < z)) hi' hN hv (fun es d e1 ⟨z, e, _⟩ => t_cmp (h := w_vr e1 hN hv hd hcd (w_int ⟨_, by rw [e]; exact od_gt, z, e, rfl⟩)))
    (fun d ⟨z, e, q1, q2⟩ ⟨z', e', k⟩ => ⟨z, e, by rw [e] at e'; cases e'; have := of_decide_eq_true k.symm; omega, q2⟩) (fun d ⟨z, e, q1, q2⟩ ⟨z', e', k⟩ => ⟨z, e, q1, by rw [e] at e'; cases e'; have := of_decide_eq_false k.symm; omega⟩)
theorem cr_lt (hi' : τ[i]? = some (.d (TI l h))) (hN : X.N[i]? = some x := by rfl) (hv : Vis X.env.scope x := by first | exact Or.inl rfl | exact Or.inr (Or.inl rfl) | exact Or.inr (Or.inr rfl)) (hd : (x == ("__debug__" : Str)) = false := by decide) (hcd : (x == ("__classdict__" : Str)) = false := by decide) {m n : Int} (h1 : c' - 1 ≤ m ∨ h ≤ m) (h2 : n ≤ c' ∨ n ≤ l) :
    CT F X (.Compare (.Name x p) [.Lt] [.Constant (.int c') j q] pos) τ (τ.set i (.d (TI l m))) (τ.set i (.d (TI n h))) :=
  ct_ref (Cd := fun k d => ∃ z : Int, d = .int z ∧ k = decide (z < c')) hi' hN hv (fun es d e1 ⟨z, e, _⟩ => t_cmp (h := w_vr e1 hN hv hd hcd (w_int ⟨_, by rw [e]; exact od_lt, z, e, rfl⟩)))
    (fun d ⟨z, e, q1, q2⟩ ⟨z', e', k⟩ => ⟨z, e, q1, by rw [e] at e'; cases e'; have := of_decide_eq_true k.symm; omega⟩) (fun d ⟨z, e, q1, q2⟩ ⟨z', e', k⟩ => ⟨z, e, by rw [e] at e'; cases e'; have := of_decide_eq_false k.symm; omega, q2⟩)
theorem cr_eq (hi' : τ[i]? = some (.d (TI l h))) (hN : X.N[i]? = some x := by rfl) (hv : Vis X.env.scope x := by first | exact Or.inl rfl | exact Or.inr (Or.inl rfl) | exact Or.inr (Or.inr rfl)) (hd : (x == ("__debug__" : Str)) = false := by decide) (hcd : (x == ("__classdict__" : Str)) = false := by decide) {m n : Int} (h1 : m ≤ l ∨ (l = c' ∧ m ≤ c' + 1)) (h2 : h ≤ n ∨ (h = c' ∧ c' - 1 ≤ n)) :
    CT F X (.Compare (.Name x p) [.Eq] [.Constant (.int c') j q] pos) τ (τ.set i (.d (TI c' c'))) (τ.set i (.d (TI m n))) :=
  ct_ref (Cd := fun k d => ∃ z : Int, d = .int z ∧ k = decide (z = c')) hi' hN hv (fun es d e1 ⟨z, e, _⟩ => t_cmp (h := w_vr e1 hN hv hd hcd (w_int ⟨_, by rw [e]; exact od_eqI, z, e, rfl⟩)))
    (fun d ⟨z, e, q1, q2⟩ ⟨z', e', k⟩ => ⟨z, e, by rw [e] at e'; cases e'; have := of_decide_eq_true k.symm; omega, by rw [e] at e'; cases e'; have := of_decide_eq_true k.symm; omega⟩) (fun d ⟨z, e, q1, q2⟩ ⟨z', e', k⟩ => ⟨z, e, by rw [e] at e'; cases e'; have := of_decide_eq_false k.symm; omega, by rw [e] at e'; cases e'; have := of_decide_eq_false k.symm; omega⟩)
/-- isinstance(name, T) -/
theorem ct_isi {y : Str} {n : String} {p3 : Pos} (hm : X.mg "isinstance" = none) (hg : Gl X "isinstance") (hg2 : Gl X y) (hm2 : X.mg y = none) (hv2 : bootBuiltins y = some (.type n)) (hi' : τ[i]? = some (.d t)) (hA : ∀ d, t d → ∃ k, AnyIs X.K d n k ∧ (k = true → t1 d) ∧ (k = false → t0 d)) (hN : X.N[i]? = some x := by rfl)
    (hv : Vis X.env.scope x := by first | exact Or.inl rfl | exact Or.inr (Or.inl rfl) | exact Or.inr (Or.inr rfl)) (hd : (x == ("__debug__" : Str)) = false := by decide) (hcd : (x == ("__classdict__" : Str)) = false := by decide) (hn2 : y ≠ "__name__" := by decide) (hdb2 : (y == ("__debug__" : Str)) = false := by decide)
    (he : starEach [.Name x p, .Name y p2] X.env = (false, eval (.Name x p) X.env) :: starEach [.Name y p2] X.env := by rfl) (he2 : starEach [.Name y p2] X.env = (false, eval (.Name y p2) X.env) :: starEach [] X.env := by rfl) (hpl : (backTo pos (starEach [.Name y p2] X.env)).any (·.1) = false := by rfl)
    (he3 : ∀ whole, isTrue (.Call (.Name "isinstance" p3) [.Name x p, .Name y p2] [] pos) X.env whole = (do let v ← whole; standAt (Expr.pos (.Call (.Name "isinstance" p3) [.Name x p, .Name y p2] [] pos)); holding [v] (truthy v)) := by intro _; rfl) :
    CT F X (.Call (.Name "isinstance" p3) [.Name x p, .Name y p2] [] pos) τ (τ.set i (.d t1)) (τ.set i (.d t0)) :=
  ct_ref (Cd := fun k d => (k = true → t1 d) ∧ (k = false → t0 d)) hi' hN hv (fun es d e1 q => t_val (w_isA hg hm PyProof.Rows.boot_isinstance hg2 hm2 hv2 (w_vr e1 hN hv hd hcd (by
      obtain ⟨k, h1, h2⟩ := hA d q
      exact ⟨k, h1, k, rfl, h2⟩)) (by decide) (by decide) hn2 hdb2 he he2 hpl) he3) (fun d _ k => k.1 rfl) (fun d _ k => k.2 rfl)
/-- name == () -/
theorem ct_eqT0 {n : Nat} {p3 : Pos} (hu : X.A.units + 64 < cLine) (hi' : τ[i]? = some (.d (TV t lo hi))) (hN : X.N[i]? = some x := by rfl) (hv : Vis X.env.scope x := by first | exact Or.inl rfl | exact Or.inr (Or.inl rfl) | exact Or.inr (Or.inr rfl)) (hd : (x == ("__debug__" : Str)) = false := by decide) (hcd : (x == ("__classdict__" : Str)) = false := by decide) :
    CT F X (.Compare (.Name x p) [.Eq] [.Tuple [] n p3] pos) τ (τ.set i (.d (TV t lo hi))) (τ.set i (.d (TV t (max lo 1) hi))) :=
  ct_ref (Cd := fun k d => k = false → TV t (max lo 1) hi d) hi' hN hv (fun es d e1 ⟨ds, e, q1, q2, q3⟩ => t_cmp (h := w_vr e1 hN hv hd hcd (w_tup (wa_nil ⟨Nat.zero_le _, ds.isEmpty, by rw [e]; exact od_eqT0 hu, fun z => ⟨ds, e, by
      cases ds with
      | nil => cases z
      | cons d ds => simp only [List.length_cons] at q1 ⊢; omega, q2, q3⟩⟩)))) (fun d q _ => q) (fun d _ k => k rfl)
end
/-- a length that is known by name -/
theorem bt_fix {i : Nat} (hi' : τ[i]? = some (.d (TV t lo hi))) (h : ∀ n, lo ≤ n → n ≤ hi → BT F X ss (τ.set i (.d (TV t n n))) τ' R B C) : BT F X ss τ τ' R B C := fun es g => by
  obtain ⟨e, h1, d, rfl, ds, e2, q1, q2, q3⟩ := g.get hi'
  exact h ds.length q1 q2 es (TS.upd (y := .d (TV t ds.length ds.length)) ⟨d, rfl, ds, e2, Nat.le_refl _, Nat.le_refl _, q3⟩ g h1)
theorem bt_fixL {i : Nat} (hi' : τ[i]? = some (.d (LV t lo hi))) (h : ∀ n, lo ≤ n → n ≤ hi → BT F X ss (τ.set i (.d (LV t n n))) τ' R B C) : BT F X ss τ τ' R B C := fun es g => by
  obtain ⟨e, h1, d, rfl, ds, e2, q1, q2, q3⟩ := g.get hi'
  exact h ds.length q1 q2 es (TS.upd (y := .d (LV t ds.length ds.length)) ⟨d, rfl, ds, e2, Nat.le_refl _, Nat.le_refl _, q3⟩ g h1)
/-- an int that is known by name -/
theorem bt_fixI {i : Nat} (hi' : τ[i]? = some (.d (TI l h))) (g : ∀ n, l ≤ n → n ≤ h → BT F X ss (τ.set i (.d (TI n n))) τ' R B C) : BT F X ss τ τ' R B C := fun es g' => by
  obtain ⟨e, h1, d, rfl, z, e2, q1, q2⟩ := g'.get hi'
  exact g z q1 q2 es (TS.upd (y := .d (TI z z)) ⟨d, rfl, z, e2, Int.le_refl _, Int.le_refl _⟩ g' h1)
/-- nothing can be there -/
theorem dead {i : Nat} (hi' : τ[i]? = some (.d t)) (h : ∀ d, ¬ t d) : Sys τ NEV := fun es g => by
  obtain ⟨e, _, d, _, q⟩ := g.get hi'
  exact (h d q).elim
theorem wt_nev : WT F X e NEV t := fun es g => (nev g).elim
theorem no_I (h : h' < l') : ∀ d, ¬ TI l' h' d := fun d ⟨z, _, q1, q2⟩ => by omega
theorem st_par3 {i j l : Nat} {x y z : Str} {px py pz pt : Pos} {kt k2 pt2} (hc : X.calm = true) (hN : X.N.Nodup) (hi' : X.N[i]? = some x) (hj : X.N[j]? = some y) (hl' : X.N[l]? = some z) (hij : i ≠ j) (hil : i ≠ l) (hjl : j ≠ l)
    (hx : X.env.scope.names.lookup x = some .local) (hy : X.env.scope.names.lookup y = some .local) (hz : X.env.scope.names.lookup z = some .local) (hli : i < τ.length) (hlj : j < τ.length) (hll : l < τ.length)
    (ha : WT F X a τ t) (hb : WT F X b τ u) (hcc : WT F X c τ v) (hsa : starEach [a, b, c] X.env = (false, eval a X.env) :: starEach [b, c] X.env := by rfl) (hsb : starEach [b, c] X.env = (false, eval b X.env) :: starEach [c] X.env := by rfl) (hsc : starEach [c] X.env = (false, eval c X.env) :: starEach [] X.env := by rfl)
    (hw : swappedStores [.Tuple [.Name x px, .Name y py, .Name z pz] kt pt] (.Tuple [a, b, c] k2 pt2) X.env = pure (some [x, y, z]) := by rfl)
    (hs : swapsWithSole [.Tuple [.Name x px, .Name y py, .Name z pz] kt pt] (.Tuple [a, b, c] k2 pt2) pos.line X.env = pure false := by rfl) : ST F X (.Assign [.Tuple [.Name x px, .Name y py, .Name z pz] kt pt] (.Tuple [a, b, c] k2 pt2) pos) τ (((τ.set i (.d t)).set j (.d u)).set l (.d v)) R B C := fun es g =>
  ws_par3 hc hN hi' hj hl' hij hil hjl hx hy hz (by rw [← g.len]; exact hli) (by rw [← g.len]; exact hlj) (by rw [← g.len]; exact hll) hsa hsb hsc ((ha es g).imp fun d q => (hb es g).imp fun d' q' => (hcc es g).imp fun d'' q'' => TS.set (y := .d v) ⟨d'', rfl, q''⟩ (TS.set (y := .d u) ⟨d', rfl, q'⟩ (TS.set (y := .d t) ⟨d, rfl, q⟩ g))) hw hs
theorem Sys.trans {a b c : List Sy} (h : Sys a b) (g : Sys b c) : Sys a c := fun es q => g es (h es q)
/-- len of one's own list -/
theorem t_lenO {i : Nat} {x : Str} (hm : X.mg "len" = none) (hg : Gl X "len") (hi' : τ[i]? = some (.own t lo hi)) (hN : X.N[i]? = some x := by rfl) (hv : Vis X.env.scope x := by first | exact Or.inl rfl | exact Or.inr (Or.inl rfl) | exact Or.inr (Or.inr rfl)) (hd : (x == ("__debug__" : Str)) = false := by decide)
    (hcd : (x == ("__classdict__" : Str)) = false := by decide) (he : starEach [.Name x p2] X.env = (false, eval (.Name x p2) X.env) :: starEach [] X.env := by rfl) (hpl : (backTo pos (starEach [] X.env)).any (·.1) = false := by rfl) : WT F X (.Call (.Name "len" p) [.Name x p2] [] pos) τ (TI lo hi) := fun es g => by
  obtain ⟨_, h1, ds, rfl, q1, q2, q3⟩ := g.get hi'
  exact w_lenO (i := i) h1 hg hm PySem.boot_len ⟨_, rfl, by omega, by omega⟩ hN hv (by decide) (by decide) he hpl hd hcd
end
end DW
namespace DW
open PySem PySem.W L2 RZ PyProof.Rows K9 A3
section
variable {M : Addr → Prop} {H : Hp} {p : Addr} {ka kb : List (Key × V)}
mutual
theorem Dt.upDk (hp : H p = some (.dK ka)) : ∀ (d : D) (v : V), Dt M H v d → Dt M (upd H p (.dK kb)) v d
  | .none, _, h => by cases h; exact .non
  | .bool b, _, h => by cases h; exact .bl b
  | .int i, _, h => by cases h; exact .int i
  | .str x, _, h => by cases h; exact .str x
  | .list ds, _, h => by
    cases h with
    | lst h1 h2 h3 => exact .lst (by rw [upd_ne fun z => by rw [z, hp] at h1; cases h1]; exact h1) h2 (DtA.upDk hp ds _ h3)
  | .tuple ds, _, h => by
    cases h with
    | tup h1 h2 h3 => exact .tup (by rw [upd_ne fun z => by rw [z, hp] at h1; cases h1]; exact h1) h2 (DtA.upDk hp ds _ h3)
  | .dict _, _, h => by
    cases h with
    | @dct a o h1 h2 h3 =>
      by_cases e : a = p
      · exact .dct (o := .dK kb) (by rw [e, upd_same]) h2 True.intro
      · exact .dct (by rw [upd_ne e]; exact h1) h2 h3
    | ins h1 h2 => exact .ins (by rw [upd_ne fun z => by rw [z, hp] at h1; cases h1]; exact h1) h2
theorem DtA.upDk (hp : H p = some (.dK ka)) : ∀ (ds : List D) (vs : List V), DtA M H vs ds → DtA M (upd H p (.dK kb)) vs ds
  | [], _, h => by cases h; exact .nil
  | d :: ds, _, h => by
    cases h with
    | cons h1 h2 => exact .cons (Dt.upDk hp d _ h1) (DtA.upDk hp ds _ h2)
end
theorem KvOk.upDk (hp : H p = some (.dK ka)) : ∀ {xs : List NKV} {kvs : List (D × D)}, Paired (KvOk M H) xs kvs → Paired (KvOk M (upd H p (.dK kb))) xs kvs
  | _, _, .nil => .nil
  | _, _, .cons r t => .cons ⟨r.1, r.2.1, r.2.2.1, Dt.upDk hp _ _ r.2.2.2.1, Dt.upDk hp _ _ r.2.2.2.2⟩ (KvOk.upDk hp t)
end
section
variable {F : Fc} {H : Hp} {σ : L2.St} {es : List Sl} {p : Addr} {ka kb : List (Key × V)}
theorem Sg.upDk (s : Sg F H σ es) (hp : H p = some (.dK ka)) (h0 : F.H0 p = none) (hm : ¬ Mx F σ es p) : Sg F (upd H p (.dK kb)) σ es where
  len := s.len
  ext := fun b o e n => by rw [upd_ne (ne_of_none e h0)]; exact s.ext b o e n
  ok := F.okx H _ s.ok fun b o hb e => by rw [upd_ne fun z => hm (by rw [← z]; exact .inl hb)]; exact e
  dat := fun i x h => let ⟨v, q, r⟩ := s.dat i x h; ⟨v, q, Dt.upDk hp _ _ r⟩
  own := fun i e h z => by
    obtain ⟨l, q1, q0, ⟨o, q2⟩, q3⟩ := s.own i e h z
    have hl : l ≠ p := fun y => hm (by rw [← y]; exact .inr ⟨i, e, h, z, q1⟩)
    refine ⟨l, q1, q0, ⟨o, by rw [upd_ne hl]; exact q2⟩, ?_⟩
    cases e with
    | own ds =>
      obtain ⟨ys, g1, g2⟩ := q3
      exact ⟨ys, by rw [upd_ne hl]; exact g1, DtA.upDk hp _ _ g2⟩
    | od kvs =>
      obtain ⟨ys, g1, g2⟩ := q3
      exact ⟨ys, by rw [upd_ne hl]; exact g1, KvOk.upDk hp g2⟩
    | oda l0 kvs =>
      obtain ⟨g0, ys, g1, g2⟩ := q3
      exact ⟨g0, ys, by rw [upd_ne hl]; exact g1, KvOk.upDk hp g2⟩
    | _ => trivial
  inj := s.inj
  dk := s.dk
  fd := fun i kvs h => by
    obtain ⟨l, od, xs, q1, q2, q4, q3⟩ := s.fd i kvs h
    exact ⟨l, od, xs, q1, by rw [upd_ne fun z => by rw [z, hp] at q2; cases q2]; exact q2, q4, KvOk.upDk hp q3⟩
end
section
variable {F : Fc} {X : Cx} {e a b c k1 k2 v1 v2 elt tg iter : Expr} {es : List Sl} {Φ : D → Prop} {τ τ1 τ0 τ' τ2 : List Sy} {t u v R t1 t0 : Ty} {ts : List Ty} {pos p p2 pos' pn apos cpos : Pos} {s : Stmt} {ss A B' : List Stmt} {r : List Expr} {B C : List Sl → Prop} {lo hi lo' hi' : Nat} {l h l' h' : Int}
def IsKy (d : D) : Prop := (∃ i : Int, d = .int i) ∨ ∃ x : Str, d = .str x
theorem ky_v {M : Addr → Prop} {H : Hp} {v : V} {d : D} (h : Dt M H v d) (g : IsKy d) : ∃ k : Key, v = kV k := by
  rcases g with ⟨i, rfl⟩ | ⟨x, rfl⟩
  · exact ⟨Sum.inl i, h.int_inv⟩
  · exact ⟨Sum.inr x, h.str_inv⟩
/-- {k: v, k: v} as a value: its keys are ints and texts -/
theorem w_dctK2 (h : W F X k1 es fun d1 => IsKy d1 ∧ W F X v1 es fun _ => W F X k2 es fun d2 => IsKy d2 ∧ W F X v2 es fun _ => Φ (.dict [])) : W F X (.Dict [some k1, some k2] [v1, v2] pos) es Φ := fun σ H s Q kk => by
  refine ⟨_, pe_disp (pps_cons can_e can_e (pps_cons can_e can_e pps_nil)) rfl rfl (fun z => nomatch z) (by show 2 ≤ 15; decide), fun p hp => ?_⟩
  have nm0 := s.fresh hp
  have h0 : F.H0 p = none := by
    cases e : F.H0 p with
    | none => rfl
    | some o => have := s.ext p o e fun z => nm0 (.inl z); rw [hp] at this; cases this
  refine h σ _ (s.new hp) _ fun kv1 kd1 H1 s1 x1 t1 ⟨y1, hv⟩ => ?_
  refine hv σ H1 s1 _ fun vv1 vd1 H2 s2 x2 t2 hk2 => ?_
  refine hk2 σ H2 s2 _ fun kv2 kd2 H3 s3 x3 t3 ⟨y2, hv2⟩ => ?_
  refine hv2 σ H3 s3 _ fun vv2 vd2 H4 s4 x4 t4 ph => ?_
  obtain ⟨q1, rfl⟩ := ky_v t1 y1
  obtain ⟨q2, rfl⟩ := ky_v t3 y2
  have p1 : H1 p = some (.dK []) := x1 p _ upd_same fun z => nm0 (.inl z)
  have p4 : H4 p = some (.dK []) := x4 p _ (x3 p _ (x2 p _ p1 fun z => nm0 (.inl z)) fun z => nm0 (.inl z)) fun z => nm0 (.inl z)
  refine ⟨p4, [(q1, vv1), (q2, vv2)], rfl, by show 2 ≤ 15; decide, ?_⟩
  refine kk _ _ _ (s4.upDk p4 h0 nm0) (fun c o e n => ?_) (.dct upd_same nm0 True.intro) ph
  have hc : c ≠ p := ne_of_none e hp
  rw [upd_ne hc]
  exact x4 c o (x3 c o (x2 c o (x1 c o (by rw [upd_ne hc]; exact e) n) n) n) n
theorem t_dct0 : WT F X (.Dict [] [] pos) τ (TQ (.dict [])) := fun es g => w_dct0 rfl
theorem t_dctK2 (h1 : WT F X k1 τ t) (y1 : Sb t IsKy) (h2 : WT F X v1 τ u) (h3 : WT F X k2 τ v) (y2 : Sb v IsKy) (h4 : WT F X v2 τ R) : WT F X (.Dict [some k1, some k2] [v1, v2] pos) τ (TQ (.dict [])) := fun es g =>
  w_dctK2 ((h1 es g).imp fun d q => ⟨y1 d q, (h2 es g).imp fun _ _ => (h3 es g).imp fun d' q' => ⟨y2 d' q', (h4 es g).imp fun _ _ => rfl⟩⟩)
theorem ky_str {x : Str} : Sb (TQ (.str x)) IsKy := fun _ e => .inr ⟨x, e⟩
theorem ky_int : Sb (TI l h) IsKy := fun _ ⟨i, e, _⟩ => .inl ⟨i, e⟩
theorem wd_D {K : PySem.W.Frag} {n : Nat} : Sb (TQ (.dict [])) (Wd K n) := sb_E .dct
theorem wd_Q {K : PySem.W.Frag} {n : Nat} {x : Str} (h : x.length ≤ 1000) : Sb (TQ (.str x)) (Wd K n) := sb_E (.str (by omega))
theorem wd_b {K : PySem.W.Frag} {n : Nat} {b : Bool} : Sb (TQ (.bool b)) (Wd K n) := sb_E (.bl b)
/-! numbers -/
theorem t_pow {x y : Int} {j1 j2 : Nat} {q1 q2 : Pos} {z : Int} (hc : CPow x y) (e : x ^ y.toNat = z) : WT F X (.BinOp (.Constant (.int x) j1 q1) .Pow (.Constant (.int y) j2 q2) pos) τ (TI z z) := fun es g => w_bin (w_int (w_int ⟨_, od_pow hc, _, rfl, by omega, by omega⟩))
theorem t_mulE {x y : Int} (ha : WT F X a τ (TI x x)) (hb : WT F X b τ (TI y y)) (hx : Bg x) (hy : Bg y) : WT F X (.BinOp a .Mult b pos) τ (TI (x * y) (x * y)) := fun es g => w_bin ((ha es g).imp fun _ ⟨i, e, q1, q2⟩ => e ▸ (hb es g).imp fun _ ⟨j, e', q3, q4⟩ => e' ▸ by
  obtain rfl : i = x := by omega
  obtain rfl : j = y := by omega
  exact ⟨_, od_mulW (wide_mul hx hy (by decide) (by decide) (by decide)), _, rfl, Int.le_refl _, Int.le_refl _⟩)
theorem t_mulN {m : Int} (ha : WT F X a τ (TI l h)) (hb : WT F X b τ (TI m m)) (hm : 0 ≤ m) (hm2 : m < 2 ^ 64) : WT F X (.BinOp a .Mult b pos) τ (TI (l * m) (h * m)) := fun es g => w_bin ((ha es g).imp fun _ ⟨i, e, q1, q2⟩ => e ▸ (hb es g).imp fun _ ⟨j, e', q3, q4⟩ => e' ▸ by
  obtain rfl : j = m := by omega
  exact ⟨_, od_mul (.inr ⟨by omega, hm2⟩), _, rfl, Int.mul_le_mul_of_nonneg_right q1 hm, Int.mul_le_mul_of_nonneg_right q2 hm⟩)
theorem t_eqB (ha : WT F X a τ (TI l h)) (hb : WT F X b τ (TI l' h')) : WT F X (.Compare a [.Eq] [b] pos) τ TB := fun es g => w_cmp (h := (ha es g).imp fun _ ⟨i, e, _⟩ => e ▸ (hb es g).imp fun _ ⟨j, e', _⟩ => e' ▸ ⟨_, od_eqI, _, rfl⟩)
theorem strI_len {i : Int} (h : i.natAbs ≤ 2 ^ 1100) : i.natAbs.log2 < 1920 ∧ (Str.ofString (toString i)).length ≤ 580 := by
  have s : Sm i := Nat.lt_of_le_of_lt h (by decide +kernel)
  exact ⟨sm_log s, sh_int s⟩
theorem t_strI (hm : X.mg "str" = none) (hg : Gl X "str") (ha : WT F X a τ (TI l h)) (b1 : -((2 : Int) ^ 1100) ≤ l) (b2 : h ≤ (2 : Int) ^ 1100) (he : starEach [a] X.env = (false, eval a X.env) :: starEach [] X.env := by rfl) (hpl : (backTo pos (starEach [] X.env)).any (·.1) = false := by rfl) : WT F X (.Call (.Name "str" p) [a] [] pos) τ (TS0 580) := fun es g =>
  w_callTy hg hm PyProof.Rows.boot_str (wa_cons ((ha es g).imp fun _ ⟨i, e, q1, q2⟩ => by
    have hi : i.natAbs ≤ 2 ^ 1100 := natAbs_pow (Int.le_trans b1 q1) (Int.le_trans q2 b2)
    exact wa_nil ⟨_, e ▸ cd_strI (strI_len hi).1, _, rfl, (strI_len hi).2⟩) he) (he := he) (hpl := hpl)
/-! any values, told by isinstance -/
theorem isi_tup {K : PySem.W.Frag} {n : Nat} : ∀ d, Wd K n d → ∃ k, AnyIs K d "tuple" k ∧ (k = true → TV (Wd K n) 0 (3000 + n) d) ∧ (k = false → Wd K n d) := fun d h => by
  refine ⟨_, ay_tup h, fun z => ?_, fun _ => h⟩
  cases d with
  | tuple ds => cases h with
    | tup h1 h2 => exact ⟨ds, rfl, Nat.zero_le _, h1, h2⟩
  | _ => cases z
/-- nested tuples of ints (and of texts) -/
inductive Ni (st : Bool) : D → Prop
  | int {i : Int} : i.natAbs ≤ 10 ^ 121 → Ni st (.int i)
  | str {x : Str} : st = true → x.length ≤ 100 → Ni st (.str x)
  | tup {ds : List D} : ds.length ≤ 400 → (∀ d ∈ ds, Ni st d) → Ni st (.tuple ds)
theorem ni_wd {K : PySem.W.Frag} {n : Nat} {st : Bool} : Sb (Ni st) (Wd K n) := fun d h => by
  induction h with
  | int h => exact .int (Nat.le_trans h (Nat.le_trans (by decide +kernel : 10 ^ 121 ≤ 2 ^ 1000) (Nat.le_add_right _ _)))
  | str _ h => exact .str (by omega)
  | tup h _ ih => exact .tup (by omega) ih
theorem ni_V {st : Bool} {l h : Nat} {a : Ty} (s : Sb a (Ni st)) (h2 : h ≤ 400) : Sb (TV a l h) (Ni st) := fun _ ⟨ds, e, _, q2, q3⟩ => e ▸ .tup (by omega) fun d hd => s d (q3 d hd)
theorem ni_I {st : Bool} {a b : Int} (h1 : -((10 : Int) ^ 121) ≤ a) (h2 : b ≤ (10 : Int) ^ 121) : Sb (TI a b) (Ni st) := fun _ ⟨i, e, q1, q2⟩ => e ▸ .int (by
  have h : ((10 ^ 121 : Nat) : Int) = (10 : Int) ^ 121 := Int.natCast_pow 10 121
  rw [← h] at h1 h2
  omega)
theorem ni_T {st : Bool} {ts : List Ty} (s : ∀ t ∈ ts, Sb t (Ni st)) (h2 : ts.length ≤ 400) : Sb (TT ts) (Ni st) := fun _ ⟨ds, e, q⟩ => e ▸ .tup (by rw [← tup_len q]; omega) (tup_all s q)
theorem ni_b {i : Int} (h : i.natAbs ≤ 10 ^ 121) : -((10 : Int) ^ 121) ≤ i ∧ i ≤ (10 : Int) ^ 121 := by
  have h' : ((10 ^ 121 : Nat) : Int) = (10 : Int) ^ 121 := Int.natCast_pow 10 121
  rw [← h']; omega
theorem isi_niT {K : PySem.W.Frag} {st : Bool} : ∀ d, Ni st d → ∃ k, AnyIs K d "tuple" k ∧ (k = true → TV (Ni st) 0 400 d) ∧ (k = false → (TO (TI (-(10 ^ 121)) (10 ^ 121)) (TS0 100)) d) := fun d h => by
  refine ⟨_, ay_tup (n := 0) (ni_wd d h), fun z => ?_, fun z => ?_⟩
  · cases h with
    | tup h1 h2 => exact ⟨_, rfl, Nat.zero_le _, h1, h2⟩
    | int h1 => cases z
    | str _ h1 => cases z
  · cases h with
    | tup h1 h2 => cases z
    | int h1 => exact .inl ⟨_, rfl, (ni_b h1).1, (ni_b h1).2⟩
    | str _ h1 => exact .inr ⟨_, rfl, h1⟩
theorem isi_niTf {K : PySem.W.Frag} : ∀ d, Ni false d → ∃ k, AnyIs K d "tuple" k ∧ (k = true → TV (Ni false) 0 400 d) ∧ (k = false → TI (-(10 ^ 121)) (10 ^ 121) d) := fun d h => by
  refine ⟨_, ay_tup (n := 0) (ni_wd d h), fun z => ?_, fun z => ?_⟩
  · cases h with
    | tup h1 h2 => exact ⟨_, rfl, Nat.zero_le _, h1, h2⟩
    | int h1 => cases z
    | str _ h1 => cases z
  · cases h with
    | tup h1 h2 => cases z
    | int h1 => exact ⟨_, rfl, (ni_b h1).1, (ni_b h1).2⟩
    | str h _ => cases h
theorem isi_niI {K : PySem.W.Frag} : ∀ d, Ni false d → ∃ k, AnyIs K d "int" k ∧ (k = true → TI (-(10 ^ 121)) (10 ^ 121) d) ∧ (k = false → TV (Ni false) 0 400 d) := fun d h => by
  refine ⟨_, ay_int (n := 0) (ni_wd d h), fun z => ?_, fun z => ?_⟩
  · cases h with
    | int h1 => exact ⟨_, rfl, (ni_b h1).1, (ni_b h1).2⟩
    | tup h1 h2 => cases z
    | str _ h1 => cases z
  · cases h with
    | tup h1 h2 => exact ⟨_, rfl, Nat.zero_le _, h1, h2⟩
    | int h1 => cases z
    | str h1 _ => cases h1
theorem isi_no {K : PySem.W.Frag} {t : Ty} {n : String} (h : ∀ d, t d → tyD d ≠ "?" ∧ kitB (tyD d) n = some false) : ∀ d, t d → ∃ k, AnyIs K d n k ∧ (k = true → False) ∧ (k = false → t d) := fun d g => ⟨false, .inl (h d g), (fun z => Bool.noConfusion z), fun _ => g⟩
theorem isi_yes {K : PySem.W.Frag} {t : Ty} {n : String} (h : ∀ d, t d → tyD d ≠ "?" ∧ kitB (tyD d) n = some true) : ∀ d, t d → ∃ k, AnyIs K d n k ∧ (k = true → t d) ∧ (k = false → False) := fun d g => ⟨true, .inl (h d g), fun _ => g, (fun z => Bool.noConfusion z)⟩
theorem kt_V {lo hi : Nat} {t : Ty} : ∀ d, TV t lo hi d → tyD d ≠ "?" ∧ kitB (tyD d) "str" = some false := fun d ⟨ds, e, _⟩ => by subst e; exact ⟨by simp [tyD], by simp only [tyD]; decide +kernel⟩
theorem kt_Vt {lo hi : Nat} {t : Ty} : ∀ d, TV t lo hi d → tyD d ≠ "?" ∧ kitB (tyD d) "tuple" = some true := fun d ⟨ds, e, _⟩ => by subst e; exact ⟨by simp [tyD], by simp only [tyD]; decide +kernel⟩
theorem kt_Vi {lo hi : Nat} {t : Ty} : ∀ d, TV t lo hi d → tyD d ≠ "?" ∧ kitB (tyD d) "int" = some false := fun d ⟨ds, e, _⟩ => by subst e; exact ⟨by simp [tyD], by simp only [tyD]; decide +kernel⟩
theorem kt_I {lo hi : Int} : ∀ d, TI lo hi d → tyD d ≠ "?" ∧ kitB (tyD d) "int" = some true := fun d ⟨ds, e, _⟩ => by subst e; exact ⟨by simp [tyD], by simp only [tyD]; decide +kernel⟩
theorem kt_It {lo hi : Int} : ∀ d, TI lo hi d → tyD d ≠ "?" ∧ kitB (tyD d) "tuple" = some false := fun d ⟨ds, e, _⟩ => by subst e; exact ⟨by simp [tyD], by simp only [tyD]; decide +kernel⟩
theorem kt_Is {lo hi : Int} : ∀ d, TI lo hi d → tyD d ≠ "?" ∧ kitB (tyD d) "str" = some false := fun d ⟨ds, e, _⟩ => by subst e; exact ⟨by simp [tyD], by simp only [tyD]; decide +kernel⟩
end
end DW
namespace DW
open PySem PySem.W L2 RZ PyProof.Rows K9 A3
theorem dta_set {M : Addr → Prop} {H : Hp} {v : V} {d : D} (t : Dt M H v d) : ∀ {vs : List V} {ds : List D}, DtA M H vs ds → ∀ n : Nat, DtA M H (vs.set n v) (ds.set n d)
  | _, _, .nil, n => .nil
  | _, _, .cons r u, 0 => .cons t u
  | _, _, .cons r u, n + 1 => .cons r (dta_set t u n)
theorem tup2 {t u : Ty} {ps : List D} (h : Tup [t, u] ps) : ∃ a b, ps = [a, b] ∧ t a ∧ u b := by
  cases h with
  | cons q r => cases r with
    | cons q2 r => cases r; exact ⟨_, _, rfl, q, q2⟩
theorem dtb2 {M : Addr → Prop} {H : Hp} {vs : List V} {a b : D} (h : DtA M H vs [a, b]) : ∃ v u, vs = [v, u] ∧ Dt M H v a ∧ Dt M H u b := by
  cases h with
  | cons q r => cases r with
    | cons q2 r => cases r; exact ⟨_, _, rfl, q, q2⟩
def rIns : V → List V → Hp → VK → Prop := fun x vs H Q => ∃ (l : Addr) (xs : List V) (i : Int) (y : V), x = .ref l ∧ vs = [.int i, y] ∧ H l = some (.lst xs) ∧ xs.length < sizeLine ∧ 0 ≤ i ∧ i < 2 ^ 63 ∧ Q .non (upd H l (.lst (xs.take i.toNat ++ [y] ++ xs.drop i.toNat)))
section
variable {F : Fc} {X : Cx} {e a b e1 e2 : Expr} {es : List Sl} {K : Ek} {τ : List Sy} {t : Ty} {R : Ty} {B C : List Sl → Prop} {lo hi : Nat} {l h l' h' : Int} {pos apos cpos p1 p2 p3 p4 q1 q2 pt pt2 : Pos} {kt k2 : Nat}
/-- what a store into one's own list leaves -/
theorem own_turn {H : Hp} {σ : L2.St} (s : Sg F H σ es) {i : Nat} {ds ds' : List D} {l : Addr} {xs xs' : List V} (he : es[i]? = some (.own ds)) (hs : σ[i]? = some (some (.ref l))) (hl : H l = some (.lst xs)) (hd : ∀ M : Addr → Prop, (∀ b, M b ↔ Mx F σ es b) → DtA M (upd H l (.lst xs')) xs' ds') :
    Sg F (upd H l (.lst xs')) σ (es.set i (.own ds')) ∧ Tr F H σ es (upd H l (.lst xs')) σ (es.set i (.own ds')) :=
  s.turn (y := .own ds') (o := .lst xs') he rfl rfl hs (fun od u z => by rw [hl] at z; cases z) fun M hM => ⟨xs', upd_same, hd M hM⟩
theorem own_mv {H : Hp} {σ : L2.St} {i : Nat} {ds : List D} {l : Addr} {o : HO} (he : es[i]? = some (.own ds)) (hs : σ[i]? = some (some (.ref l))) {M : Addr → Prop} (hM : ∀ b, M b ↔ Mx F σ es b) : ∀ b u, H b = some u → ¬ Mx F σ es b → upd H l o b = some u ∧ ¬ M b :=
  fun b u e n => ⟨by rw [upd_ne fun z => n (by rw [z]; exact .inr ⟨i, _, he, rfl, hs⟩)]; exact e, fun z => n ((hM b).mp z)⟩
theorem ixN_of {n : Nat} {i : Int} (h0 : 0 ≤ i) (h1 : i < n) : ixN n i = some i.toNat := by unfold ixN; rw [if_pos h0, if_pos h1]
/-- x[a], x[b] = e, f -/
theorem st_swapO {i ja jb : Nat} {x ya yb : Str} (hc : X.calm = true) (hi' : τ[i]? = some (.own t lo hi)) (hja : τ[ja]? = some (.d (TI l h))) (hjb : τ[jb]? = some (.d (TI l' h'))) (hia : i ≠ ja) (hib : i ≠ jb) (b1 : 0 ≤ l) (b2 : h < lo) (b3 : 0 ≤ l') (b4 : h' < lo)
    (hv : WT F X (.Tuple [e1, e2] k2 pt2) τ (TT [t, t])) (hN : X.N[i]? = some x := by rfl) (hNa : X.N[ja]? = some ya := by rfl) (hNb : X.N[jb]? = some yb := by rfl) (hvx : Vis X.env.scope x := by first | exact Or.inl rfl | exact Or.inr (Or.inl rfl) | exact Or.inr (Or.inr rfl))
    (hva : Vis X.env.scope ya := by first | exact Or.inl rfl | exact Or.inr (Or.inl rfl) | exact Or.inr (Or.inr rfl)) (hvb : Vis X.env.scope yb := by first | exact Or.inl rfl | exact Or.inr (Or.inl rfl) | exact Or.inr (Or.inr rfl))
    (hd : (x == ("__debug__" : Str)) = false := by decide) (hcd : (x == ("__classdict__" : Str)) = false := by decide) (hda : (ya == ("__debug__" : Str)) = false := by decide) (hcda : (ya == ("__classdict__" : Str)) = false := by decide) (hdb : (yb == ("__debug__" : Str)) = false := by decide) (hcdb : (yb == ("__classdict__" : Str)) = false := by decide)
    (hs : swapsWithSole [.Tuple [.Subscript (.Name x p1) (.Name ya p2) q1, .Subscript (.Name x p3) (.Name yb p4) q2] kt pt] (.Tuple [e1, e2] k2 pt2) pos.line X.env = pure false := by rfl) (hw : swappedStores [.Tuple [.Subscript (.Name x p1) (.Name ya p2) q1, .Subscript (.Name x p3) (.Name yb p4) q2] kt pt] (.Tuple [e1, e2] k2 pt2) X.env = pure none := by rfl)
    (h1 : (assignEach [.Tuple [.Subscript (.Name x p1) (.Name ya p2) q1, .Subscript (.Name x p3) (.Name yb p4) q2] kt pt] X.env).map (·.2) = [assign (.Tuple [.Subscript (.Name x p1) (.Name ya p2) q1, .Subscript (.Name x p3) (.Name yb p4) q2] kt pt) X.env] := by rfl)
    (hn : (assignEach [.Subscript (.Name x p1) (.Name ya p2) q1, .Subscript (.Name x p3) (.Name yb p4) q2] X.env).length = 2 := by rfl) (hst : (assignEach [.Subscript (.Name x p1) (.Name ya p2) q1, .Subscript (.Name x p3) (.Name yb p4) q2] X.env).findIdx? (·.1) = none := by rfl)
    (g1 : (assignEach [.Subscript (.Name x p1) (.Name ya p2) q1, .Subscript (.Name x p3) (.Name yb p4) q2] X.env).map (·.2) = assign (.Subscript (.Name x p1) (.Name ya p2) q1) X.env :: (assignEach [.Subscript (.Name x p3) (.Name yb p4) q2] X.env).map (·.2) := by rfl)
    (g2 : (assignEach [.Subscript (.Name x p3) (.Name yb p4) q2] X.env).map (·.2) = assign (.Subscript (.Name x p3) (.Name yb p4) q2) X.env :: (assignEach [] X.env).map (·.2) := by rfl)
    (ha1 : ∀ v, assign (.Subscript (.Name x p1) (.Name ya p2) q1) X.env v = (do
      let ov ← holding [v] (eval (.Name x p1) X.env)
      let iv ← holding [v, ov] (eval (.Name ya p2) X.env)
      standAt q1
      holding [v, ov, iv] (setItem ov iv v)
      release [v, ov, iv] []) := by intro _; rfl)
    (ha2 : ∀ v, assign (.Subscript (.Name x p3) (.Name yb p4) q2) X.env v = (do
      let ov ← holding [v] (eval (.Name x p3) X.env)
      let iv ← holding [v, ov] (eval (.Name yb p4) X.env)
      standAt q2
      holding [v, ov, iv] (setItem ov iv v)
      release [v, ov, iv] []) := by intro _; rfl) :
    ST F X (.Assign [.Tuple [.Subscript (.Name x p1) (.Name ya p2) q1, .Subscript (.Name x p3) (.Name yb p4) q2] kt pt] (.Tuple [e1, e2] k2 pt2) pos) τ τ R B C := fun es g σ H D s go => by
  refine ⟨_, ps_asg can_e (pg_tup hc (pgs_cons (pg_sub (pv i hN hvx hd hcd) (pv ja hNa hva hda hcda) set_list ha1) (pgs_cons (pg_sub (pv i hN hvx hd hcd) (pv jb hNb hvb hdb hcdb) set_list ha2) pgs_nil g2) g1) hn hst) hs hw h1, ?_⟩
  obtain ⟨_, f1, ds, rfl, k1, k2', k3⟩ := g.get hi'
  obtain ⟨_, f2, _, rfl, m, rfl, m1, m2⟩ := g.get hja
  obtain ⟨_, f3, _, rfl, n, rfl, n1, n2⟩ := g.get hjb
  refine hv es g σ H s _ fun v d H1 s1 x1 t1 ⟨ps, ed, hp⟩ => ?_
  subst ed
  obtain ⟨d1, d2, rfl, c1, c2⟩ := tup2 hp
  obtain ⟨pa, us, rfl, pu, pn, pd⟩ := t1.tup_inv
  obtain ⟨v1, v2, rfl, y1, y2⟩ := dtb2 pd
  obtain ⟨l1, r1, r0, _, xs, r2, r3⟩ := s1.own i _ f1 rfl
  obtain ⟨va, a1, a2⟩ := s1.dat ja _ f2
  obtain ⟨vb, b1', b2'⟩ := s1.dat jb _ f3
  obtain rfl := a2.int_inv
  obtain rfl := b2'.int_inv
  have len := r3.length
  refine ⟨pa, [v1, v2], rfl, SqT.of pu, rfl, v1, [v2], rfl, .ref l1, r1, .int m, a1, l1, xs, m, m.toNat, rfl, rfl, r2, ixN_of (by omega) (by omega), ?_⟩
  obtain ⟨s2, t2⟩ := own_turn (ds' := ds.set m.toNat d1) s1 f1 r1 r2 fun M hM => dta_set (y1.move (own_mv f1 r1 hM)) (DtA.move (own_mv f1 r1 hM) _ _ r3) m.toNat
  have f1' : (es.set i (.own (ds.set m.toNat d1)))[i]? = some (.own (ds.set m.toNat d1)) := List.getElem?_set_self (List.getElem?_eq_some_iff.mp f1).1
  refine ⟨v2, [], rfl, .ref l1, r1, .int n, b1', l1, _, n, n.toNat, rfl, rfl, upd_same, ixN_of (by omega) (by rw [List.length_set]; omega), ?_⟩
  have r3' : DtA (Mx F σ (es.set i (.own (ds.set m.toNat d1)))) (upd H1 l1 (.lst (xs.set m.toNat v1))) (xs.set m.toNat v1) (ds.set m.toNat d1) := by
    obtain ⟨l9, w1, _, _, ys, w2, w3⟩ := s2.own i _ f1' rfl
    rw [r1] at w1; cases w1
    rw [upd_same] at w2; cases w2
    exact w3
  obtain ⟨s3, t3⟩ := own_turn (ds' := (ds.set m.toNat d1).set n.toNat d2) s2 f1' r1 upd_same fun M hM => dta_set ((t2.dt y2).move (own_mv f1' r1 hM)) (DtA.move (own_mv f1' r1 hM) _ _ r3') n.toNat
  have fin : TS τ ((es.set i (.own (ds.set m.toNat d1))).set i (.own ((ds.set m.toNat d1).set n.toNat d2))) := by
    have : τ = (τ.set i (.own t lo hi)).set i (.own t lo hi) := by
      have e1 : τ.set i (.own t lo hi) = τ := by
        apply List.ext_getElem?
        intro j
        by_cases hj : i = j
        · subst hj; rw [List.getElem?_set_self (List.getElem?_eq_some_iff.mp hi').1, hi']
        · rw [List.getElem?_set_ne hj]
      rw [e1, e1]
    rw [this]
    have me : ∀ z ∈ (ds.set m.toNat d1).set n.toNat d2, t z := fun z hz => by
      rcases List.mem_or_eq_of_mem_set hz with q | q
      · rcases List.mem_or_eq_of_mem_set q with q | q
        · exact k3 z q
        · rw [q]; exact c1
      · rw [q]; exact c2
    have me1 : ∀ z ∈ ds.set m.toNat d1, t z := fun z hz => by
      rcases List.mem_or_eq_of_mem_set hz with q | q
      · exact k3 z q
      · rw [q]; exact c1
    exact TS.set (y := .own t lo hi) ⟨_, rfl, by rw [List.length_set, List.length_set]; exact k1, by rw [List.length_set, List.length_set]; exact k2', me⟩ (TS.set (y := .own t lo hi) ⟨_, rfl, by rw [List.length_set]; exact k1, by rw [List.length_set]; exact k2', me1⟩ g)
  exact ⟨rfl, go.nx _ _ _ s3 (((Tr.of x1.mx).trans t2).trans t3) fin⟩
/-- x.insert(e, x.pop(f)) -/
theorem st_insPop {i : Nat} {x : Str} (hi' : τ[i]? = some (.own t lo hi)) (w1 : WT F X e1 τ (TI l h)) (w2 : WT F X e2 τ (TI l' h')) (c1 : 0 ≤ l) (c2 : h ≤ 2 ^ 40) (c3 : 0 ≤ l') (c4 : h' < lo) (c5 : hi ≤ 2 ^ 20) (hN : X.N[i]? = some x := by rfl) (hvx : Vis X.env.scope x := by first | exact Or.inl rfl | exact Or.inr (Or.inl rfl) | exact Or.inr (Or.inr rfl))
    (hd : (x == ("__debug__" : Str)) = false := by decide) (hcd : (x == ("__classdict__" : Str)) = false := by decide)
    (hm : ∀ {ta t1 tb : TE}, PE X (.Name x p1) ta → PE X e1 t1 → PE X (.Call (.Attribute (.Name x p2) "pop" p3) [e2] [] p4) tb → PE X (.Call (.Attribute (.Name x p1) "insert" apos) [e1, .Call (.Attribute (.Name x p2) "pop" p3) [e2] [] p4] [] cpos) (tBM X.K "list" rIns ta (tCons t1 (tCons tb tNil))))
    (hm2 : ∀ {ta tb : TE}, PE X (.Name x p2) ta → PE X e2 tb → PE X (.Call (.Attribute (.Name x p2) "pop" p3) [e2] [] p4) (tBM X.K "list" rPopAt ta (tCons tb tNil)))
    (hs : swapsWith (.Call (.Attribute (.Name x p1) "insert" apos) [e1, .Call (.Attribute (.Name x p2) "pop" p3) [e2] [] p4] [] cpos) none pos.line X.env = pure false := by rfl) :
    ST F X (.Expr (.Call (.Attribute (.Name x p1) "insert" apos) [e1, .Call (.Attribute (.Name x p2) "pop" p3) [e2] [] p4] [] cpos) pos) τ τ R B C := fun es g σ H D s go => by
  refine ⟨_, ps_expr (hm (pv i hN hvx hd hcd) can_e (hm2 (pv i hN hvx hd hcd) can_e)) hs, ?_⟩
  obtain ⟨_, f1, ds, rfl, k1, k2', k3⟩ := g.get hi'
  obtain ⟨la, r1, r0, _, xs, r2, r3⟩ := s.own i _ f1 rfl
  refine ⟨.ref la, r1, .inl ⟨rfl, xs, SqL.of r2⟩, ?_⟩
  refine w1 es g σ H s _ fun v d H1 s1 x1 t1 ⟨m, ed, m1, m2⟩ => ?_
  subst ed
  obtain rfl := t1.int_inv
  obtain ⟨lb, u1, _, _, ys, u2, u3⟩ := s1.own i _ f1 rfl
  rw [r1] at u1; cases u1
  refine ⟨.ref la, r1, .inl ⟨rfl, ys, SqL.of u2⟩, ?_⟩
  refine w2 es g σ H1 s1 _ fun v' d' H2 s2 x2 t2 ⟨n, ed, n1, n2⟩ => ?_
  subst ed
  obtain rfl := t2.int_inv
  obtain ⟨lc, y1, _, _, zs, y2, y3⟩ := s2.own i _ f1 rfl
  rw [r1] at y1; cases y1
  have len := y3.length
  have hn : n.toNat < ds.length := by omega
  obtain ⟨z, hz⟩ : ∃ z, ds[n.toNat]? = some z := ⟨ds[n.toNat], List.getElem?_eq_getElem hn⟩
  obtain ⟨vz, hv1, hv2⟩ := y3.get hz
  have sz : sizeLine = sizeLine := rfl
  have hsl : (2 : Nat) ^ 20 < sizeLine := by decide
  refine ⟨la, zs, n, n.toNat, vz, rfl, rfl, y2, by omega, by omega, ?_, hv1, ?_⟩
  · unfold seqIndex?
    have e1 : ¬ n < 0 := by omega
    simp only [e1, if_false]
    rw [if_pos (by simp; omega)]
  obtain ⟨s3, t3⟩ := own_turn (ds' := ds.eraseIdx n.toNat) s2 f1 r1 y2 fun M hM => DtA.move (own_mv f1 r1 hM) _ _ (dta_erase y3 n.toNat)
  have f1' : (es.set i (.own (ds.eraseIdx n.toNat)))[i]? = some (.own (ds.eraseIdx n.toNat)) := List.getElem?_set_self (List.getElem?_eq_some_iff.mp f1).1
  have r3' : DtA (Mx F σ (es.set i (.own (ds.eraseIdx n.toNat)))) (upd H2 la (.lst (zs.eraseIdx n.toNat))) (zs.eraseIdx n.toNat) (ds.eraseIdx n.toNat) := by
    obtain ⟨l9, w1, _, _, ws, w2, w3⟩ := s3.own i _ f1' rfl
    rw [r1] at w1; cases w1
    rw [upd_same] at w2; cases w2
    exact w3
  have el : (ds.eraseIdx n.toNat).length = ds.length - 1 := List.length_eraseIdx_of_lt hn
  have zl : (zs.eraseIdx n.toNat).length = ds.length - 1 := by rw [r3'.length, el]
  refine ⟨la, zs.eraseIdx n.toNat, m, vz, rfl, rfl, upd_same, by omega, by omega, by omega, ?_⟩
  obtain ⟨s4, t4⟩ := own_turn (ds' := (ds.eraseIdx n.toNat).take m.toNat ++ [z] ++ (ds.eraseIdx n.toNat).drop m.toNat) s3 f1' r1 upd_same fun M hM =>
    ((DtA.take m.toNat (DtA.move (own_mv f1' r1 hM) _ _ r3')).append (.cons ((t3.dt hv2).move (own_mv f1' r1 hM)) .nil)).append (DtA.drop m.toNat (DtA.move (own_mv f1' r1 hM) _ _ r3'))
  have ll : ((ds.eraseIdx n.toNat).take m.toNat ++ [z] ++ (ds.eraseIdx n.toNat).drop m.toNat).length = ds.length := by
    rw [List.length_append, List.length_append, List.length_take, List.length_drop, el]; simp; omega
  have fin : TS τ ((es.set i (.own (ds.eraseIdx n.toNat))).set i (.own ((ds.eraseIdx n.toNat).take m.toNat ++ [z] ++ (ds.eraseIdx n.toNat).drop m.toNat))) := by
    have : (es.set i (.own (ds.eraseIdx n.toNat))).set i (.own ((ds.eraseIdx n.toNat).take m.toNat ++ [z] ++ (ds.eraseIdx n.toNat).drop m.toNat)) = es.set i (.own ((ds.eraseIdx n.toNat).take m.toNat ++ [z] ++ (ds.eraseIdx n.toNat).drop m.toNat)) := List.set_set ..
    rw [this]
    have e1 : τ = τ.set i (.own t lo hi) := by
      apply List.ext_getElem?
      intro j
      by_cases hj : i = j
      · subst hj; rw [List.getElem?_set_self (List.getElem?_eq_some_iff.mp hi').1, hi']
      · rw [List.getElem?_set_ne hj]
    rw [e1]
    refine TS.set (y := .own t lo hi) ⟨_, rfl, by omega, by omega, fun y hy => ?_⟩ g
    have hz' : t z := k3 z (List.mem_of_getElem? hz)
    rcases List.mem_append.mp hy with q | q
    · rcases List.mem_append.mp q with q | q
      · exact k3 y (List.mem_of_mem_eraseIdx (List.mem_of_mem_take q))
      · rw [List.mem_singleton.mp q]; exact hz'
    · exact k3 y (List.mem_of_mem_eraseIdx (List.mem_of_mem_drop q))
  exact go.nx _ _ _ s4 ((((Tr.of x1.mx).trans (Tr.of x2.mx)).trans t3).trans t4) fin
end
end DW
namespace DW
open PySem PySem.W L2 RZ PyProof.Rows K9 A3
section
variable {F : Fc} {X : Cx} {a b : Expr} {es : List Sl} {K : Ek} {τ : List Sy} {t u : Ty} {R : Ty} {B C : List Sl → Prop} {lo hi : Nat} {pos : Pos}
/-- x, y = a new list, b -/
theorem ws_parL1 {i j : Nat} {x y : Str} {px py pt : Pos} {kt k2 pt2} (hc : X.calm = true) (hN : X.N.Nodup) (hi : X.N[i]? = some x) (hj : X.N[j]? = some y) (hij : i ≠ j) (hx : X.env.scope.names.lookup x = some .local) (hy : X.env.scope.names.lookup y = some .local)
    (hli : i < es.length) (hlj : j < es.length) (hsa : starEach [a, b] X.env = (false, eval a X.env) :: starEach [b] X.env := by rfl) (hsb : starEach [b] X.env = (false, eval b X.env) :: starEach [] X.env := by rfl)
    (h : WL F X a es fun ds => ∀ F' : Fc, F'.w = F.w → F'.dk = F.dk → W F' X b es fun d' => K.nx ((es.set i (.own ds)).set j (.d d'))) (hw : swappedStores [.Tuple [.Name x px, .Name y py] kt pt] (.Tuple [a, b] k2 pt2) X.env = pure (some [x, y]) := by rfl)
    (hs : swapsWithSole [.Tuple [.Name x px, .Name y py] kt pt] (.Tuple [a, b] k2 pt2) pos.line X.env = pure false := by rfl) : WS F X (.Assign [.Tuple [.Name x px, .Name y py] kt pt] (.Tuple [a, b] k2 pt2) pos) es K := fun σ H D s g => by
  refine ⟨_, ps_par hc hN hi hj hij hx hy (pa_cons can_e (pa_cons can_e pa_nil hsb) hsa) hw hs, ?_⟩
  refine h σ H s _ fun l xs ds H1 s1 x1 hn hl t1 hb => ?_
  have sp := s.plus2 s1 x1 hn hl
  refine hb (F.plus l (.lst xs) fun z => s.fresh hn (.inl z)) rfl rfl σ H1 sp _ fun u d' H2 s2 x2 t2 q => ⟨.ref l, u, rfl, ?_⟩
  have kw : ∀ b, Mx (F.plus l (.lst xs) fun z => s.fresh hn (.inl z)) σ es b → Mx F σ es b ∨ b = l := fun b z => by
    rcases z with (z | z) | z
    · exact .inl (.inl z)
    · exact .inr z
    · exact .inl (.inr z)
  have t1p : DtA (Mx (F.plus l (.lst xs) fun z => s.fresh hn (.inl z)) σ es) H1 xs ds := t1.weak kw
  obtain ⟨a2, k2⟩ := s2.adopt (s.fresh0 hn) (x := .own ds) hli rfl ⟨xs, s2.ok.2, t1p.mono x2.mx⟩
  have x2' : ExM F.M0 H1 H2 := fun b o e n => by
    by_cases z : b = l
    · subst z
      rw [hl] at e
      cases e
      exact s2.ok.2
    · exact x2 b o e fun y => y.elim n z
  have x3 : ExM F.M0 H H2 := x1.trans' x2'
  have t4 : Dt (Mx F (σ.set i (some (.ref l))) (es.set i (.own ds))) H2 u d' := t2.move fun b o e n => ⟨e, k2 b n⟩
  have tr : Tr F H σ es H2 (σ.set i (some (.ref l))) (es.set i (.own ds)) := fun b o e n => ⟨x3.mx b o e n, k2 b fun z => (kw b z).elim n (ne_of_none e hn)⟩
  exact g.nx _ H2 _ (a2.set (by rw [List.length_set]; exact hlj) t4) (tr.trans Tr.set) q
theorem st_parL1 {i j : Nat} {x y : Str} {px py pt : Pos} {kt k2 pt2} (hc : X.calm = true) (hN : X.N.Nodup) (hi' : X.N[i]? = some x) (hj : X.N[j]? = some y) (hij : i ≠ j) (hx : X.env.scope.names.lookup x = some .local) (hy : X.env.scope.names.lookup y = some .local) (hli : i < τ.length) (hlj : j < τ.length)
    (ha : WLT F X a τ t lo hi) (hb : ∀ F' : Fc, WT F' X b τ u) (hsa : starEach [a, b] X.env = (false, eval a X.env) :: starEach [b] X.env := by rfl) (hsb : starEach [b] X.env = (false, eval b X.env) :: starEach [] X.env := by rfl)
    (hw : swappedStores [.Tuple [.Name x px, .Name y py] kt pt] (.Tuple [a, b] k2 pt2) X.env = pure (some [x, y]) := by rfl) (hs : swapsWithSole [.Tuple [.Name x px, .Name y py] kt pt] (.Tuple [a, b] k2 pt2) pos.line X.env = pure false := by rfl) :
    ST F X (.Assign [.Tuple [.Name x px, .Name y py] kt pt] (.Tuple [a, b] k2 pt2) pos) τ ((τ.set i (.own t lo hi)).set j (.d u)) R B C := fun es g =>
  ws_parL1 hc hN hi' hj hij hx hy (by rw [← g.len]; exact hli) (by rw [← g.len]; exact hlj) hsa hsb (WL.imp (ha es g) fun ds q F' _ _ => (hb F' es g).imp fun d' q' => TS.set (y := .d u) ⟨d', rfl, q'⟩ (TS.set (y := .own t lo hi) ⟨ds, rfl, q⟩ g)) hw hs
end
end DW
namespace A7
open PySem PySem.W L2 RZ PyProof.Rows DW K9 K4 A3
section
variable {P : Program} {w : World} {K : PySem.W.Frag} {mg : Str → Option Value} {base : Heap} {f : Addr} {fd : FuncData}
abbrev s__law_any : Stmt := topS 84
abbrev n__law_any : List Str := ["_law_deck_here", "_law_deep", "_law_way", "_law_some", "_law_turn"]
theorem sc__law_any : FnScope ["_law_deck_here", "_law_deep", "_law_way", "_law_some", "_law_turn"] ["_law_deck_here", "_law_deep"] (defScope s__law_any) := ⟨rfl, rfl, rfl, by decide +kernel, rfl, by decide +kernel, by decide +kernel⟩
theorem ok_any0 (B : A3.Be mg) (F : Fun K "_law_any" "_law_any" s__law_any f fd) (k1 : KnP P w K mg base "_law_draw" 81 1 ["_law_deck_here", "_law_many"] SpDraw) (k2 : KnP P w K mg base "_law_pick" 82 2 ["_law_deck_here", "_law_some"] SpPick) : FnG P w K mg base 3 f fd ["_law_deck_here", "_law_deep"] (Dr (Tup [(TI 0 0)]) (fun _ d => (A3.Wd K 0) d)) := by
  refine ok_dr F sc__law_any (fun ds h => by have := tup_len h; simp only [List.length_cons, List.length_nil] at this ⊢; omega) (by decide) fun cdv A outer s H E hr F ds hw h => ?_
  obtain _ | ⟨q0, h⟩ := h
  cases h
  refine bt_run (τ := [.dk, .d (TI 0 0), .no, .no, .no]) (τ' := NEV) (R := (A3.Wd K 0)) ?_ (.cons rfl (.cons ⟨_, rfl, q0⟩ (.cons (.inl rfl) (.cons (.inl rfl) (.cons (.inl rfl) .nil))))) (fun _ z => (nev z).elim) (fun _ q => q)
  refine bt_cons (τ1 := [.dk, .d (TI 0 0), .d (TI 0 7), .no, .no]) (st_set (i := 2) (t := (TI 0 7)) (WT.sub (u := (TI 0 7)) (t_callk (i := 0) (k1.up (by decide)) hr (by rfl) (by rfl) (wat_cons t_intI wat_nil) (ap_draw (by omega) (by omega))) (sb_I (by omega) (by omega))) sc__law_any.nd rfl (by first | exact .inl rfl | exact .inr rfl) (by show 2 < 5; decide)) ?_
  refine bt_cons (τ1 := [.dk, .d (TI 0 0), .d (TI 2 7), .no, .no]) (st_if (cr_lt (i := 2) (m := 1) (n := 2) rfl (h1 := by omega) (h2 := by omega)) ?_ ?_) ?_
  · exact bt_ret (t_callk (i := 0) (t := (A3.Wd K 0)) (k2.up (by decide)) hr (by rfl) (by rfl) (wat_cons (t_l (lt_lst (t := (A3.Wd K 0)) (wat_cons t_intI (wat_cons t_intI (wat_cons (WT.sub (u := (TI (-1) (-1))) (t_neg t_intI) (sb_I (by omega) (by omega))) (wat_cons t_intI (wat_cons t_intI (wat_cons (WT.sub (u := (TI (-4) (-4))) (t_neg t_intI) (sb_I (by omega) (by omega))) (wat_cons t_intI (wat_cons (t_pow (z := 1000000000000000000000000000000000000000) ⟨by decide, by decide, by decide⟩ (by decide +kernel)) (wat_cons (WT.sub (u := (TI (-100000000000000000000) (-100000000000000000000))) (t_neg (t_pow (z := 100000000000000000000) ⟨by decide, by decide, by decide⟩ (by decide +kernel))) (sb_I (by omega) (by omega))) wat_nil))))))))) (alls_cons (wd_I (by omega) (by omega)) (alls_cons (wd_I (by omega) (by omega)) (alls_cons (wd_I (by omega) (by omega)) (alls_cons (wd_I (by omega) (by omega)) (alls_cons (wd_I (by omega) (by omega)) (alls_cons (wd_I (by omega) (by omega)) (alls_cons (wd_I (by omega) (by omega)) (alls_cons (wd_I (by omega) (by omega)) (alls_cons (wd_I (by omega) (by omega)) alls_nil))))))))) (n := 9) rfl (by decide))) wat_nil) (ap_pick (by omega) (by omega)))
  · exact bt_nil
  refine bt_cons (τ1 := [.dk, .d (TI 0 0), .d (TI 3 7), .no, .no]) (st_if (cr_eq (i := 2) (m := 3) (n := 7) rfl (h1 := by omega) (h2 := by omega)) ?_ ?_) ?_
  · exact bt_ret (t_callk (i := 0) (t := (A3.Wd K 0)) (k2.up (by decide)) hr (by rfl) (by rfl) (wat_cons (t_l (lt_lst (t := (A3.Wd K 0)) (wat_cons t_str (wat_cons t_str (wat_cons t_str (wat_cons t_str (wat_cons t_str (wat_cons t_str (wat_cons t_str (wat_cons t_str wat_nil)))))))) (alls_cons (wd_Q (by decide)) (alls_cons (wd_Q (by decide)) (alls_cons (wd_Q (by decide)) (alls_cons (wd_Q (by decide)) (alls_cons (wd_Q (by decide)) (alls_cons (wd_Q (by decide)) (alls_cons (wd_Q (by decide)) (alls_cons (wd_Q (by decide)) alls_nil)))))))) (n := 8) rfl (by decide))) wat_nil) (ap_pick (by omega) (by omega)))
  · exact bt_nil
  refine bt_cons (τ1 := [.dk, .d (TI 0 0), .d (TI 4 7), .no, .no]) (st_if (cr_eq (i := 2) (m := 4) (n := 7) rfl (h1 := by omega) (h2 := by omega)) ?_ ?_) ?_
  · exact bt_ret (t_callk (i := 0) (t := (A3.Wd K 0)) (k2.up (by decide)) hr (by rfl) (by rfl) (wat_cons (t_l (lt_lst (t := (A3.Wd K 0)) (wat_cons t_bool (wat_cons t_bool (wat_cons t_none wat_nil))) (alls_cons wd_b (alls_cons wd_b (alls_cons wd_N alls_nil))) (n := 3) rfl (by decide))) wat_nil) (ap_pick (by omega) (by omega)))
  · exact bt_nil
  refine bt_cons (τ1 := [.dk, .d (TI 0 0), .d (TI 4 7), .d (LV (A3.Wd K 0) 0 3), .no]) (st_set (i := 3) (t := (LV (A3.Wd K 0) 0 3)) (WT.sub (u := (LV (A3.Wd K 0) 0 3)) (t_if (cr_gt (i := 1) (m := 1) (n := 0) rfl (h1 := by omega) (h2 := by omega)) (WT.at wt_nev (dead (i := 1) rfl (no_I (by decide)))) (t_l (lt_lst (t := (A3.Wd K 0)) wat_nil alls_nil (n := 0) rfl (by decide)))) (sb_L sb_r (by omega) (by omega))) sc__law_any.nd rfl (by first | exact .inl rfl | exact .inr rfl) (by show 3 < 5; decide)) ?_
  refine bt_cons (τ1 := [.dk, .d (TI 0 0), .d (TI 5 7), .d (LV (A3.Wd K 0) 0 3), .no]) (st_if (cr_eq (i := 2) (m := 5) (n := 7) rfl (h1 := by omega) (h2 := by omega)) ?_ ?_) ?_
  · exact bt_ret (WT.sub (u := (A3.Wd K 0)) (t_var (i := 3) (t := (LV (A3.Wd K 0) 0 3)) rfl) (wd_L (sb_A (by decide)) (by omega)))
  · exact bt_nil
  exact bt_ret (t_if (cr_eq (i := 2) (m := 6) (n := 7) rfl (h1 := by omega) (h2 := by omega)) (WT.sub (u := (A3.Wd K 0)) (t_dctK2 t_str ky_str (t_var (i := 3) (t := (LV (A3.Wd K 0) 0 3)) rfl) t_intI ky_int (WT.sub (u := (TI 0 3)) (t_lenL B.b.len (by rfl) (t_var (i := 3) (t := (LV (A3.Wd K 0) 0 3)) rfl)) (sb_I (by omega) (by omega)))) wd_D) (WT.sub (u := (A3.Wd K 0)) (t_tuple B.b.tup (by rfl) (t_var (i := 3) (t := (LV (A3.Wd K 0) 0 3)) rfl)) (wd_V (sb_A (by decide)) (by omega))))
theorem ok_any1 (B : A3.Be mg) (F : Fun K "_law_any" "_law_any" s__law_any f fd) (k1 : KnP P w K mg base "_law_draw" 81 1 ["_law_deck_here", "_law_many"] SpDraw) (k2 : KnP P w K mg base "_law_pick" 82 2 ["_law_deck_here", "_law_some"] SpPick) (k3 : KnP P w K mg base "_law_any" 84 3 ["_law_deck_here", "_law_deep"] (Dr (Tup [TI 0 0]) (fun _ d => A3.Wd K 0 d))) : FnG P w K mg base 4 f fd ["_law_deck_here", "_law_deep"] (Dr (Tup [(TI 0 1)]) (fun _ d => (A3.Wd K 0) d)) := by
  refine ok_dr F sc__law_any (fun ds h => by have := tup_len h; simp only [List.length_cons, List.length_nil] at this ⊢; omega) (by decide) fun cdv A outer s H E hr F ds hw h => ?_
  obtain _ | ⟨q0, h⟩ := h
  cases h
  refine bt_run (τ := [.dk, .d (TI 0 1), .no, .no, .no]) (τ' := NEV) (R := (A3.Wd K 0)) ?_ (.cons rfl (.cons ⟨_, rfl, q0⟩ (.cons (.inl rfl) (.cons (.inl rfl) (.cons (.inl rfl) .nil))))) (fun _ z => (nev z).elim) (fun _ q => q)
  refine bt_cons (τ1 := [.dk, .d (TI 0 1), .d (TI 0 7), .no, .no]) (st_set (i := 2) (t := (TI 0 7)) (WT.sub (u := (TI 0 7)) (t_callk (i := 0) (k1.up (by decide)) hr (by rfl) (by rfl) (wat_cons t_intI wat_nil) (ap_draw (by omega) (by omega))) (sb_I (by omega) (by omega))) sc__law_any.nd rfl (by first | exact .inl rfl | exact .inr rfl) (by show 2 < 5; decide)) ?_
  refine bt_cons (τ1 := [.dk, .d (TI 0 1), .d (TI 2 7), .no, .no]) (st_if (cr_lt (i := 2) (m := 1) (n := 2) rfl (h1 := by omega) (h2 := by omega)) ?_ ?_) ?_
  · exact bt_ret (t_callk (i := 0) (t := (A3.Wd K 0)) (k2.up (by decide)) hr (by rfl) (by rfl) (wat_cons (t_l (lt_lst (t := (A3.Wd K 0)) (wat_cons t_intI (wat_cons t_intI (wat_cons (WT.sub (u := (TI (-1) (-1))) (t_neg t_intI) (sb_I (by omega) (by omega))) (wat_cons t_intI (wat_cons t_intI (wat_cons (WT.sub (u := (TI (-4) (-4))) (t_neg t_intI) (sb_I (by omega) (by omega))) (wat_cons t_intI (wat_cons (t_pow (z := 1000000000000000000000000000000000000000) ⟨by decide, by decide, by decide⟩ (by decide +kernel)) (wat_cons (WT.sub (u := (TI (-100000000000000000000) (-100000000000000000000))) (t_neg (t_pow (z := 100000000000000000000) ⟨by decide, by decide, by decide⟩ (by decide +kernel))) (sb_I (by omega) (by omega))) wat_nil))))))))) (alls_cons (wd_I (by omega) (by omega)) (alls_cons (wd_I (by omega) (by omega)) (alls_cons (wd_I (by omega) (by omega)) (alls_cons (wd_I (by omega) (by omega)) (alls_cons (wd_I (by omega) (by omega)) (alls_cons (wd_I (by omega) (by omega)) (alls_cons (wd_I (by omega) (by omega)) (alls_cons (wd_I (by omega) (by omega)) (alls_cons (wd_I (by omega) (by omega)) alls_nil))))))))) (n := 9) rfl (by decide))) wat_nil) (ap_pick (by omega) (by omega)))
  · exact bt_nil
  refine bt_cons (τ1 := [.dk, .d (TI 0 1), .d (TI 3 7), .no, .no]) (st_if (cr_eq (i := 2) (m := 3) (n := 7) rfl (h1 := by omega) (h2 := by omega)) ?_ ?_) ?_
  · exact bt_ret (t_callk (i := 0) (t := (A3.Wd K 0)) (k2.up (by decide)) hr (by rfl) (by rfl) (wat_cons (t_l (lt_lst (t := (A3.Wd K 0)) (wat_cons t_str (wat_cons t_str (wat_cons t_str (wat_cons t_str (wat_cons t_str (wat_cons t_str (wat_cons t_str (wat_cons t_str wat_nil)))))))) (alls_cons (wd_Q (by decide)) (alls_cons (wd_Q (by decide)) (alls_cons (wd_Q (by decide)) (alls_cons (wd_Q (by decide)) (alls_cons (wd_Q (by decide)) (alls_cons (wd_Q (by decide)) (alls_cons (wd_Q (by decide)) (alls_cons (wd_Q (by decide)) alls_nil)))))))) (n := 8) rfl (by decide))) wat_nil) (ap_pick (by omega) (by omega)))
  · exact bt_nil
  refine bt_cons (τ1 := [.dk, .d (TI 0 1), .d (TI 4 7), .no, .no]) (st_if (cr_eq (i := 2) (m := 4) (n := 7) rfl (h1 := by omega) (h2 := by omega)) ?_ ?_) ?_
  · exact bt_ret (t_callk (i := 0) (t := (A3.Wd K 0)) (k2.up (by decide)) hr (by rfl) (by rfl) (wat_cons (t_l (lt_lst (t := (A3.Wd K 0)) (wat_cons t_bool (wat_cons t_bool (wat_cons t_none wat_nil))) (alls_cons wd_b (alls_cons wd_b (alls_cons wd_N alls_nil))) (n := 3) rfl (by decide))) wat_nil) (ap_pick (by omega) (by omega)))
  · exact bt_nil
  refine bt_cons (τ1 := [.dk, .d (TI 0 1), .d (TI 4 7), .d (LV (A3.Wd K 0) 0 3), .no]) (st_set (i := 3) (t := (LV (A3.Wd K 0) 0 3)) (t_if (cr_gt (i := 1) (m := 1) (n := 0) rfl (h1 := by omega) (h2 := by omega)) (t_l (lt_lc (u := (A3.Wd K 0)) [("_law_turn", 4)] (L := [4]) rfl sc__law_any.nd (blkOk_by (N := n__law_any) (sc := defScope s__law_any) (by decide +kernel)) (by decide) (zes_cons ⟨_, rfl, rfl⟩ zes_nil) (itt_sub (u := (TI 0 2)) (lo' := 0) (hi' := 3) (itt_range B.b.range (by rfl) (WT.sub (u := (TI 0 3)) (t_callk (i := 0) (k1.up (by decide)) hr (by rfl) (by rfl) (wat_cons t_intI wat_nil) (ap_draw (by omega) (by omega))) (sb_I (by omega) (by omega))) (by omega) (by omega)) (sb_I (by omega) (by omega)) (by omega) (by omega)) (by rw [sizeLine_eq]; omega) (fun F1 s1 H1 C1 cl1 fp1 => (tgt_name (i := 4) sc__law_any.nd rfl (by first | exact .inl rfl | exact .inr rfl) (by show 4 < 5; decide))) (fun F1 s1 H1 C1 cl1 fp1 => (t_callk (i := 0) (t := (A3.Wd K 0)) (k3.up (by decide)) hr (by rfl) (by rfl) (wat_cons (WT.sub (u := (TI 0 0)) (t_sub (t_var (i := 1) (t := (TI 1 1)) rfl) t_intI) (sb_I (by omega) (by omega))) wat_nil) (fun _ h => ⟨h, fun _ q => q⟩))))) (WT.sub (u := (LV (A3.Wd K 0) 0 3)) (t_l (lt_lst (t := (A3.Wd K 0)) wat_nil alls_nil (n := 0) rfl (by decide))) (sb_L sb_r (by omega) (by omega)))) sc__law_any.nd rfl (by first | exact .inl rfl | exact .inr rfl) (by show 3 < 5; decide)) ?_
  refine bt_cons (τ1 := [.dk, .d (TI 0 1), .d (TI 5 7), .d (LV (A3.Wd K 0) 0 3), .no]) (st_if (cr_eq (i := 2) (m := 5) (n := 7) rfl (h1 := by omega) (h2 := by omega)) ?_ ?_) ?_
  · exact bt_ret (WT.sub (u := (A3.Wd K 0)) (t_var (i := 3) (t := (LV (A3.Wd K 0) 0 3)) rfl) (wd_L (sb_A (by decide)) (by omega)))
  · exact bt_nil
  exact bt_ret (t_if (cr_eq (i := 2) (m := 6) (n := 7) rfl (h1 := by omega) (h2 := by omega)) (WT.sub (u := (A3.Wd K 0)) (t_dctK2 t_str ky_str (t_var (i := 3) (t := (LV (A3.Wd K 0) 0 3)) rfl) t_intI ky_int (WT.sub (u := (TI 0 3)) (t_lenL B.b.len (by rfl) (t_var (i := 3) (t := (LV (A3.Wd K 0) 0 3)) rfl)) (sb_I (by omega) (by omega)))) wd_D) (WT.sub (u := (A3.Wd K 0)) (t_tuple B.b.tup (by rfl) (t_var (i := 3) (t := (LV (A3.Wd K 0) 0 3)) rfl)) (wd_V (sb_A (by decide)) (by omega))))
theorem ok_any2 (B : A3.Be mg) (F : Fun K "_law_any" "_law_any" s__law_any f fd) (k1 : KnP P w K mg base "_law_draw" 81 1 ["_law_deck_here", "_law_many"] SpDraw) (k2 : KnP P w K mg base "_law_pick" 82 2 ["_law_deck_here", "_law_some"] SpPick) (k3 : KnP P w K mg base "_law_any" 84 4 ["_law_deck_here", "_law_deep"] (Dr (Tup [TI 0 1]) (fun _ d => A3.Wd K 0 d))) : FnG P w K mg base 5 f fd ["_law_deck_here", "_law_deep"] (Dr (Tup [(TI 0 2)]) (fun _ d => (A3.Wd K 0) d)) := by
  refine ok_dr F sc__law_any (fun ds h => by have := tup_len h; simp only [List.length_cons, List.length_nil] at this ⊢; omega) (by decide) fun cdv A outer s H E hr F ds hw h => ?_
  obtain _ | ⟨q0, h⟩ := h
  cases h
  refine bt_run (τ := [.dk, .d (TI 0 2), .no, .no, .no]) (τ' := NEV) (R := (A3.Wd K 0)) ?_ (.cons rfl (.cons ⟨_, rfl, q0⟩ (.cons (.inl rfl) (.cons (.inl rfl) (.cons (.inl rfl) .nil))))) (fun _ z => (nev z).elim) (fun _ q => q)
  refine bt_cons (τ1 := [.dk, .d (TI 0 2), .d (TI 0 7), .no, .no]) (st_set (i := 2) (t := (TI 0 7)) (WT.sub (u := (TI 0 7)) (t_callk (i := 0) (k1.up (by decide)) hr (by rfl) (by rfl) (wat_cons t_intI wat_nil) (ap_draw (by omega) (by omega))) (sb_I (by omega) (by omega))) sc__law_any.nd rfl (by first | exact .inl rfl | exact .inr rfl) (by show 2 < 5; decide)) ?_
  refine bt_cons (τ1 := [.dk, .d (TI 0 2), .d (TI 2 7), .no, .no]) (st_if (cr_lt (i := 2) (m := 1) (n := 2) rfl (h1 := by omega) (h2 := by omega)) ?_ ?_) ?_
  · exact bt_ret (t_callk (i := 0) (t := (A3.Wd K 0)) (k2.up (by decide)) hr (by rfl) (by rfl) (wat_cons (t_l (lt_lst (t := (A3.Wd K 0)) (wat_cons t_intI (wat_cons t_intI (wat_cons (WT.sub (u := (TI (-1) (-1))) (t_neg t_intI) (sb_I (by omega) (by omega))) (wat_cons t_intI (wat_cons t_intI (wat_cons (WT.sub (u := (TI (-4) (-4))) (t_neg t_intI) (sb_I (by omega) (by omega))) (wat_cons t_intI (wat_cons (t_pow (z := 1000000000000000000000000000000000000000) ⟨by decide, by decide, by decide⟩ (by decide +kernel)) (wat_cons (WT.sub (u := (TI (-100000000000000000000) (-100000000000000000000))) (t_neg (t_pow (z := 100000000000000000000) ⟨by decide, by decide, by decide⟩ (by decide +kernel))) (sb_I (by omega) (by omega))) wat_nil))))))))) (alls_cons (wd_I (by omega) (by omega)) (alls_cons (wd_I (by omega) (by omega)) (alls_cons (wd_I (by omega) (by omega)) (alls_cons (wd_I (by omega) (by omega)) (alls_cons (wd_I (by omega) (by omega)) (alls_cons (wd_I (by omega) (by omega)) (alls_cons (wd_I (by omega) (by omega)) (alls_cons (wd_I (by omega) (by omega)) (alls_cons (wd_I (by omega) (by omega)) alls_nil))))))))) (n := 9) rfl (by decide))) wat_nil) (ap_pick (by omega) (by omega)))
  · exact bt_nil
  refine bt_cons (τ1 := [.dk, .d (TI 0 2), .d (TI 3 7), .no, .no]) (st_if (cr_eq (i := 2) (m := 3) (n := 7) rfl (h1 := by omega) (h2 := by omega)) ?_ ?_) ?_
  · exact bt_ret (t_callk (i := 0) (t := (A3.Wd K 0)) (k2.up (by decide)) hr (by rfl) (by rfl) (wat_cons (t_l (lt_lst (t := (A3.Wd K 0)) (wat_cons t_str (wat_cons t_str (wat_cons t_str (wat_cons t_str (wat_cons t_str (wat_cons t_str (wat_cons t_str (wat_cons t_str wat_nil)))))))) (alls_cons (wd_Q (by decide)) (alls_cons (wd_Q (by decide)) (alls_cons (wd_Q (by decide)) (alls_cons (wd_Q (by decide)) (alls_cons (wd_Q (by decide)) (alls_cons (wd_Q (by decide)) (alls_cons (wd_Q (by decide)) (alls_cons (wd_Q (by decide)) alls_nil)))))))) (n := 8) rfl (by decide))) wat_nil) (ap_pick (by omega) (by omega)))
  · exact bt_nil
  refine bt_cons (τ1 := [.dk, .d (TI 0 2), .d (TI 4 7), .no, .no]) (st_if (cr_eq (i := 2) (m := 4) (n := 7) rfl (h1 := by omega) (h2 := by omega)) ?_ ?_) ?_
  · exact bt_ret (t_callk (i := 0) (t := (A3.Wd K 0)) (k2.up (by decide)) hr (by rfl) (by rfl) (wat_cons (t_l (lt_lst (t := (A3.Wd K 0)) (wat_cons t_bool (wat_cons t_bool (wat_cons t_none wat_nil))) (alls_cons wd_b (alls_cons wd_b (alls_cons wd_N alls_nil))) (n := 3) rfl (by decide))) wat_nil) (ap_pick (by omega) (by omega)))
  · exact bt_nil
  refine bt_cons (τ1 := [.dk, .d (TI 0 2), .d (TI 4 7), .d (LV (A3.Wd K 0) 0 3), .no]) (st_set (i := 3) (t := (LV (A3.Wd K 0) 0 3)) (t_if (cr_gt (i := 1) (m := 1) (n := 0) rfl (h1 := by omega) (h2 := by omega)) (t_l (lt_lc (u := (A3.Wd K 0)) [("_law_turn", 4)] (L := [4]) rfl sc__law_any.nd (blkOk_by (N := n__law_any) (sc := defScope s__law_any) (by decide +kernel)) (by decide) (zes_cons ⟨_, rfl, rfl⟩ zes_nil) (itt_sub (u := (TI 0 2)) (lo' := 0) (hi' := 3) (itt_range B.b.range (by rfl) (WT.sub (u := (TI 0 3)) (t_callk (i := 0) (k1.up (by decide)) hr (by rfl) (by rfl) (wat_cons t_intI wat_nil) (ap_draw (by omega) (by omega))) (sb_I (by omega) (by omega))) (by omega) (by omega)) (sb_I (by omega) (by omega)) (by omega) (by omega)) (by rw [sizeLine_eq]; omega) (fun F1 s1 H1 C1 cl1 fp1 => (tgt_name (i := 4) sc__law_any.nd rfl (by first | exact .inl rfl | exact .inr rfl) (by show 4 < 5; decide))) (fun F1 s1 H1 C1 cl1 fp1 => (t_callk (i := 0) (t := (A3.Wd K 0)) (k3.up (by decide)) hr (by rfl) (by rfl) (wat_cons (WT.sub (u := (TI 0 1)) (t_sub (t_var (i := 1) (t := (TI 1 2)) rfl) t_intI) (sb_I (by omega) (by omega))) wat_nil) (fun _ h => ⟨h, fun _ q => q⟩))))) (WT.sub (u := (LV (A3.Wd K 0) 0 3)) (t_l (lt_lst (t := (A3.Wd K 0)) wat_nil alls_nil (n := 0) rfl (by decide))) (sb_L sb_r (by omega) (by omega)))) sc__law_any.nd rfl (by first | exact .inl rfl | exact .inr rfl) (by show 3 < 5; decide)) ?_
  refine bt_cons (τ1 := [.dk, .d (TI 0 2), .d (TI 5 7), .d (LV (A3.Wd K 0) 0 3), .no]) (st_if (cr_eq (i := 2) (m := 5) (n := 7) rfl (h1 := by omega) (h2 := by omega)) ?_ ?_) ?_
  · exact bt_ret (WT.sub (u := (A3.Wd K 0)) (t_var (i := 3) (t := (LV (A3.Wd K 0) 0 3)) rfl) (wd_L (sb_A (by decide)) (by omega)))
  · exact bt_nil
  exact bt_ret (t_if (cr_eq (i := 2) (m := 6) (n := 7) rfl (h1 := by omega) (h2 := by omega)) (WT.sub (u := (A3.Wd K 0)) (t_dctK2 t_str ky_str (t_var (i := 3) (t := (LV (A3.Wd K 0) 0 3)) rfl) t_intI ky_int (WT.sub (u := (TI 0 3)) (t_lenL B.b.len (by rfl) (t_var (i := 3) (t := (LV (A3.Wd K 0) 0 3)) rfl)) (sb_I (by omega) (by omega)))) wd_D) (WT.sub (u := (A3.Wd K 0)) (t_tuple B.b.tup (by rfl) (t_var (i := 3) (t := (LV (A3.Wd K 0) 0 3)) rfl)) (wd_V (sb_A (by decide)) (by omega))))
theorem ok_any3 (B : A3.Be mg) (F : Fun K "_law_any" "_law_any" s__law_any f fd) (k1 : KnP P w K mg base "_law_draw" 81 1 ["_law_deck_here", "_law_many"] SpDraw) (k2 : KnP P w K mg base "_law_pick" 82 2 ["_law_deck_here", "_law_some"] SpPick) (k3 : KnP P w K mg base "_law_any" 84 5 ["_law_deck_here", "_law_deep"] (Dr (Tup [TI 0 2]) (fun _ d => A3.Wd K 0 d))) : FnG P w K mg base 6 f fd ["_law_deck_here", "_law_deep"] (Dr (Tup [(TI 0 3)]) (fun _ d => (A3.Wd K 0) d)) := by
  refine ok_dr F sc__law_any (fun ds h => by have := tup_len h; simp only [List.length_cons, List.length_nil] at this ⊢; omega) (by decide) fun cdv A outer s H E hr F ds hw h => ?_
  obtain _ | ⟨q0, h⟩ := h
  cases h
  refine bt_run (τ := [.dk, .d (TI 0 3), .no, .no, .no]) (τ' := NEV) (R := (A3.Wd K 0)) ?_ (.cons rfl (.cons ⟨_, rfl, q0⟩ (.cons (.inl rfl) (.cons (.inl rfl) (.cons (.inl rfl) .nil))))) (fun _ z => (nev z).elim) (fun _ q => q)
  refine bt_cons (τ1 := [.dk, .d (TI 0 3), .d (TI 0 7), .no, .no]) (st_set (i := 2) (t := (TI 0 7)) (WT.sub (u := (TI 0 7)) (t_callk (i := 0) (k1.up (by decide)) hr (by rfl) (by rfl) (wat_cons t_intI wat_nil) (ap_draw (by omega) (by omega))) (sb_I (by omega) (by omega))) sc__law_any.nd rfl (by first | exact .inl rfl | exact .inr rfl) (by show 2 < 5; decide)) ?_
  refine bt_cons (τ1 := [.dk, .d (TI 0 3), .d (TI 2 7), .no, .no]) (st_if (cr_lt (i := 2) (m := 1) (n := 2) rfl (h1 := by omega) (h2 := by omega)) ?_ ?_) ?_
  · exact bt_ret (t_callk (i := 0) (t := (A3.Wd K 0)) (k2.up (by decide)) hr (by rfl) (by rfl) (wat_cons (t_l (lt_lst (t := (A3.Wd K 0)) (wat_cons t_intI (wat_cons t_intI (wat_cons (WT.sub (u := (TI (-1) (-1))) (t_neg t_intI) (sb_I (by omega) (by omega))) (wat_cons t_intI (wat_cons t_intI (wat_cons (WT.sub (u := (TI (-4) (-4))) (t_neg t_intI) (sb_I (by omega) (by omega))) (wat_cons t_intI (wat_cons (t_pow (z := 1000000000000000000000000000000000000000) ⟨by decide, by decide, by decide⟩ (by decide +kernel)) (wat_cons (WT.sub (u := (TI (-100000000000000000000) (-100000000000000000000))) (t_neg (t_pow (z := 100000000000000000000) ⟨by decide, by decide, by decide⟩ (by decide +kernel))) (sb_I (by omega) (by omega))) wat_nil))))))))) (alls_cons (wd_I (by omega) (by omega)) (alls_cons (wd_I (by omega) (by omega)) (alls_cons (wd_I (by omega) (by omega)) (alls_cons (wd_I (by omega) (by omega)) (alls_cons (wd_I (by omega) (by omega)) (alls_cons (wd_I (by omega) (by omega)) (alls_cons (wd_I (by omega) (by omega)) (alls_cons (wd_I (by omega) (by omega)) (alls_cons (wd_I (by omega) (by omega)) alls_nil))))))))) (n := 9) rfl (by decide))) wat_nil) (ap_pick (by omega) (by omega)))
  · exact bt_nil
  refine bt_cons (τ1 := [.dk, .d (TI 0 3), .d (TI 3 7), .no, .no]) (st_if (cr_eq (i := 2) (m := 3) (n := 7) rfl (h1 := by omega) (h2 := by omega)) ?_ ?_) ?_
  · exact bt_ret (t_callk (i := 0) (t := (A3.Wd K 0)) (k2.up (by decide)) hr (by rfl) (by rfl) (wat_cons (t_l (lt_lst (t := (A3.Wd K 0)) (wat_cons t_str (wat_cons t_str (wat_cons t_str (wat_cons t_str (wat_cons t_str (wat_cons t_str (wat_cons t_str (wat_cons t_str wat_nil)))))))) (alls_cons (wd_Q (by decide)) (alls_cons (wd_Q (by decide)) (alls_cons (wd_Q (by decide)) (alls_cons (wd_Q (by decide)) (alls_cons (wd_Q (by decide)) (alls_cons (wd_Q (by decide)) (alls_cons (wd_Q (by decide)) (alls_cons (wd_Q (by decide)) alls_nil)))))))) (n := 8) rfl (by decide))) wat_nil) (ap_pick (by omega) (by omega)))
  · exact bt_nil
  refine bt_cons (τ1 := [.dk, .d (TI 0 3), .d (TI 4 7), .no, .no]) (st_if (cr_eq (i := 2) (m := 4) (n := 7) rfl (h1 := by omega) (h2 := by omega)) ?_ ?_) ?_
  · exact bt_ret (t_callk (i := 0) (t := (A3.Wd K 0)) (k2.up (by decide)) hr (by rfl) (by rfl) (wat_cons (t_l (lt_lst (t := (A3.Wd K 0)) (wat_cons t_bool (wat_cons t_bool (wat_cons t_none wat_nil))) (alls_cons wd_b (alls_cons wd_b (alls_cons wd_N alls_nil))) (n := 3) rfl (by decide))) wat_nil) (ap_pick (by omega) (by omega)))
  · exact bt_nil
  refine bt_cons (τ1 := [.dk, .d (TI 0 3), .d (TI 4 7), .d (LV (A3.Wd K 0) 0 3), .no]) (st_set (i := 3) (t := (LV (A3.Wd K 0) 0 3)) (t_if (cr_gt (i := 1) (m := 1) (n := 0) rfl (h1 := by omega) (h2 := by omega)) (t_l (lt_lc (u := (A3.Wd K 0)) [("_law_turn", 4)] (L := [4]) rfl sc__law_any.nd (blkOk_by (N := n__law_any) (sc := defScope s__law_any) (by decide +kernel)) (by decide) (zes_cons ⟨_, rfl, rfl⟩ zes_nil) (itt_sub (u := (TI 0 2)) (lo' := 0) (hi' := 3) (itt_range B.b.range (by rfl) (WT.sub (u := (TI 0 3)) (t_callk (i := 0) (k1.up (by decide)) hr (by rfl) (by rfl) (wat_cons t_intI wat_nil) (ap_draw (by omega) (by omega))) (sb_I (by omega) (by omega))) (by omega) (by omega)) (sb_I (by omega) (by omega)) (by omega) (by omega)) (by rw [sizeLine_eq]; omega) (fun F1 s1 H1 C1 cl1 fp1 => (tgt_name (i := 4) sc__law_any.nd rfl (by first | exact .inl rfl | exact .inr rfl) (by show 4 < 5; decide))) (fun F1 s1 H1 C1 cl1 fp1 => (t_callk (i := 0) (t := (A3.Wd K 0)) (k3.up (by decide)) hr (by rfl) (by rfl) (wat_cons (WT.sub (u := (TI 0 2)) (t_sub (t_var (i := 1) (t := (TI 1 3)) rfl) t_intI) (sb_I (by omega) (by omega))) wat_nil) (fun _ h => ⟨h, fun _ q => q⟩))))) (WT.sub (u := (LV (A3.Wd K 0) 0 3)) (t_l (lt_lst (t := (A3.Wd K 0)) wat_nil alls_nil (n := 0) rfl (by decide))) (sb_L sb_r (by omega) (by omega)))) sc__law_any.nd rfl (by first | exact .inl rfl | exact .inr rfl) (by show 3 < 5; decide)) ?_
  refine bt_cons (τ1 := [.dk, .d (TI 0 3), .d (TI 5 7), .d (LV (A3.Wd K 0) 0 3), .no]) (st_if (cr_eq (i := 2) (m := 5) (n := 7) rfl (h1 := by omega) (h2 := by omega)) ?_ ?_) ?_
  · exact bt_ret (WT.sub (u := (A3.Wd K 0)) (t_var (i := 3) (t := (LV (A3.Wd K 0) 0 3)) rfl) (wd_L (sb_A (by decide)) (by omega)))
  · exact bt_nil
  exact bt_ret (t_if (cr_eq (i := 2) (m := 6) (n := 7) rfl (h1 := by omega) (h2 := by omega)) (WT.sub (u := (A3.Wd K 0)) (t_dctK2 t_str ky_str (t_var (i := 3) (t := (LV (A3.Wd K 0) 0 3)) rfl) t_intI ky_int (WT.sub (u := (TI 0 3)) (t_lenL B.b.len (by rfl) (t_var (i := 3) (t := (LV (A3.Wd K 0) 0 3)) rfl)) (sb_I (by omega) (by omega)))) wd_D) (WT.sub (u := (A3.Wd K 0)) (t_tuple B.b.tup (by rfl) (t_var (i := 3) (t := (LV (A3.Wd K 0) 0 3)) rfl)) (wd_V (sb_A (by decide)) (by omega))))
end
end A7
namespace A7
open PySem PySem.W L2 RZ PyProof.Rows DW K9 K4 A3
section
variable {P : Program} {w : World} {K : PySem.W.Frag} {mg : Str → Option Value} {base : Heap} {f : Addr} {fd : FuncData}
abbrev s__law_odd : Stmt := topS 85
abbrev n__law_odd : List Str := ["_law_deck_here", "_law_thing"]
theorem sc__law_odd : FnScope ["_law_deck_here", "_law_thing"] ["_law_deck_here", "_law_thing"] (defScope s__law_odd) := ⟨rfl, rfl, rfl, by decide +kernel, rfl, by decide +kernel, by decide +kernel⟩
theorem ok_odd (B : A3.Be mg) (F : Fun K "_law_odd" "_law_odd" s__law_odd f fd) (k1 : KnP P w K mg base "_law_draw" 81 1 ["_law_deck_here", "_law_many"] SpDraw) (k2 : KnP P w K mg base "_law_pick" 82 2 ["_law_deck_here", "_law_some"] SpPick) (k3 : KnP P w K mg base "_law_any" 84 4 ["_law_deck_here", "_law_deep"] (Dr (Tup [TI 0 1]) (fun _ d => A3.Wd K 0 d))) : FnG P w K mg base 5 f fd ["_law_deck_here", "_law_thing"] (Dr (Tup [(Ni false)]) (fun _ d => (A3.Wd K 0) d)) := by
  refine ok_dr F sc__law_odd (fun ds h => by have := tup_len h; simp only [List.length_cons, List.length_nil] at this ⊢; omega) (by decide) fun cdv A outer s H E hr F ds hw h => ?_
  obtain _ | ⟨q0, h⟩ := h
  cases h
  refine bt_run (τ := [.dk, .d (Ni false)]) (τ' := NEV) (R := (A3.Wd K 0)) ?_ (.cons rfl (.cons ⟨_, rfl, q0⟩ .nil)) (fun _ z => (nev z).elim) (fun _ q => q)
  refine bt_cons (τ1 := [.dk, .d (Ni false)]) (st_if (ct_eq (WT.sub (u := (TI 0 3)) (t_callk (i := 0) (k1.up (by decide)) hr (by rfl) (by rfl) (wat_cons t_intI wat_nil) (ap_draw (by omega) (by omega))) (sb_I (by omega) (by omega))) t_intI) ?_ ?_) ?_
  · exact bt_ret (t_callk (i := 0) (t := (A3.Wd K 0)) (k3.up (by decide)) hr (by rfl) (by rfl) (wat_cons (WT.sub (u := (TI 0 1)) t_intI (sb_I (by omega) (by omega))) wat_nil) (fun _ h => ⟨h, fun _ q => q⟩))
  · exact bt_nil
  refine bt_cons (τ1 := [.dk, .d (Ni false)]) (st_if (ct_w (ctw_and (ct_sub (ct_isi (i := 1) (t1 := (TI (-10000000000000000000000000000000000000000000000000000000000000000000000000000000000000000000000000000000000000000000000000) 10000000000000000000000000000000000000000000000000000000000000000000000000000000000000000000000000000000000000000000000000)) (t0 := (TV (Ni false) 0 400)) B.b.isi (by rfl) (by rfl) B.b.int PyProof.Rows.boot_int (by rfl) isi_niI) sys_r (sys_cons sy_r (sys_cons (sy_d (ni_V sb_r (by omega))) sys_nil))) (ctw_sub (ctw_and1 (ct_gt (t_abs B.b.abs (by rfl) (m := 10000000000000000000000000000000000000000000000000000000000000000000000000000000000000000000000000000000000000000000000000) (by omega) (by omega) (t_var (i := 1) (t := (TI (-10000000000000000000000000000000000000000000000000000000000000000000000000000000000000000000000000000000000000000000000000) 10000000000000000000000000000000000000000000000000000000000000000000000000000000000000000000000000000000000000000000000000)) rfl)) (t_pow (z := 10000000000000000000000000000000000000000) ⟨by decide, by decide, by decide⟩ (by decide +kernel)))) sys_r (sys_cons sy_r (sys_cons (sy_d (ni_I (by omega) (by omega))) sys_nil))))) ?_ ?_) ?_
  · exact bt_ret (t_callk (i := 0) (t := (A3.Wd K 0)) (k2.up (by decide)) hr (by rfl) (by rfl) (wat_cons (t_l (lt_lst (t := (A3.Wd K 0)) (wat_cons t_intI (wat_cons (t_strI B.st (by rfl) (t_var (i := 1) (t := (TI (-10000000000000000000000000000000000000000000000000000000000000000000000000000000000000000000000000000000000000000000000000) 10000000000000000000000000000000000000000000000000000000000000000000000000000000000000000000000000000000000000000000000000)) rfl) (by decide +kernel) (by decide +kernel)) (wat_cons (t_tup (wat_cons (t_var (i := 1) (t := (TI (-10000000000000000000000000000000000000000000000000000000000000000000000000000000000000000000000000000000000000000000000000) 10000000000000000000000000000000000000000000000000000000000000000000000000000000000000000000000000000000000000000000000000)) rfl) wat_nil) (by show 1 ≤ 1000; decide)) (wat_cons (t_l (lt_lst (t := (TI (-10000000000000000000000000000000000000000000000000000000000000000000000000000000000000000000000000000000000000000000000000) 10000000000000000000000000000000000000000000000000000000000000000000000000000000000000000000000000000000000000000000000000)) (wat_cons (t_var (i := 1) (t := (TI (-10000000000000000000000000000000000000000000000000000000000000000000000000000000000000000000000000000000000000000000000000) 10000000000000000000000000000000000000000000000000000000000000000000000000000000000000000000000000000000000000000000000000)) rfl) wat_nil) (alls_cons sb_r alls_nil) (n := 1) rfl (by decide))) (wat_cons t_none (wat_cons t_bool (wat_cons (t_pow (z := 1000000000000000000000000000000000000000) ⟨by decide, by decide, by decide⟩ (by decide +kernel)) (wat_cons (WT.sub (u := (TI (-1000000000000000000000000000000000000000) (-1000000000000000000000000000000000000000))) (t_neg (t_pow (z := 1000000000000000000000000000000000000000) ⟨by decide, by decide, by decide⟩ (by decide +kernel))) (sb_I (by omega) (by omega))) (wat_cons t_intI wat_nil))))))))) (alls_cons (wd_I (by omega) (by omega)) (alls_cons (wd_S (by decide)) (alls_cons (wd_T (alls_cons (wd_I (by omega) (by omega)) alls_nil) (by show 1 ≤ 3000; decide)) (alls_cons (wd_L (wd_I (by omega) (by omega)) (by omega)) (alls_cons wd_N (alls_cons wd_b (alls_cons (wd_I (by omega) (by omega)) (alls_cons (wd_I (by omega) (by omega)) (alls_cons (wd_I (by omega) (by omega)) alls_nil))))))))) (n := 9) rfl (by decide))) wat_nil) (ap_pick (by omega) (by omega)))
  · exact bt_nil
  refine bt_cons (τ1 := [.dk, .d (TV (Ni false) 0 400)]) (st_if (ct_isi (i := 1) (t1 := (TI (-10000000000000000000000000000000000000000000000000000000000000000000000000000000000000000000000000000000000000000000000000) 10000000000000000000000000000000000000000000000000000000000000000000000000000000000000000000000000000000000000000000000000)) (t0 := (TV (Ni false) 0 400)) B.b.isi (by rfl) (by rfl) B.b.int PyProof.Rows.boot_int (by rfl) isi_niI) ?_ ?_) ?_
  · exact bt_ret (t_callk (i := 0) (t := (A3.Wd K 0)) (k2.up (by decide)) hr (by rfl) (by rfl) (wat_cons (t_l (lt_lst (t := (A3.Wd K 0)) (wat_cons t_intI (wat_cons (WT.sub (u := (TI (-9999999999999999999999999999999999999999999999999999999999999999999999999999999999999999999999999999999999999999999999999) 10000000000000000000000000000000000000000000000000000000000000000000000000000000000000000000000000000000000000000000000001)) (t_add (t_var (i := 1) (t := (TI (-10000000000000000000000000000000000000000000000000000000000000000000000000000000000000000000000000000000000000000000000000) 10000000000000000000000000000000000000000000000000000000000000000000000000000000000000000000000000000000000000000000000000)) rfl) t_intI) (sb_I (by omega) (by omega))) (wat_cons (WT.sub (u := (TI (-10000000000000000000000000000000000000000000000000000000000000000000000000000000000000000000000000000000000000000000000000) 10000000000000000000000000000000000000000000000000000000000000000000000000000000000000000000000000000000000000000000000000)) (t_neg (t_var (i := 1) (t := (TI (-10000000000000000000000000000000000000000000000000000000000000000000000000000000000000000000000000000000000000000000000000) 10000000000000000000000000000000000000000000000000000000000000000000000000000000000000000000000000000000000000000000000000)) rfl)) (sb_I (by omega) (by omega))) (wat_cons (t_eqB (t_var (i := 1) (t := (TI (-10000000000000000000000000000000000000000000000000000000000000000000000000000000000000000000000000000000000000000000000000) 10000000000000000000000000000000000000000000000000000000000000000000000000000000000000000000000000000000000000000000000000)) rfl) t_intI) (wat_cons (t_strI B.st (by rfl) (t_var (i := 1) (t := (TI (-10000000000000000000000000000000000000000000000000000000000000000000000000000000000000000000000000000000000000000000000000) 10000000000000000000000000000000000000000000000000000000000000000000000000000000000000000000000000000000000000000000000000)) rfl) (by decide +kernel) (by decide +kernel)) (wat_cons (t_tup (wat_cons (t_var (i := 1) (t := (TI (-10000000000000000000000000000000000000000000000000000000000000000000000000000000000000000000000000000000000000000000000000) 10000000000000000000000000000000000000000000000000000000000000000000000000000000000000000000000000000000000000000000000000)) rfl) wat_nil) (by show 1 ≤ 1000; decide)) (wat_cons (WT.sub (u := (TI (-10000000000000000000000000000000000000000000000000000000000000000000000000000000000000000000000000000000000000000000000001) 9999999999999999999999999999999999999999999999999999999999999999999999999999999999999999999999999999999999999999999999999)) (t_sub (t_var (i := 1) (t := (TI (-10000000000000000000000000000000000000000000000000000000000000000000000000000000000000000000000000000000000000000000000000) 10000000000000000000000000000000000000000000000000000000000000000000000000000000000000000000000000000000000000000000000000)) rfl) t_intI) (sb_I (by omega) (by omega))) (wat_cons (t_l (lt_lst (t := (TI (-10000000000000000000000000000000000000000000000000000000000000000000000000000000000000000000000000000000000000000000000000) 10000000000000000000000000000000000000000000000000000000000000000000000000000000000000000000000000000000000000000000000000)) (wat_cons (t_var (i := 1) (t := (TI (-10000000000000000000000000000000000000000000000000000000000000000000000000000000000000000000000000000000000000000000000000) 10000000000000000000000000000000000000000000000000000000000000000000000000000000000000000000000000000000000000000000000000)) rfl) wat_nil) (alls_cons sb_r alls_nil) (n := 1) rfl (by decide))) (wat_cons (t_pow (z := 1000000000000000000000000000000000000000) ⟨by decide, by decide, by decide⟩ (by decide +kernel)) wat_nil))))))))) (alls_cons (wd_I (by omega) (by omega)) (alls_cons (wd_I (by omega) (by omega)) (alls_cons (wd_I (by omega) (by omega)) (alls_cons wd_B (alls_cons (wd_S (by decide)) (alls_cons (wd_T (alls_cons (wd_I (by omega) (by omega)) alls_nil) (by show 1 ≤ 3000; decide)) (alls_cons (wd_I (by omega) (by omega)) (alls_cons (wd_L (wd_I (by omega) (by omega)) (by omega)) (alls_cons (wd_I (by omega) (by omega)) alls_nil))))))))) (n := 9) rfl (by decide))) wat_nil) (ap_pick (by omega) (by omega)))
  · exact bt_nil
  refine bt_cons (τ1 := [.dk, .d (TV (Ni false) 0 400)]) (st_if (ct_isi (i := 1) (t1 := (fun _ => False)) (t0 := (TV (Ni false) 0 400)) B.b.isi (by rfl) (by rfl) B.st PyProof.Rows.boot_str (by rfl) (isi_no kt_V)) ?_ ?_) ?_
  · exact BT.sub bt_nev (dead (i := 1) rfl (fun _ h => h)) (fun _ h => h)
  · exact bt_nil
  refine bt_if (τ' := NEV) (ct_isi (i := 1) (t1 := (TV (Ni false) 0 400)) (t0 := (fun _ => False)) B.b.isi (by rfl) (by rfl) B.b.tup PyProof.Rows.boot_tuple (by rfl) (isi_yes kt_Vt)) ?_ ?_ bt_nev
  · exact bt_ret (t_callk (i := 0) (t := (A3.Wd K 0)) (k2.up (by decide)) hr (by rfl) (by rfl) (wat_cons (t_l (lt_lst (t := (A3.Wd K 0)) (wat_cons (t_l (lt_list B.b.list (by rfl) (t_var (i := 1) (t := (TV (Ni false) 0 400)) rfl))) (wat_cons (t_rev (t_var (i := 1) (t := (TV (Ni false) 0 400)) rfl)) (wat_cons (t_sl (t_var (i := 1) (t := (TV (Ni false) 0 400)) rfl) (sl_some t_intI) sl_none) (wat_cons (WT.sub (u := (TV (Ni false) 0 800)) (t_cat (t_var (i := 1) (t := (TV (Ni false) 0 400)) rfl) (t_sl (t_var (i := 1) (t := (TV (Ni false) 0 400)) rfl) sl_none (sl_some t_intI)) (by rw [sizeLine_eq]; omega)) (sb_V sb_r (by omega) (by omega))) (wat_cons (t_tup (wat_cons (t_var (i := 1) (t := (TV (Ni false) 0 400)) rfl) wat_nil) (by show 1 ≤ 1000; decide)) (wat_cons (WT.sub (u := (TV (TO (TQ (.str "row")) (Ni false)) 1 401)) (t_cat (WT.sub (u := (TV (TO (TQ (.str "row")) (Ni false)) 1 1)) (WT.sub (u := (TV (TQ (.str "row")) 1 1)) (t_tup (wat_cons t_str wat_nil) (by show 1 ≤ 1000; decide)) (sb_TV (alls_cons sb_r alls_nil) (by show _ ≤ 1; omega) (by show 1 ≤ _; omega))) (sb_V (sb_l sb_r) (by omega) (by omega))) (WT.sub (u := (TV (TO (TQ (.str "row")) (Ni false)) 0 400)) (t_var (i := 1) (t := (TV (Ni false) 0 400)) rfl) (sb_V (sb_rr sb_r) (by omega) (by omega))) (by rw [sizeLine_eq]; omega)) (sb_V sb_r (by omega) (by omega))) (wat_cons (t_tup wat_nil (by show 0 ≤ 1000; decide)) wat_nil))))))) (alls_cons (wd_L ni_wd (by omega)) (alls_cons (wd_V ni_wd (by omega)) (alls_cons (wd_V ni_wd (by omega)) (alls_cons (wd_V ni_wd (by omega)) (alls_cons (wd_T (alls_cons (wd_V ni_wd (by omega)) alls_nil) (by show 1 ≤ 3000; decide)) (alls_cons (wd_V (sb_O (wd_Q (by decide)) ni_wd) (by omega)) (alls_cons (wd_T alls_nil (by show 0 ≤ 3000; decide)) alls_nil))))))) (n := 7) rfl (by decide))) wat_nil) (ap_pick (by omega) (by omega)))
  · exact BT.sub bt_nev (dead (i := 1) rfl (fun _ h => h)) (fun _ h => h)
abbrev s__law_bent : Stmt := topS 86
abbrev n__law_bent : List Str := ["_law_deck_here", "_law_thing", "_law_deep", "_law_way", "_law_at", "_law_other", "_law_some"]
theorem sc__law_bent : FnScope ["_law_deck_here", "_law_thing", "_law_deep", "_law_way", "_law_at", "_law_other", "_law_some"] ["_law_deck_here", "_law_thing", "_law_deep"] (defScope s__law_bent) := ⟨rfl, rfl, rfl, by decide +kernel, rfl, by decide +kernel, by decide +kernel⟩
theorem ok_bent0 (B : A3.Be mg) (F : Fun K "_law_bent" "_law_bent" s__law_bent f fd) (k1 : KnP P w K mg base "_law_draw" 81 1 ["_law_deck_here", "_law_many"] SpDraw) (k4 : KnP P w K mg base "_law_odd" 85 5 ["_law_deck_here", "_law_thing"] (Dr (Tup [Ni false]) (fun _ d => A3.Wd K 0 d))) : FnG P w K mg base 6 f fd ["_law_deck_here", "_law_thing", "_law_deep"] (Dr (Tup [(Ni false), (TI 0 0)]) (fun _ d => (A3.Wd K 0) d)) := by
  refine ok_dr F sc__law_bent (fun ds h => by have := tup_len h; simp only [List.length_cons, List.length_nil] at this ⊢; omega) (by decide) fun cdv A outer s H E hr F ds hw h => ?_
  obtain _ | ⟨q0, h⟩ := h
  obtain _ | ⟨q1, h⟩ := h
  cases h
  refine bt_run (τ := [.dk, .d (Ni false), .d (TI 0 0), .no, .no, .no, .no]) (τ' := NEV) (R := (A3.Wd K 0)) ?_ (.cons rfl (.cons ⟨_, rfl, q0⟩ (.cons ⟨_, rfl, q1⟩ (.cons (.inl rfl) (.cons (.inl rfl) (.cons (.inl rfl) (.cons (.inl rfl) .nil))))))) (fun _ z => (nev z).elim) (fun _ q => q)
  refine bt_if (τ' := NEV) (ct_w (ctw_or (ct_sub (ct_not (ct_isi (i := 1) (t1 := (TV (Ni false) 0 400)) (t0 := (TI (-10000000000000000000000000000000000000000000000000000000000000000000000000000000000000000000000000000000000000000000000000) 10000000000000000000000000000000000000000000000000000000000000000000000000000000000000000000000000000000000000000000000000)) B.b.isi (by rfl) (by rfl) B.b.tup PyProof.Rows.boot_tuple (by rfl) isi_niTf)) (sys_cons sy_r (sys_cons (sy_d (ni_I (by omega) (by omega))) (sys_cons sy_r (sys_cons sy_r (sys_cons sy_r (sys_cons sy_r (sys_cons sy_r sys_nil))))))) sys_r) (ctw_sub (ctw_or (ct_eqT0 (i := 1) (t := (Ni false)) (lo := 0) (hi := 400) hr.ro.units rfl) (ctw_sub (ctw_or (cr_eq (i := 2) (m := 1) (n := (-1)) rfl (h1 := by omega) (h2 := by omega)) (ctw_sub (ctw_or1 (ct_eq (WT.sub (u := (TI 0 4)) (t_callk (i := 0) (k1.up (by decide)) hr (by rfl) (by rfl) (wat_cons t_intI wat_nil) (ap_draw (by omega) (by omega))) (sb_I (by omega) (by omega))) t_intI)) (sys_cons sy_r (sys_cons sy_r (sys_cons (sy_d (sb_I (by omega) (by omega))) (sys_cons sy_r (sys_cons sy_r (sys_cons sy_r (sys_cons sy_r sys_nil))))))) sys_r)) (sys_cons sy_r (sys_cons (sy_d (sb_V sb_r (by omega) (by omega))) (sys_cons sy_r (sys_cons sy_r (sys_cons sy_r (sys_cons sy_r (sys_cons sy_r sys_nil))))))) sys_r)) (sys_cons sy_r (sys_cons (sy_d (ni_V sb_r (by omega))) (sys_cons sy_r (sys_cons sy_r (sys_cons sy_r (sys_cons sy_r (sys_cons sy_r sys_nil))))))) sys_r))) ?_ ?_ bt_nev
  · exact bt_ret (t_callk (i := 0) (t := (A3.Wd K 0)) (k4.up (by decide)) hr (by rfl) (by rfl) (wat_cons (t_var (i := 1) (t := (Ni false)) rfl) wat_nil) (fun _ h => ⟨h, fun _ q => q⟩))
  · exact BT.sub bt_nev (dead (i := 2) rfl (no_I (by decide))) (fun _ h => h)
theorem ok_bent1 (B : A3.Be mg) (F : Fun K "_law_bent" "_law_bent" s__law_bent f fd) (k1 : KnP P w K mg base "_law_draw" 81 1 ["_law_deck_here", "_law_many"] SpDraw) (k4 : KnP P w K mg base "_law_odd" 85 5 ["_law_deck_here", "_law_thing"] (Dr (Tup [Ni false]) (fun _ d => A3.Wd K 0 d))) (k5 : KnP P w K mg base "_law_bent" 86 6 ["_law_deck_here", "_law_thing", "_law_deep"] (Dr (Tup [Ni false, TI 0 0]) (fun _ d => A3.Wd K 0 d))) : FnG P w K mg base 7 f fd ["_law_deck_here", "_law_thing", "_law_deep"] (Dr (Tup [(Ni false), (TI 0 1)]) (fun _ d => (A3.Wd K 0) d)) := by
  refine ok_dr F sc__law_bent (fun ds h => by have := tup_len h; simp only [List.length_cons, List.length_nil] at this ⊢; omega) (by decide) fun cdv A outer s H E hr F ds hw h => ?_
  obtain _ | ⟨q0, h⟩ := h
  obtain _ | ⟨q1, h⟩ := h
  cases h
  refine bt_run (τ := [.dk, .d (Ni false), .d (TI 0 1), .no, .no, .no, .no]) (τ' := NEV) (R := (A3.Wd K 0)) ?_ (.cons rfl (.cons ⟨_, rfl, q0⟩ (.cons ⟨_, rfl, q1⟩ (.cons (.inl rfl) (.cons (.inl rfl) (.cons (.inl rfl) (.cons (.inl rfl) .nil))))))) (fun _ z => (nev z).elim) (fun _ q => q)
  refine bt_cons (τ1 := [.dk, .d (TV (Ni false) 1 400), .d (TI 1 1), .no, .no, .no, .no]) (st_if (ct_w (ctw_or (ct_sub (ct_not (ct_isi (i := 1) (t1 := (TV (Ni false) 0 400)) (t0 := (TI (-10000000000000000000000000000000000000000000000000000000000000000000000000000000000000000000000000000000000000000000000000) 10000000000000000000000000000000000000000000000000000000000000000000000000000000000000000000000000000000000000000000000000)) B.b.isi (by rfl) (by rfl) B.b.tup PyProof.Rows.boot_tuple (by rfl) isi_niTf)) (sys_cons sy_r (sys_cons (sy_d (ni_I (by omega) (by omega))) (sys_cons sy_r (sys_cons sy_r (sys_cons sy_r (sys_cons sy_r (sys_cons sy_r sys_nil))))))) sys_r) (ctw_sub (ctw_or (ct_eqT0 (i := 1) (t := (Ni false)) (lo := 0) (hi := 400) hr.ro.units rfl) (ctw_sub (ctw_or (ct_sub (cr_eq (i := 2) (m := 1) (n := 1) rfl (h1 := by omega) (h2 := by omega)) (sys_cons sy_r (sys_cons sy_r (sys_cons (sy_d (sb_I (by omega) (by omega))) (sys_cons sy_r (sys_cons sy_r (sys_cons sy_r (sys_cons sy_r sys_nil))))))) sys_r) (ctw_sub (ctw_or1 (ct_eq (WT.sub (u := (TI 0 4)) (t_callk (i := 0) (k1.up (by decide)) hr (by rfl) (by rfl) (wat_cons t_intI wat_nil) (ap_draw (by omega) (by omega))) (sb_I (by omega) (by omega))) t_intI)) (sys_cons sy_r (sys_cons sy_r (sys_cons (sy_d (sb_I (by omega) (by omega))) (sys_cons sy_r (sys_cons sy_r (sys_cons sy_r (sys_cons sy_r sys_nil))))))) sys_r)) (sys_cons sy_r (sys_cons (sy_d (sb_V sb_r (by omega) (by omega))) (sys_cons sy_r (sys_cons sy_r (sys_cons sy_r (sys_cons sy_r (sys_cons sy_r sys_nil))))))) sys_r)) (sys_cons sy_r (sys_cons (sy_d (ni_V sb_r (by omega))) (sys_cons sy_r (sys_cons sy_r (sys_cons sy_r (sys_cons sy_r (sys_cons sy_r sys_nil))))))) sys_r))) ?_ ?_) ?_
  · exact bt_ret (t_callk (i := 0) (t := (A3.Wd K 0)) (k4.up (by decide)) hr (by rfl) (by rfl) (wat_cons (t_var (i := 1) (t := (Ni false)) rfl) wat_nil) (fun _ h => ⟨h, fun _ q => q⟩))
  · exact bt_nil
  refine bt_fix (i := 1) rfl fun n n1 n2 => ?_
  refine bt_cons (τ1 := [.dk, .d (TV (Ni false) n n), .d (TI 1 1), .d (TI 0 7), .d (TI 0 (n - 1)), .d (TI 0 (n - 1)), .no]) (st_par3 (i := 3) (j := 4) (l := 5) (t := (TI 0 7)) (u := (TI 0 (n - 1))) (v := (TI 0 (n - 1))) rfl sc__law_bent.nd rfl rfl rfl (by decide) (by decide) (by decide) rfl rfl rfl (by show 3 < 7; decide) (by show 4 < 7; decide) (by show 5 < 7; decide) (WT.sub (u := (TI 0 7)) (t_callk (i := 0) (k1.up (by decide)) hr (by rfl) (by rfl) (wat_cons t_intI wat_nil) (ap_draw (by omega) (by omega))) (sb_I (by omega) (by omega))) (WT.sub (u := (TI 0 (n - 1))) (t_callk (i := 0) (k1.up (by decide)) hr (by rfl) (by rfl) (wat_cons (WT.sub (u := (TI n n)) (t_len B.b.len (by rfl) (t_var (i := 1) (t := (TV (Ni false) n n)) rfl)) (sb_I (by omega) (by omega))) wat_nil) (ap_draw (by omega) (by omega))) (sb_I (by omega) (by omega))) (WT.sub (u := (TI 0 (n - 1))) (t_callk (i := 0) (k1.up (by decide)) hr (by rfl) (by rfl) (wat_cons (WT.sub (u := (TI n n)) (t_len B.b.len (by rfl) (t_var (i := 1) (t := (TV (Ni false) n n)) rfl)) (sb_I (by omega) (by omega))) wat_nil) (ap_draw (by omega) (by omega))) (sb_I (by omega) (by omega)))) ?_
  refine bt_cons (τ1 := [.dk, .d (TV (Ni false) n n), .d (TI 1 1), .d (TI 1 7), .d (TI 0 (n - 1)), .d (TI 0 (n - 1)), .no]) (st_if (cr_eq (i := 3) (m := 1) (n := 7) rfl (h1 := by omega) (h2 := by omega)) ?_ ?_) ?_
  · exact bt_ret (WT.sub (u := (A3.Wd K 0)) (WT.sub (u := (TV (Ni false) 0 (n + n))) (t_cat (t_sl (t_var (i := 1) (t := (TV (Ni false) n n)) rfl) sl_none (sl_some (t_var (i := 4) (t := (TI 0 (n - 1))) rfl))) (t_sl (t_var (i := 1) (t := (TV (Ni false) n n)) rfl) (sl_some (WT.sub (u := (TI 1 ((n - 1) + 1))) (t_add (t_var (i := 4) (t := (TI 0 (n - 1))) rfl) t_intI) (sb_I (by omega) (by omega)))) sl_none) (by rw [sizeLine_eq]; omega)) (sb_V sb_r (by omega) (by omega))) (wd_V ni_wd (by omega)))
  · exact bt_nil
  refine bt_cons (τ1 := [.dk, .d (TV (Ni false) n n), .d (TI 1 1), .d (TI 2 7), .d (TI 0 (n - 1)), .d (TI 0 (n - 1)), .no]) (st_if (cr_eq (i := 3) (m := 2) (n := 7) rfl (h1 := by omega) (h2 := by omega)) ?_ ?_) ?_
  · exact bt_ret (WT.sub (u := (A3.Wd K 0)) (WT.sub (u := (TV (Ni false) 0 (n + n))) (t_cat (t_sl (t_var (i := 1) (t := (TV (Ni false) n n)) rfl) sl_none (sl_some (WT.sub (u := (TI 1 ((n - 1) + 1))) (t_add (t_var (i := 4) (t := (TI 0 (n - 1))) rfl) t_intI) (sb_I (by omega) (by omega))))) (t_sl (t_var (i := 1) (t := (TV (Ni false) n n)) rfl) (sl_some (t_var (i := 4) (t := (TI 0 (n - 1))) rfl)) sl_none) (by rw [sizeLine_eq]; omega)) (sb_V sb_r (by omega) (by omega))) (wd_V ni_wd (by omega)))
  · exact bt_nil
  refine bt_cons (τ1 := [.dk, .d (TV (Ni false) n n), .d (TI 1 1), .d (TI 3 7), .d (TI 0 (n - 1)), .d (TI 0 (n - 1)), .no]) (st_if (cr_eq (i := 3) (m := 3) (n := 7) rfl (h1 := by omega) (h2 := by omega)) ?_ ?_) ?_
  · refine bt_cons (τ1 := [.dk, .d (TV (Ni false) n n), .d (TI 1 1), .d (TI 2 2), .d (TI 0 (n - 1)), .d (TI 0 (n - 1)), .own (Ni false) n n]) (st_own (i := 6) (nfs_cons rfl (nfs_cons rfl (nfs_cons rfl (nfs_cons rfl (nfs_cons rfl (nfs_cons rfl (nfs_cons rfl nfs_nil))))))) (lt_list B.b.list (by rfl) (t_var (i := 1) (t := (TV (Ni false) n n)) rfl)) sc__law_bent.nd rfl (by first | exact .inl rfl | exact .inr rfl) (by show 6 < 7; decide)) ?_
    refine bt_cons (τ1 := [.dk, .d (TV (Ni false) n n), .d (TI 1 1), .d (TI 2 2), .d (TI 0 (n - 1)), .d (TI 0 (n - 1)), .own (Ni false) n n]) (st_swapO (i := 6) (ja := 4) (jb := 5) (t := (Ni false)) (lo := n) (hi := n) rfl rfl rfl rfl (by decide) (by decide) (by omega) (by omega) (by omega) (by omega) (t_tup (wat_cons (t_ix (t_var (i := 1) (t := (TV (Ni false) n n)) rfl) (t_var (i := 5) (t := (TI 0 (n - 1))) rfl) (by omega) (by omega)) (wat_cons (t_ix (t_var (i := 1) (t := (TV (Ni false) n n)) rfl) (t_var (i := 4) (t := (TI 0 (n - 1))) rfl) (by omega) (by omega)) wat_nil)) (by show 2 ≤ 1000; decide))) ?_
    refine bt_freeze (i := 6) (t := (Ni false)) (lo := n) (hi := n) rfl ?_
    exact bt_ret (WT.sub (u := (A3.Wd K 0)) (t_tuple B.b.tup (by rfl) (t_var (i := 6) (t := (LV (Ni false) n n)) rfl)) (wd_V ni_wd (by omega)))
  · exact bt_nil
  refine bt_cons (τ1 := [.dk, .d (TV (Ni false) n n), .d (TI 1 1), .d (TI 4 7), .d (TI 0 (n - 1)), .d (TI 0 (n - 1)), .no]) (st_if (cr_eq (i := 3) (m := 4) (n := 7) rfl (h1 := by omega) (h2 := by omega)) ?_ ?_) ?_
  · exact bt_ret (WT.sub (u := (A3.Wd K 0)) (WT.sub (u := (TV (A3.Wd K 0) 1 ((n + 1) + n))) (t_cat (WT.sub (u := (TV (A3.Wd K 0) 1 (n + 1))) (t_cat (WT.sub (u := (TV (A3.Wd K 0) 0 n)) (t_sl (t_var (i := 1) (t := (TV (Ni false) n n)) rfl) sl_none (sl_some (t_var (i := 4) (t := (TI 0 (n - 1))) rfl))) (sb_V ni_wd (by omega) (by omega))) (WT.sub (u := (TV (A3.Wd K 0) 1 1)) (t_tup (wat_cons (t_callk (i := 0) (t := (A3.Wd K 0)) (k4.up (by decide)) hr (by rfl) (by rfl) (wat_cons (t_ix (t_var (i := 1) (t := (TV (Ni false) n n)) rfl) (t_var (i := 4) (t := (TI 0 (n - 1))) rfl) (by omega) (by omega)) wat_nil) (fun _ h => ⟨h, fun _ q => q⟩)) wat_nil) (by show 1 ≤ 1000; decide)) (sb_TV (alls_cons sb_r alls_nil) (by show _ ≤ 1; omega) (by show 1 ≤ _; omega))) (by rw [sizeLine_eq]; omega)) (sb_V sb_r (by omega) (by omega))) (WT.sub (u := (TV (A3.Wd K 0) 0 n)) (t_sl (t_var (i := 1) (t := (TV (Ni false) n n)) rfl) (sl_some (t_var (i := 4) (t := (TI 0 (n - 1))) rfl)) sl_none) (sb_V ni_wd (by omega) (by omega))) (by rw [sizeLine_eq]; omega)) (sb_V sb_r (by omega) (by omega))) (wd_V (sb_A (by decide)) (by omega)))
  · exact bt_nil
  exact bt_ret (WT.sub (u := (A3.Wd K 0)) (WT.sub (u := (TV (A3.Wd K 0) 1 ((n + 1) + n))) (t_cat (WT.sub (u := (TV (A3.Wd K 0) 1 (n + 1))) (t_cat (WT.sub (u := (TV (A3.Wd K 0) 0 n)) (t_sl (t_var (i := 1) (t := (TV (Ni false) n n)) rfl) sl_none (sl_some (t_var (i := 4) (t := (TI 0 (n - 1))) rfl))) (sb_V ni_wd (by omega) (by omega))) (WT.sub (u := (TV (A3.Wd K 0) 1 1)) (t_tup (wat_cons (t_callk (i := 0) (t := (A3.Wd K 0)) (k5.up (by decide)) hr (by rfl) (by rfl) (wat_cons (t_ix (t_var (i := 1) (t := (TV (Ni false) n n)) rfl) (t_var (i := 4) (t := (TI 0 (n - 1))) rfl) (by omega) (by omega)) (wat_cons (WT.sub (u := (TI 0 0)) (t_sub (t_var (i := 2) (t := (TI 1 1)) rfl) t_intI) (sb_I (by omega) (by omega))) wat_nil)) (fun _ h => ⟨h, fun _ q => q⟩)) wat_nil) (by show 1 ≤ 1000; decide)) (sb_TV (alls_cons sb_r alls_nil) (by show _ ≤ 1; omega) (by show 1 ≤ _; omega))) (by rw [sizeLine_eq]; omega)) (sb_V sb_r (by omega) (by omega))) (WT.sub (u := (TV (A3.Wd K 0) 0 n)) (t_sl (t_var (i := 1) (t := (TV (Ni false) n n)) rfl) (sl_some (WT.sub (u := (TI 1 ((n - 1) + 1))) (t_add (t_var (i := 4) (t := (TI 0 (n - 1))) rfl) t_intI) (sb_I (by omega) (by omega)))) sl_none) (sb_V ni_wd (by omega) (by omega))) (by rw [sizeLine_eq]; omega)) (sb_V sb_r (by omega) (by omega))) (wd_V (sb_A (by decide)) (by omega)))
theorem ok_bent2 (B : A3.Be mg) (F : Fun K "_law_bent" "_law_bent" s__law_bent f fd) (k1 : KnP P w K mg base "_law_draw" 81 1 ["_law_deck_here", "_law_many"] SpDraw) (k4 : KnP P w K mg base "_law_odd" 85 5 ["_law_deck_here", "_law_thing"] (Dr (Tup [Ni false]) (fun _ d => A3.Wd K 0 d))) (k5 : KnP P w K mg base "_law_bent" 86 7 ["_law_deck_here", "_law_thing", "_law_deep"] (Dr (Tup [Ni false, TI 0 1]) (fun _ d => A3.Wd K 0 d))) : FnG P w K mg base 8 f fd ["_law_deck_here", "_law_thing", "_law_deep"] (Dr (Tup [(Ni false), (TI 0 2)]) (fun _ d => (A3.Wd K 0) d)) := by
  refine ok_dr F sc__law_bent (fun ds h => by have := tup_len h; simp only [List.length_cons, List.length_nil] at this ⊢; omega) (by decide) fun cdv A outer s H E hr F ds hw h => ?_
  obtain _ | ⟨q0, h⟩ := h
  obtain _ | ⟨q1, h⟩ := h
  cases h
  refine bt_run (τ := [.dk, .d (Ni false), .d (TI 0 2), .no, .no, .no, .no]) (τ' := NEV) (R := (A3.Wd K 0)) ?_ (.cons rfl (.cons ⟨_, rfl, q0⟩ (.cons ⟨_, rfl, q1⟩ (.cons (.inl rfl) (.cons (.inl rfl) (.cons (.inl rfl) (.cons (.inl rfl) .nil))))))) (fun _ z => (nev z).elim) (fun _ q => q)
  refine bt_cons (τ1 := [.dk, .d (TV (Ni false) 1 400), .d (TI 1 2), .no, .no, .no, .no]) (st_if (ct_w (ctw_or (ct_sub (ct_not (ct_isi (i := 1) (t1 := (TV (Ni false) 0 400)) (t0 := (TI (-10000000000000000000000000000000000000000000000000000000000000000000000000000000000000000000000000000000000000000000000000) 10000000000000000000000000000000000000000000000000000000000000000000000000000000000000000000000000000000000000000000000000)) B.b.isi (by rfl) (by rfl) B.b.tup PyProof.Rows.boot_tuple (by rfl) isi_niTf)) (sys_cons sy_r (sys_cons (sy_d (ni_I (by omega) (by omega))) (sys_cons sy_r (sys_cons sy_r (sys_cons sy_r (sys_cons sy_r (sys_cons sy_r sys_nil))))))) sys_r) (ctw_sub (ctw_or (ct_eqT0 (i := 1) (t := (Ni false)) (lo := 0) (hi := 400) hr.ro.units rfl) (ctw_sub (ctw_or (ct_sub (cr_eq (i := 2) (m := 1) (n := 2) rfl (h1 := by omega) (h2 := by omega)) (sys_cons sy_r (sys_cons sy_r (sys_cons (sy_d (sb_I (by omega) (by omega))) (sys_cons sy_r (sys_cons sy_r (sys_cons sy_r (sys_cons sy_r sys_nil))))))) sys_r) (ctw_sub (ctw_or1 (ct_eq (WT.sub (u := (TI 0 4)) (t_callk (i := 0) (k1.up (by decide)) hr (by rfl) (by rfl) (wat_cons t_intI wat_nil) (ap_draw (by omega) (by omega))) (sb_I (by omega) (by omega))) t_intI)) (sys_cons sy_r (sys_cons sy_r (sys_cons (sy_d (sb_I (by omega) (by omega))) (sys_cons sy_r (sys_cons sy_r (sys_cons sy_r (sys_cons sy_r sys_nil))))))) sys_r)) (sys_cons sy_r (sys_cons (sy_d (sb_V sb_r (by omega) (by omega))) (sys_cons sy_r (sys_cons sy_r (sys_cons sy_r (sys_cons sy_r (sys_cons sy_r sys_nil))))))) sys_r)) (sys_cons sy_r (sys_cons (sy_d (ni_V sb_r (by omega))) (sys_cons sy_r (sys_cons sy_r (sys_cons sy_r (sys_cons sy_r (sys_cons sy_r sys_nil))))))) sys_r))) ?_ ?_) ?_
  · exact bt_ret (t_callk (i := 0) (t := (A3.Wd K 0)) (k4.up (by decide)) hr (by rfl) (by rfl) (wat_cons (t_var (i := 1) (t := (Ni false)) rfl) wat_nil) (fun _ h => ⟨h, fun _ q => q⟩))
  · exact bt_nil
  refine bt_fix (i := 1) rfl fun n n1 n2 => ?_
  refine bt_cons (τ1 := [.dk, .d (TV (Ni false) n n), .d (TI 1 2), .d (TI 0 7), .d (TI 0 (n - 1)), .d (TI 0 (n - 1)), .no]) (st_par3 (i := 3) (j := 4) (l := 5) (t := (TI 0 7)) (u := (TI 0 (n - 1))) (v := (TI 0 (n - 1))) rfl sc__law_bent.nd rfl rfl rfl (by decide) (by decide) (by decide) rfl rfl rfl (by show 3 < 7; decide) (by show 4 < 7; decide) (by show 5 < 7; decide) (WT.sub (u := (TI 0 7)) (t_callk (i := 0) (k1.up (by decide)) hr (by rfl) (by rfl) (wat_cons t_intI wat_nil) (ap_draw (by omega) (by omega))) (sb_I (by omega) (by omega))) (WT.sub (u := (TI 0 (n - 1))) (t_callk (i := 0) (k1.up (by decide)) hr (by rfl) (by rfl) (wat_cons (WT.sub (u := (TI n n)) (t_len B.b.len (by rfl) (t_var (i := 1) (t := (TV (Ni false) n n)) rfl)) (sb_I (by omega) (by omega))) wat_nil) (ap_draw (by omega) (by omega))) (sb_I (by omega) (by omega))) (WT.sub (u := (TI 0 (n - 1))) (t_callk (i := 0) (k1.up (by decide)) hr (by rfl) (by rfl) (wat_cons (WT.sub (u := (TI n n)) (t_len B.b.len (by rfl) (t_var (i := 1) (t := (TV (Ni false) n n)) rfl)) (sb_I (by omega) (by omega))) wat_nil) (ap_draw (by omega) (by omega))) (sb_I (by omega) (by omega)))) ?_
  refine bt_cons (τ1 := [.dk, .d (TV (Ni false) n n), .d (TI 1 2), .d (TI 1 7), .d (TI 0 (n - 1)), .d (TI 0 (n - 1)), .no]) (st_if (cr_eq (i := 3) (m := 1) (n := 7) rfl (h1 := by omega) (h2 := by omega)) ?_ ?_) ?_
  · exact bt_ret (WT.sub (u := (A3.Wd K 0)) (WT.sub (u := (TV (Ni false) 0 (n + n))) (t_cat (t_sl (t_var (i := 1) (t := (TV (Ni false) n n)) rfl) sl_none (sl_some (t_var (i := 4) (t := (TI 0 (n - 1))) rfl))) (t_sl (t_var (i := 1) (t := (TV (Ni false) n n)) rfl) (sl_some (WT.sub (u := (TI 1 ((n - 1) + 1))) (t_add (t_var (i := 4) (t := (TI 0 (n - 1))) rfl) t_intI) (sb_I (by omega) (by omega)))) sl_none) (by rw [sizeLine_eq]; omega)) (sb_V sb_r (by omega) (by omega))) (wd_V ni_wd (by omega)))
  · exact bt_nil
  refine bt_cons (τ1 := [.dk, .d (TV (Ni false) n n), .d (TI 1 2), .d (TI 2 7), .d (TI 0 (n - 1)), .d (TI 0 (n - 1)), .no]) (st_if (cr_eq (i := 3) (m := 2) (n := 7) rfl (h1 := by omega) (h2 := by omega)) ?_ ?_) ?_
  · exact bt_ret (WT.sub (u := (A3.Wd K 0)) (WT.sub (u := (TV (Ni false) 0 (n + n))) (t_cat (t_sl (t_var (i := 1) (t := (TV (Ni false) n n)) rfl) sl_none (sl_some (WT.sub (u := (TI 1 ((n - 1) + 1))) (t_add (t_var (i := 4) (t := (TI 0 (n - 1))) rfl) t_intI) (sb_I (by omega) (by omega))))) (t_sl (t_var (i := 1) (t := (TV (Ni false) n n)) rfl) (sl_some (t_var (i := 4) (t := (TI 0 (n - 1))) rfl)) sl_none) (by rw [sizeLine_eq]; omega)) (sb_V sb_r (by omega) (by omega))) (wd_V ni_wd (by omega)))
  · exact bt_nil
  refine bt_cons (τ1 := [.dk, .d (TV (Ni false) n n), .d (TI 1 2), .d (TI 3 7), .d (TI 0 (n - 1)), .d (TI 0 (n - 1)), .no]) (st_if (cr_eq (i := 3) (m := 3) (n := 7) rfl (h1 := by omega) (h2 := by omega)) ?_ ?_) ?_
  · refine bt_cons (τ1 := [.dk, .d (TV (Ni false) n n), .d (TI 1 2), .d (TI 2 2), .d (TI 0 (n - 1)), .d (TI 0 (n - 1)), .own (Ni false) n n]) (st_own (i := 6) (nfs_cons rfl (nfs_cons rfl (nfs_cons rfl (nfs_cons rfl (nfs_cons rfl (nfs_cons rfl (nfs_cons rfl nfs_nil))))))) (lt_list B.b.list (by rfl) (t_var (i := 1) (t := (TV (Ni false) n n)) rfl)) sc__law_bent.nd rfl (by first | exact .inl rfl | exact .inr rfl) (by show 6 < 7; decide)) ?_
    refine bt_cons (τ1 := [.dk, .d (TV (Ni false) n n), .d (TI 1 2), .d (TI 2 2), .d (TI 0 (n - 1)), .d (TI 0 (n - 1)), .own (Ni false) n n]) (st_swapO (i := 6) (ja := 4) (jb := 5) (t := (Ni false)) (lo := n) (hi := n) rfl rfl rfl rfl (by decide) (by decide) (by omega) (by omega) (by omega) (by omega) (t_tup (wat_cons (t_ix (t_var (i := 1) (t := (TV (Ni false) n n)) rfl) (t_var (i := 5) (t := (TI 0 (n - 1))) rfl) (by omega) (by omega)) (wat_cons (t_ix (t_var (i := 1) (t := (TV (Ni false) n n)) rfl) (t_var (i := 4) (t := (TI 0 (n - 1))) rfl) (by omega) (by omega)) wat_nil)) (by show 2 ≤ 1000; decide))) ?_
    refine bt_freeze (i := 6) (t := (Ni false)) (lo := n) (hi := n) rfl ?_
    exact bt_ret (WT.sub (u := (A3.Wd K 0)) (t_tuple B.b.tup (by rfl) (t_var (i := 6) (t := (LV (Ni false) n n)) rfl)) (wd_V ni_wd (by omega)))
  · exact bt_nil
  refine bt_cons (τ1 := [.dk, .d (TV (Ni false) n n), .d (TI 1 2), .d (TI 4 7), .d (TI 0 (n - 1)), .d (TI 0 (n - 1)), .no]) (st_if (cr_eq (i := 3) (m := 4) (n := 7) rfl (h1 := by omega) (h2 := by omega)) ?_ ?_) ?_
  · exact bt_ret (WT.sub (u := (A3.Wd K 0)) (WT.sub (u := (TV (A3.Wd K 0) 1 ((n + 1) + n))) (t_cat (WT.sub (u := (TV (A3.Wd K 0) 1 (n + 1))) (t_cat (WT.sub (u := (TV (A3.Wd K 0) 0 n)) (t_sl (t_var (i := 1) (t := (TV (Ni false) n n)) rfl) sl_none (sl_some (t_var (i := 4) (t := (TI 0 (n - 1))) rfl))) (sb_V ni_wd (by omega) (by omega))) (WT.sub (u := (TV (A3.Wd K 0) 1 1)) (t_tup (wat_cons (t_callk (i := 0) (t := (A3.Wd K 0)) (k4.up (by decide)) hr (by rfl) (by rfl) (wat_cons (t_ix (t_var (i := 1) (t := (TV (Ni false) n n)) rfl) (t_var (i := 4) (t := (TI 0 (n - 1))) rfl) (by omega) (by omega)) wat_nil) (fun _ h => ⟨h, fun _ q => q⟩)) wat_nil) (by show 1 ≤ 1000; decide)) (sb_TV (alls_cons sb_r alls_nil) (by show _ ≤ 1; omega) (by show 1 ≤ _; omega))) (by rw [sizeLine_eq]; omega)) (sb_V sb_r (by omega) (by omega))) (WT.sub (u := (TV (A3.Wd K 0) 0 n)) (t_sl (t_var (i := 1) (t := (TV (Ni false) n n)) rfl) (sl_some (t_var (i := 4) (t := (TI 0 (n - 1))) rfl)) sl_none) (sb_V ni_wd (by omega) (by omega))) (by rw [sizeLine_eq]; omega)) (sb_V sb_r (by omega) (by omega))) (wd_V (sb_A (by decide)) (by omega)))
  · exact bt_nil
  exact bt_ret (WT.sub (u := (A3.Wd K 0)) (WT.sub (u := (TV (A3.Wd K 0) 1 ((n + 1) + n))) (t_cat (WT.sub (u := (TV (A3.Wd K 0) 1 (n + 1))) (t_cat (WT.sub (u := (TV (A3.Wd K 0) 0 n)) (t_sl (t_var (i := 1) (t := (TV (Ni false) n n)) rfl) sl_none (sl_some (t_var (i := 4) (t := (TI 0 (n - 1))) rfl))) (sb_V ni_wd (by omega) (by omega))) (WT.sub (u := (TV (A3.Wd K 0) 1 1)) (t_tup (wat_cons (t_callk (i := 0) (t := (A3.Wd K 0)) (k5.up (by decide)) hr (by rfl) (by rfl) (wat_cons (t_ix (t_var (i := 1) (t := (TV (Ni false) n n)) rfl) (t_var (i := 4) (t := (TI 0 (n - 1))) rfl) (by omega) (by omega)) (wat_cons (WT.sub (u := (TI 0 1)) (t_sub (t_var (i := 2) (t := (TI 1 2)) rfl) t_intI) (sb_I (by omega) (by omega))) wat_nil)) (fun _ h => ⟨h, fun _ q => q⟩)) wat_nil) (by show 1 ≤ 1000; decide)) (sb_TV (alls_cons sb_r alls_nil) (by show _ ≤ 1; omega) (by show 1 ≤ _; omega))) (by rw [sizeLine_eq]; omega)) (sb_V sb_r (by omega) (by omega))) (WT.sub (u := (TV (A3.Wd K 0) 0 n)) (t_sl (t_var (i := 1) (t := (TV (Ni false) n n)) rfl) (sl_some (WT.sub (u := (TI 1 ((n - 1) + 1))) (t_add (t_var (i := 4) (t := (TI 0 (n - 1))) rfl) t_intI) (sb_I (by omega) (by omega)))) sl_none) (sb_V ni_wd (by omega) (by omega))) (by rw [sizeLine_eq]; omega)) (sb_V sb_r (by omega) (by omega))) (wd_V (sb_A (by decide)) (by omega)))
theorem ok_bent3 (B : A3.Be mg) (F : Fun K "_law_bent" "_law_bent" s__law_bent f fd) (k1 : KnP P w K mg base "_law_draw" 81 1 ["_law_deck_here", "_law_many"] SpDraw) (k4 : KnP P w K mg base "_law_odd" 85 5 ["_law_deck_here", "_law_thing"] (Dr (Tup [Ni false]) (fun _ d => A3.Wd K 0 d))) (k5 : KnP P w K mg base "_law_bent" 86 8 ["_law_deck_here", "_law_thing", "_law_deep"] (Dr (Tup [Ni false, TI 0 2]) (fun _ d => A3.Wd K 0 d))) : FnG P w K mg base 9 f fd ["_law_deck_here", "_law_thing", "_law_deep"] (Dr (Tup [(Ni false), (TI 0 3)]) (fun _ d => (A3.Wd K 0) d)) := by
  refine ok_dr F sc__law_bent (fun ds h => by have := tup_len h; simp only [List.length_cons, List.length_nil] at this ⊢; omega) (by decide) fun cdv A outer s H E hr F ds hw h => ?_
  obtain _ | ⟨q0, h⟩ := h
  obtain _ | ⟨q1, h⟩ := h
  cases h
  refine bt_run (τ := [.dk, .d (Ni false), .d (TI 0 3), .no, .no, .no, .no]) (τ' := NEV) (R := (A3.Wd K 0)) ?_ (.cons rfl (.cons ⟨_, rfl, q0⟩ (.cons ⟨_, rfl, q1⟩ (.cons (.inl rfl) (.cons (.inl rfl) (.cons (.inl rfl) (.cons (.inl rfl) .nil))))))) (fun _ z => (nev z).elim) (fun _ q => q)
  refine bt_cons (τ1 := [.dk, .d (TV (Ni false) 1 400), .d (TI 1 3), .no, .no, .no, .no]) (st_if (ct_w (ctw_or (ct_sub (ct_not (ct_isi (i := 1) (t1 := (TV (Ni false) 0 400)) (t0 := (TI (-10000000000000000000000000000000000000000000000000000000000000000000000000000000000000000000000000000000000000000000000000) 10000000000000000000000000000000000000000000000000000000000000000000000000000000000000000000000000000000000000000000000000)) B.b.isi (by rfl) (by rfl) B.b.tup PyProof.Rows.boot_tuple (by rfl) isi_niTf)) (sys_cons sy_r (sys_cons (sy_d (ni_I (by omega) (by omega))) (sys_cons sy_r (sys_cons sy_r (sys_cons sy_r (sys_cons sy_r (sys_cons sy_r sys_nil))))))) sys_r) (ctw_sub (ctw_or (ct_eqT0 (i := 1) (t := (Ni false)) (lo := 0) (hi := 400) hr.ro.units rfl) (ctw_sub (ctw_or (ct_sub (cr_eq (i := 2) (m := 1) (n := 3) rfl (h1 := by omega) (h2 := by omega)) (sys_cons sy_r (sys_cons sy_r (sys_cons (sy_d (sb_I (by omega) (by omega))) (sys_cons sy_r (sys_cons sy_r (sys_cons sy_r (sys_cons sy_r sys_nil))))))) sys_r) (ctw_sub (ctw_or1 (ct_eq (WT.sub (u := (TI 0 4)) (t_callk (i := 0) (k1.up (by decide)) hr (by rfl) (by rfl) (wat_cons t_intI wat_nil) (ap_draw (by omega) (by omega))) (sb_I (by omega) (by omega))) t_intI)) (sys_cons sy_r (sys_cons sy_r (sys_cons (sy_d (sb_I (by omega) (by omega))) (sys_cons sy_r (sys_cons sy_r (sys_cons sy_r (sys_cons sy_r sys_nil))))))) sys_r)) (sys_cons sy_r (sys_cons (sy_d (sb_V sb_r (by omega) (by omega))) (sys_cons sy_r (sys_cons sy_r (sys_cons sy_r (sys_cons sy_r (sys_cons sy_r sys_nil))))))) sys_r)) (sys_cons sy_r (sys_cons (sy_d (ni_V sb_r (by omega))) (sys_cons sy_r (sys_cons sy_r (sys_cons sy_r (sys_cons sy_r (sys_cons sy_r sys_nil))))))) sys_r))) ?_ ?_) ?_
  · exact bt_ret (t_callk (i := 0) (t := (A3.Wd K 0)) (k4.up (by decide)) hr (by rfl) (by rfl) (wat_cons (t_var (i := 1) (t := (Ni false)) rfl) wat_nil) (fun _ h => ⟨h, fun _ q => q⟩))
  · exact bt_nil
  refine bt_fix (i := 1) rfl fun n n1 n2 => ?_
  refine bt_cons (τ1 := [.dk, .d (TV (Ni false) n n), .d (TI 1 3), .d (TI 0 7), .d (TI 0 (n - 1)), .d (TI 0 (n - 1)), .no]) (st_par3 (i := 3) (j := 4) (l := 5) (t := (TI 0 7)) (u := (TI 0 (n - 1))) (v := (TI 0 (n - 1))) rfl sc__law_bent.nd rfl rfl rfl (by decide) (by decide) (by decide) rfl rfl rfl (by show 3 < 7; decide) (by show 4 < 7; decide) (by show 5 < 7; decide) (WT.sub (u := (TI 0 7)) (t_callk (i := 0) (k1.up (by decide)) hr (by rfl) (by rfl) (wat_cons t_intI wat_nil) (ap_draw (by omega) (by omega))) (sb_I (by omega) (by omega))) (WT.sub (u := (TI 0 (n - 1))) (t_callk (i := 0) (k1.up (by decide)) hr (by rfl) (by rfl) (wat_cons (WT.sub (u := (TI n n)) (t_len B.b.len (by rfl) (t_var (i := 1) (t := (TV (Ni false) n n)) rfl)) (sb_I (by omega) (by omega))) wat_nil) (ap_draw (by omega) (by omega))) (sb_I (by omega) (by omega))) (WT.sub (u := (TI 0 (n - 1))) (t_callk (i := 0) (k1.up (by decide)) hr (by rfl) (by rfl) (wat_cons (WT.sub (u := (TI n n)) (t_len B.b.len (by rfl) (t_var (i := 1) (t := (TV (Ni false) n n)) rfl)) (sb_I (by omega) (by omega))) wat_nil) (ap_draw (by omega) (by omega))) (sb_I (by omega) (by omega)))) ?_
  refine bt_cons (τ1 := [.dk, .d (TV (Ni false) n n), .d (TI 1 3), .d (TI 1 7), .d (TI 0 (n - 1)), .d (TI 0 (n - 1)), .no]) (st_if (cr_eq (i := 3) (m := 1) (n := 7) rfl (h1 := by omega) (h2 := by omega)) ?_ ?_) ?_
  · exact bt_ret (WT.sub (u := (A3.Wd K 0)) (WT.sub (u := (TV (Ni false) 0 (n + n))) (t_cat (t_sl (t_var (i := 1) (t := (TV (Ni false) n n)) rfl) sl_none (sl_some (t_var (i := 4) (t := (TI 0 (n - 1))) rfl))) (t_sl (t_var (i := 1) (t := (TV (Ni false) n n)) rfl) (sl_some (WT.sub (u := (TI 1 ((n - 1) + 1))) (t_add (t_var (i := 4) (t := (TI 0 (n - 1))) rfl) t_intI) (sb_I (by omega) (by omega)))) sl_none) (by rw [sizeLine_eq]; omega)) (sb_V sb_r (by omega) (by omega))) (wd_V ni_wd (by omega)))
  · exact bt_nil
  refine bt_cons (τ1 := [.dk, .d (TV (Ni false) n n), .d (TI 1 3), .d (TI 2 7), .d (TI 0 (n - 1)), .d (TI 0 (n - 1)), .no]) (st_if (cr_eq (i := 3) (m := 2) (n := 7) rfl (h1 := by omega) (h2 := by omega)) ?_ ?_) ?_
  · exact bt_ret (WT.sub (u := (A3.Wd K 0)) (WT.sub (u := (TV (Ni false) 0 (n + n))) (t_cat (t_sl (t_var (i := 1) (t := (TV (Ni false) n n)) rfl) sl_none (sl_some (WT.sub (u := (TI 1 ((n - 1) + 1))) (t_add (t_var (i := 4) (t := (TI 0 (n - 1))) rfl) t_intI) (sb_I (by omega) (by omega))))) (t_sl (t_var (i := 1) (t := (TV (Ni false) n n)) rfl) (sl_some (t_var (i := 4) (t := (TI 0 (n - 1))) rfl)) sl_none) (by rw [sizeLine_eq]; omega)) (sb_V sb_r (by omega) (by omega))) (wd_V ni_wd (by omega)))
  · exact bt_nil
  refine bt_cons (τ1 := [.dk, .d (TV (Ni false) n n), .d (TI 1 3), .d (TI 3 7), .d (TI 0 (n - 1)), .d (TI 0 (n - 1)), .no]) (st_if (cr_eq (i := 3) (m := 3) (n := 7) rfl (h1 := by omega) (h2 := by omega)) ?_ ?_) ?_
  · refine bt_cons (τ1 := [.dk, .d (TV (Ni false) n n), .d (TI 1 3), .d (TI 2 2), .d (TI 0 (n - 1)), .d (TI 0 (n - 1)), .own (Ni false) n n]) (st_own (i := 6) (nfs_cons rfl (nfs_cons rfl (nfs_cons rfl (nfs_cons rfl (nfs_cons rfl (nfs_cons rfl (nfs_cons rfl nfs_nil))))))) (lt_list B.b.list (by rfl) (t_var (i := 1) (t := (TV (Ni false) n n)) rfl)) sc__law_bent.nd rfl (by first | exact .inl rfl | exact .inr rfl) (by show 6 < 7; decide)) ?_
    refine bt_cons (τ1 := [.dk, .d (TV (Ni false) n n), .d (TI 1 3), .d (TI 2 2), .d (TI 0 (n - 1)), .d (TI 0 (n - 1)), .own (Ni false) n n]) (st_swapO (i := 6) (ja := 4) (jb := 5) (t := (Ni false)) (lo := n) (hi := n) rfl rfl rfl rfl (by decide) (by decide) (by omega) (by omega) (by omega) (by omega) (t_tup (wat_cons (t_ix (t_var (i := 1) (t := (TV (Ni false) n n)) rfl) (t_var (i := 5) (t := (TI 0 (n - 1))) rfl) (by omega) (by omega)) (wat_cons (t_ix (t_var (i := 1) (t := (TV (Ni false) n n)) rfl) (t_var (i := 4) (t := (TI 0 (n - 1))) rfl) (by omega) (by omega)) wat_nil)) (by show 2 ≤ 1000; decide))) ?_
    refine bt_freeze (i := 6) (t := (Ni false)) (lo := n) (hi := n) rfl ?_
    exact bt_ret (WT.sub (u := (A3.Wd K 0)) (t_tuple B.b.tup (by rfl) (t_var (i := 6) (t := (LV (Ni false) n n)) rfl)) (wd_V ni_wd (by omega)))
  · exact bt_nil
  refine bt_cons (τ1 := [.dk, .d (TV (Ni false) n n), .d (TI 1 3), .d (TI 4 7), .d (TI 0 (n - 1)), .d (TI 0 (n - 1)), .no]) (st_if (cr_eq (i := 3) (m := 4) (n := 7) rfl (h1 := by omega) (h2 := by omega)) ?_ ?_) ?_
  · exact bt_ret (WT.sub (u := (A3.Wd K 0)) (WT.sub (u := (TV (A3.Wd K 0) 1 ((n + 1) + n))) (t_cat (WT.sub (u := (TV (A3.Wd K 0) 1 (n + 1))) (t_cat (WT.sub (u := (TV (A3.Wd K 0) 0 n)) (t_sl (t_var (i := 1) (t := (TV (Ni false) n n)) rfl) sl_none (sl_some (t_var (i := 4) (t := (TI 0 (n - 1))) rfl))) (sb_V ni_wd (by omega) (by omega))) (WT.sub (u := (TV (A3.Wd K 0) 1 1)) (t_tup (wat_cons (t_callk (i := 0) (t := (A3.Wd K 0)) (k4.up (by decide)) hr (by rfl) (by rfl) (wat_cons (t_ix (t_var (i := 1) (t := (TV (Ni false) n n)) rfl) (t_var (i := 4) (t := (TI 0 (n - 1))) rfl) (by omega) (by omega)) wat_nil) (fun _ h => ⟨h, fun _ q => q⟩)) wat_nil) (by show 1 ≤ 1000; decide)) (sb_TV (alls_cons sb_r alls_nil) (by show _ ≤ 1; omega) (by show 1 ≤ _; omega))) (by rw [sizeLine_eq]; omega)) (sb_V sb_r (by omega) (by omega))) (WT.sub (u := (TV (A3.Wd K 0) 0 n)) (t_sl (t_var (i := 1) (t := (TV (Ni false) n n)) rfl) (sl_some (t_var (i := 4) (t := (TI 0 (n - 1))) rfl)) sl_none) (sb_V ni_wd (by omega) (by omega))) (by rw [sizeLine_eq]; omega)) (sb_V sb_r (by omega) (by omega))) (wd_V (sb_A (by decide)) (by omega)))
  · exact bt_nil
  exact bt_ret (WT.sub (u := (A3.Wd K 0)) (WT.sub (u := (TV (A3.Wd K 0) 1 ((n + 1) + n))) (t_cat (WT.sub (u := (TV (A3.Wd K 0) 1 (n + 1))) (t_cat (WT.sub (u := (TV (A3.Wd K 0) 0 n)) (t_sl (t_var (i := 1) (t := (TV (Ni false) n n)) rfl) sl_none (sl_some (t_var (i := 4) (t := (TI 0 (n - 1))) rfl))) (sb_V ni_wd (by omega) (by omega))) (WT.sub (u := (TV (A3.Wd K 0) 1 1)) (t_tup (wat_cons (t_callk (i := 0) (t := (A3.Wd K 0)) (k5.up (by decide)) hr (by rfl) (by rfl) (wat_cons (t_ix (t_var (i := 1) (t := (TV (Ni false) n n)) rfl) (t_var (i := 4) (t := (TI 0 (n - 1))) rfl) (by omega) (by omega)) (wat_cons (WT.sub (u := (TI 0 2)) (t_sub (t_var (i := 2) (t := (TI 1 3)) rfl) t_intI) (sb_I (by omega) (by omega))) wat_nil)) (fun _ h => ⟨h, fun _ q => q⟩)) wat_nil) (by show 1 ≤ 1000; decide)) (sb_TV (alls_cons sb_r alls_nil) (by show _ ≤ 1; omega) (by show 1 ≤ _; omega))) (by rw [sizeLine_eq]; omega)) (sb_V sb_r (by omega) (by omega))) (WT.sub (u := (TV (A3.Wd K 0) 0 n)) (t_sl (t_var (i := 1) (t := (TV (Ni false) n n)) rfl) (sl_some (WT.sub (u := (TI 1 ((n - 1) + 1))) (t_add (t_var (i := 4) (t := (TI 0 (n - 1))) rfl) t_intI) (sb_I (by omega) (by omega)))) sl_none) (sb_V ni_wd (by omega) (by omega))) (by rw [sizeLine_eq]; omega)) (sb_V sb_r (by omega) (by omega))) (wd_V (sb_A (by decide)) (by omega)))
theorem ok_bent4 (B : A3.Be mg) (F : Fun K "_law_bent" "_law_bent" s__law_bent f fd) (k1 : KnP P w K mg base "_law_draw" 81 1 ["_law_deck_here", "_law_many"] SpDraw) (k4 : KnP P w K mg base "_law_odd" 85 5 ["_law_deck_here", "_law_thing"] (Dr (Tup [Ni false]) (fun _ d => A3.Wd K 0 d))) (k5 : KnP P w K mg base "_law_bent" 86 9 ["_law_deck_here", "_law_thing", "_law_deep"] (Dr (Tup [Ni false, TI 0 3]) (fun _ d => A3.Wd K 0 d))) : FnG P w K mg base 10 f fd ["_law_deck_here", "_law_thing", "_law_deep"] (Dr (Tup [(Ni false), (TI 0 4)]) (fun _ d => (A3.Wd K 0) d)) := by
  refine ok_dr F sc__law_bent (fun ds h => by have := tup_len h; simp only [List.length_cons, List.length_nil] at this ⊢; omega) (by decide) fun cdv A outer s H E hr F ds hw h => ?_
  obtain _ | ⟨q0, h⟩ := h
  obtain _ | ⟨q1, h⟩ := h
  cases h
  refine bt_run (τ := [.dk, .d (Ni false), .d (TI 0 4), .no, .no, .no, .no]) (τ' := NEV) (R := (A3.Wd K 0)) ?_ (.cons rfl (.cons ⟨_, rfl, q0⟩ (.cons ⟨_, rfl, q1⟩ (.cons (.inl rfl) (.cons (.inl rfl) (.cons (.inl rfl) (.cons (.inl rfl) .nil))))))) (fun _ z => (nev z).elim) (fun _ q => q)
  refine bt_cons (τ1 := [.dk, .d (TV (Ni false) 1 400), .d (TI 1 4), .no, .no, .no, .no]) (st_if (ct_w (ctw_or (ct_sub (ct_not (ct_isi (i := 1) (t1 := (TV (Ni false) 0 400)) (t0 := (TI (-10000000000000000000000000000000000000000000000000000000000000000000000000000000000000000000000000000000000000000000000000) 10000000000000000000000000000000000000000000000000000000000000000000000000000000000000000000000000000000000000000000000000)) B.b.isi (by rfl) (by rfl) B.b.tup PyProof.Rows.boot_tuple (by rfl) isi_niTf)) (sys_cons sy_r (sys_cons (sy_d (ni_I (by omega) (by omega))) (sys_cons sy_r (sys_cons sy_r (sys_cons sy_r (sys_cons sy_r (sys_cons sy_r sys_nil))))))) sys_r) (ctw_sub (ctw_or (ct_eqT0 (i := 1) (t := (Ni false)) (lo := 0) (hi := 400) hr.ro.units rfl) (ctw_sub (ctw_or (ct_sub (cr_eq (i := 2) (m := 1) (n := 4) rfl (h1 := by omega) (h2 := by omega)) (sys_cons sy_r (sys_cons sy_r (sys_cons (sy_d (sb_I (by omega) (by omega))) (sys_cons sy_r (sys_cons sy_r (sys_cons sy_r (sys_cons sy_r sys_nil))))))) sys_r) (ctw_sub (ctw_or1 (ct_eq (WT.sub (u := (TI 0 4)) (t_callk (i := 0) (k1.up (by decide)) hr (by rfl) (by rfl) (wat_cons t_intI wat_nil) (ap_draw (by omega) (by omega))) (sb_I (by omega) (by omega))) t_intI)) (sys_cons sy_r (sys_cons sy_r (sys_cons (sy_d (sb_I (by omega) (by omega))) (sys_cons sy_r (sys_cons sy_r (sys_cons sy_r (sys_cons sy_r sys_nil))))))) sys_r)) (sys_cons sy_r (sys_cons (sy_d (sb_V sb_r (by omega) (by omega))) (sys_cons sy_r (sys_cons sy_r (sys_cons sy_r (sys_cons sy_r (sys_cons sy_r sys_nil))))))) sys_r)) (sys_cons sy_r (sys_cons (sy_d (ni_V sb_r (by omega))) (sys_cons sy_r (sys_cons sy_r (sys_cons sy_r (sys_cons sy_r (sys_cons sy_r sys_nil))))))) sys_r))) ?_ ?_) ?_
  · exact bt_ret (t_callk (i := 0) (t := (A3.Wd K 0)) (k4.up (by decide)) hr (by rfl) (by rfl) (wat_cons (t_var (i := 1) (t := (Ni false)) rfl) wat_nil) (fun _ h => ⟨h, fun _ q => q⟩))
  · exact bt_nil
  refine bt_fix (i := 1) rfl fun n n1 n2 => ?_
  refine bt_cons (τ1 := [.dk, .d (TV (Ni false) n n), .d (TI 1 4), .d (TI 0 7), .d (TI 0 (n - 1)), .d (TI 0 (n - 1)), .no]) (st_par3 (i := 3) (j := 4) (l := 5) (t := (TI 0 7)) (u := (TI 0 (n - 1))) (v := (TI 0 (n - 1))) rfl sc__law_bent.nd rfl rfl rfl (by decide) (by decide) (by decide) rfl rfl rfl (by show 3 < 7; decide) (by show 4 < 7; decide) (by show 5 < 7; decide) (WT.sub (u := (TI 0 7)) (t_callk (i := 0) (k1.up (by decide)) hr (by rfl) (by rfl) (wat_cons t_intI wat_nil) (ap_draw (by omega) (by omega))) (sb_I (by omega) (by omega))) (WT.sub (u := (TI 0 (n - 1))) (t_callk (i := 0) (k1.up (by decide)) hr (by rfl) (by rfl) (wat_cons (WT.sub (u := (TI n n)) (t_len B.b.len (by rfl) (t_var (i := 1) (t := (TV (Ni false) n n)) rfl)) (sb_I (by omega) (by omega))) wat_nil) (ap_draw (by omega) (by omega))) (sb_I (by omega) (by omega))) (WT.sub (u := (TI 0 (n - 1))) (t_callk (i := 0) (k1.up (by decide)) hr (by rfl) (by rfl) (wat_cons (WT.sub (u := (TI n n)) (t_len B.b.len (by rfl) (t_var (i := 1) (t := (TV (Ni false) n n)) rfl)) (sb_I (by omega) (by omega))) wat_nil) (ap_draw (by omega) (by omega))) (sb_I (by omega) (by omega)))) ?_
  refine bt_cons (τ1 := [.dk, .d (TV (Ni false) n n), .d (TI 1 4), .d (TI 1 7), .d (TI 0 (n - 1)), .d (TI 0 (n - 1)), .no]) (st_if (cr_eq (i := 3) (m := 1) (n := 7) rfl (h1 := by omega) (h2 := by omega)) ?_ ?_) ?_
  · exact bt_ret (WT.sub (u := (A3.Wd K 0)) (WT.sub (u := (TV (Ni false) 0 (n + n))) (t_cat (t_sl (t_var (i := 1) (t := (TV (Ni false) n n)) rfl) sl_none (sl_some (t_var (i := 4) (t := (TI 0 (n - 1))) rfl))) (t_sl (t_var (i := 1) (t := (TV (Ni false) n n)) rfl) (sl_some (WT.sub (u := (TI 1 ((n - 1) + 1))) (t_add (t_var (i := 4) (t := (TI 0 (n - 1))) rfl) t_intI) (sb_I (by omega) (by omega)))) sl_none) (by rw [sizeLine_eq]; omega)) (sb_V sb_r (by omega) (by omega))) (wd_V ni_wd (by omega)))
  · exact bt_nil
  refine bt_cons (τ1 := [.dk, .d (TV (Ni false) n n), .d (TI 1 4), .d (TI 2 7), .d (TI 0 (n - 1)), .d (TI 0 (n - 1)), .no]) (st_if (cr_eq (i := 3) (m := 2) (n := 7) rfl (h1 := by omega) (h2 := by omega)) ?_ ?_) ?_
  · exact bt_ret (WT.sub (u := (A3.Wd K 0)) (WT.sub (u := (TV (Ni false) 0 (n + n))) (t_cat (t_sl (t_var (i := 1) (t := (TV (Ni false) n n)) rfl) sl_none (sl_some (WT.sub (u := (TI 1 ((n - 1) + 1))) (t_add (t_var (i := 4) (t := (TI 0 (n - 1))) rfl) t_intI) (sb_I (by omega) (by omega))))) (t_sl (t_var (i := 1) (t := (TV (Ni false) n n)) rfl) (sl_some (t_var (i := 4) (t := (TI 0 (n - 1))) rfl)) sl_none) (by rw [sizeLine_eq]; omega)) (sb_V sb_r (by omega) (by omega))) (wd_V ni_wd (by omega)))
  · exact bt_nil
  refine bt_cons (τ1 := [.dk, .d (TV (Ni false) n n), .d (TI 1 4), .d (TI 3 7), .d (TI 0 (n - 1)), .d (TI 0 (n - 1)), .no]) (st_if (cr_eq (i := 3) (m := 3) (n := 7) rfl (h1 := by omega) (h2 := by omega)) ?_ ?_) ?_
  · refine bt_cons (τ1 := [.dk, .d (TV (Ni false) n n), .d (TI 1 4), .d (TI 2 2), .d (TI 0 (n - 1)), .d (TI 0 (n - 1)), .own (Ni false) n n]) (st_own (i := 6) (nfs_cons rfl (nfs_cons rfl (nfs_cons rfl (nfs_cons rfl (nfs_cons rfl (nfs_cons rfl (nfs_cons rfl nfs_nil))))))) (lt_list B.b.list (by rfl) (t_var (i := 1) (t := (TV (Ni false) n n)) rfl)) sc__law_bent.nd rfl (by first | exact .inl rfl | exact .inr rfl) (by show 6 < 7; decide)) ?_
    refine bt_cons (τ1 := [.dk, .d (TV (Ni false) n n), .d (TI 1 4), .d (TI 2 2), .d (TI 0 (n - 1)), .d (TI 0 (n - 1)), .own (Ni false) n n]) (st_swapO (i := 6) (ja := 4) (jb := 5) (t := (Ni false)) (lo := n) (hi := n) rfl rfl rfl rfl (by decide) (by decide) (by omega) (by omega) (by omega) (by omega) (t_tup (wat_cons (t_ix (t_var (i := 1) (t := (TV (Ni false) n n)) rfl) (t_var (i := 5) (t := (TI 0 (n - 1))) rfl) (by omega) (by omega)) (wat_cons (t_ix (t_var (i := 1) (t := (TV (Ni false) n n)) rfl) (t_var (i := 4) (t := (TI 0 (n - 1))) rfl) (by omega) (by omega)) wat_nil)) (by show 2 ≤ 1000; decide))) ?_
    refine bt_freeze (i := 6) (t := (Ni false)) (lo := n) (hi := n) rfl ?_
    exact bt_ret (WT.sub (u := (A3.Wd K 0)) (t_tuple B.b.tup (by rfl) (t_var (i := 6) (t := (LV (Ni false) n n)) rfl)) (wd_V ni_wd (by omega)))
  · exact bt_nil
  refine bt_cons (τ1 := [.dk, .d (TV (Ni false) n n), .d (TI 1 4), .d (TI 4 7), .d (TI 0 (n - 1)), .d (TI 0 (n - 1)), .no]) (st_if (cr_eq (i := 3) (m := 4) (n := 7) rfl (h1 := by omega) (h2 := by omega)) ?_ ?_) ?_
  · exact bt_ret (WT.sub (u := (A3.Wd K 0)) (WT.sub (u := (TV (A3.Wd K 0) 1 ((n + 1) + n))) (t_cat (WT.sub (u := (TV (A3.Wd K 0) 1 (n + 1))) (t_cat (WT.sub (u := (TV (A3.Wd K 0) 0 n)) (t_sl (t_var (i := 1) (t := (TV (Ni false) n n)) rfl) sl_none (sl_some (t_var (i := 4) (t := (TI 0 (n - 1))) rfl))) (sb_V ni_wd (by omega) (by omega))) (WT.sub (u := (TV (A3.Wd K 0) 1 1)) (t_tup (wat_cons (t_callk (i := 0) (t := (A3.Wd K 0)) (k4.up (by decide)) hr (by rfl) (by rfl) (wat_cons (t_ix (t_var (i := 1) (t := (TV (Ni false) n n)) rfl) (t_var (i := 4) (t := (TI 0 (n - 1))) rfl) (by omega) (by omega)) wat_nil) (fun _ h => ⟨h, fun _ q => q⟩)) wat_nil) (by show 1 ≤ 1000; decide)) (sb_TV (alls_cons sb_r alls_nil) (by show _ ≤ 1; omega) (by show 1 ≤ _; omega))) (by rw [sizeLine_eq]; omega)) (sb_V sb_r (by omega) (by omega))) (WT.sub (u := (TV (A3.Wd K 0) 0 n)) (t_sl (t_var (i := 1) (t := (TV (Ni false) n n)) rfl) (sl_some (t_var (i := 4) (t := (TI 0 (n - 1))) rfl)) sl_none) (sb_V ni_wd (by omega) (by omega))) (by rw [sizeLine_eq]; omega)) (sb_V sb_r (by omega) (by omega))) (wd_V (sb_A (by decide)) (by omega)))
  · exact bt_nil
  exact bt_ret (WT.sub (u := (A3.Wd K 0)) (WT.sub (u := (TV (A3.Wd K 0) 1 ((n + 1) + n))) (t_cat (WT.sub (u := (TV (A3.Wd K 0) 1 (n + 1))) (t_cat (WT.sub (u := (TV (A3.Wd K 0) 0 n)) (t_sl (t_var (i := 1) (t := (TV (Ni false) n n)) rfl) sl_none (sl_some (t_var (i := 4) (t := (TI 0 (n - 1))) rfl))) (sb_V ni_wd (by omega) (by omega))) (WT.sub (u := (TV (A3.Wd K 0) 1 1)) (t_tup (wat_cons (t_callk (i := 0) (t := (A3.Wd K 0)) (k5.up (by decide)) hr (by rfl) (by rfl) (wat_cons (t_ix (t_var (i := 1) (t := (TV (Ni false) n n)) rfl) (t_var (i := 4) (t := (TI 0 (n - 1))) rfl) (by omega) (by omega)) (wat_cons (WT.sub (u := (TI 0 3)) (t_sub (t_var (i := 2) (t := (TI 1 4)) rfl) t_intI) (sb_I (by omega) (by omega))) wat_nil)) (fun _ h => ⟨h, fun _ q => q⟩)) wat_nil) (by show 1 ≤ 1000; decide)) (sb_TV (alls_cons sb_r alls_nil) (by show _ ≤ 1; omega) (by show 1 ≤ _; omega))) (by rw [sizeLine_eq]; omega)) (sb_V sb_r (by omega) (by omega))) (WT.sub (u := (TV (A3.Wd K 0) 0 n)) (t_sl (t_var (i := 1) (t := (TV (Ni false) n n)) rfl) (sl_some (WT.sub (u := (TI 1 ((n - 1) + 1))) (t_add (t_var (i := 4) (t := (TI 0 (n - 1))) rfl) t_intI) (sb_I (by omega) (by omega)))) sl_none) (sb_V ni_wd (by omega) (by omega))) (by rw [sizeLine_eq]; omega)) (sb_V sb_r (by omega) (by omega))) (wd_V (sb_A (by decide)) (by omega)))
end
end A7
namespace A7
open PySem PySem.W L2 RZ PyProof.Rows DW K9 K4 A3
local macro_rules | `(tactic| walk_at "dw") => `(tactic| first
  | ((with_reducible show W _ _ (.Name _ _) _ _); first
    | refine w_var (i := 0) rfl (q := ?_)
    | refine w_var (i := 1) rfl (q := ?_)
    | refine w_var (i := 2) rfl (q := ?_)
    | refine w_var (i := 3) rfl (q := ?_)
    | refine w_var (i := 4) rfl (q := ?_)
    | refine w_var (i := 5) rfl (q := ?_)
    | refine w_var (i := 6) rfl (q := ?_)
    | refine w_var (i := 7) rfl (q := ?_)
    | refine w_var (i := 8) rfl (q := ?_)
    | refine w_var (i := 9) rfl (q := ?_)
    | refine w_var (i := 10) rfl (q := ?_)
    | refine w_var (i := 11) rfl (q := ?_)
    | refine w_var (i := 12) rfl (q := ?_)
    | refine w_var (i := 13) rfl (q := ?_)
    | refine w_var (i := 14) rfl (q := ?_)
    | refine w_var (i := 15) rfl (q := ?_))
  | ((with_reducible show W _ _ (.Constant (.int _) _ _) _ _); refine w_int ?_)
  | ((with_reducible show W _ _ (.Constant (.bool _) _ _) _ _); refine w_bool ?_)
  | ((with_reducible show W _ _ (.Constant .none _ _) _ _); refine w_none ?_)
  | ((with_reducible show W _ _ (.Constant (.str _) _ _) _ _); refine w_str ?_)
  | ((with_reducible show W _ _ (.BoolOp .And (_ :: _ :: _) _) _ _); refine w_andV ?_)
  | ((with_reducible show W _ _ (.BoolOp .Or (_ :: _ :: _) _) _ _); refine w_orV ?_)
  | ((with_reducible show W _ _ (.BoolOp _ [_] _) _ _); refine w_one ?_)
  | ((with_reducible show W _ _ (.UnaryOp .Not _ _) _ _); refine w_notV ?_)
  | ((with_reducible show W _ _ (.UnaryOp .USub _ _) _ _); refine w_un ?_)
  | ((with_reducible show W _ _ (.BinOp _ _ _ _) _ _); refine w_bin ?_)
  | ((with_reducible show W _ _ (.Tuple _ _ _) _ _); refine w_tup ?_)
  | ((with_reducible show W _ _ (.Compare _ [_] _ _) _ _); refine w_cmp (h := ?_))
  | ((with_reducible show W _ _ (.Compare _ [_, _] _ _) _ _); refine w_chain (h := ?_))
  | ((with_reducible show T _ _ (.Compare _ [_] _ _) _ _); refine t_cmp (h := ?_))
  | ((with_reducible show T _ _ (.Compare _ [_, _] _ _) _ _); refine t_chain (h := ?_))
  | ((with_reducible show T _ _ (.UnaryOp .Not _ _) _ _); refine t_not ?_)
  | ((with_reducible show T _ _ (.Call _ _ _ _) _ _); refine t_val ?_)
  | ((with_reducible show T _ _ (.BoolOp .And _ _) _ _); refine t_w ?_)
  | ((with_reducible show T _ _ (.BoolOp .Or _ _) _ _); refine t_w ?_)
  | ((with_reducible show T _ _ (.Name _ _) _ _); refine t_val ?_)
  | ((with_reducible show TW _ _ (.BoolOp .And [_] _) _ _); refine tw_and1 ?_)
  | ((with_reducible show TW _ _ (.BoolOp .Or [_] _) _ _); refine tw_or1 ?_)
  | ((with_reducible show TW _ _ (.BoolOp .And (_ :: _ :: _) _) _ _); refine tw_and ?_)
  | ((with_reducible show TW _ _ (.BoolOp .Or (_ :: _ :: _) _) _ _); refine tw_or ?_)
  | ((with_reducible show WS _ _ (.Return (some _) _) _ _); refine ws_ret ?_)
  | ((with_reducible show WS _ _ (.If _ _ _ _) _ _); refine ws_if ?_)
  | ((with_reducible show WS _ _ (.Pass _) _ _); refine ws_pass ?_)
  | ((with_reducible show WA _ _ [] _ _); refine wa_nil ?_)
  | ((with_reducible show WA _ _ (_ :: _) _ _); refine wa_cons ?_)
  | ((with_reducible show WK _ _ [] _ _); refine wk_nil ?_)
  | ((with_reducible show WK _ _ (_ :: _) _ _); refine wk_cons ?_)
  | ((with_reducible show WP _ _ none _ _); refine wp_none ?_)
  | ((with_reducible show WP _ _ (some _) _ _); refine wp_some ?_)
  | ((with_reducible show WB _ _ [] _ _); refine wb_nil ?_)
  | ((with_reducible show WB _ _ (_ :: _) _ _); refine wb_cons ?_)
  | ((with_reducible show WB _ _ (defBody _) _ _); refine wb_cons ?_)
  | ((with_reducible show ∃ z, OpD _ (binaryOp .Add) (.int _) (.int _) z ∧ _); refine ⟨_, od_add, ?_⟩)
  | ((with_reducible show ∃ z, OpD _ (binaryOp .Sub) (.int _) (.int _) z ∧ _); refine ⟨_, od_sub, ?_⟩)
  | ((with_reducible show ∃ z, OpD _ (compareOp .Lt) (.int _) (.int _) z ∧ _); refine ⟨_, od_lt, ?_⟩)
  | ((with_reducible show ∃ z, OpD _ (compareOp .Lt) (.int _) (.int _) (.bool z) ∧ _); refine ⟨_, od_lt, ?_⟩)
  | ((with_reducible show ∃ z, OpD _ (compareOp .LtE) (.int _) (.int _) z ∧ _); refine ⟨_, od_le, ?_⟩)
  | ((with_reducible show ∃ z, OpD _ (compareOp .LtE) (.int _) (.int _) (.bool z) ∧ _); refine ⟨_, od_le, ?_⟩)
  | ((with_reducible show ∃ z, OpD _ (compareOp .Gt) (.int _) (.int _) z ∧ _); refine ⟨_, od_gt, ?_⟩)
  | ((with_reducible show ∃ z, OpD _ (compareOp .Gt) (.int _) (.int _) (.bool z) ∧ _); refine ⟨_, od_gt, ?_⟩)
  | ((with_reducible show ∃ z, OpD _ (compareOp .GtE) (.int _) (.int _) z ∧ _); refine ⟨_, od_ge, ?_⟩)
  | ((with_reducible show ∃ z, OpD _ (compareOp .GtE) (.int _) (.int _) (.bool z) ∧ _); refine ⟨_, od_ge, ?_⟩)
  | ((with_reducible show ∃ z, OpD _ (compareOp .Eq) (.int _) (.int _) z ∧ _); refine ⟨_, od_eqI, ?_⟩)
  | ((with_reducible show ∃ z, OpD _ (compareOp .Eq) (.int _) (.int _) (.bool z) ∧ _); refine ⟨_, od_eqI, ?_⟩)
  | ((with_reducible show ∃ z, OpD _ (compareOp .NotEq) (.int _) (.int _) z ∧ _); refine ⟨_, od_neI, ?_⟩)
  | ((with_reducible show ∃ z, OpD _ (compareOp .NotEq) (.int _) (.int _) (.bool z) ∧ _); refine ⟨_, od_neI, ?_⟩)
  | ((with_reducible show ∃ z, OpD _ (compareOp .Is) (.bool _) (.bool _) z ∧ _); refine ⟨_, od_isB, ?_⟩)
  | ((with_reducible show ∃ z, OpD _ (compareOp .Is) (.bool _) (.bool _) (.bool z) ∧ _); refine ⟨_, od_isB, ?_⟩)
  | ((with_reducible show ∃ z, OpD _ (compareOp .IsNot) (.bool _) (.bool _) z ∧ _); refine ⟨_, od_notB, ?_⟩)
  | ((with_reducible show ∃ z, OpD _ (compareOp .IsNot) (.bool _) (.bool _) (.bool z) ∧ _); refine ⟨_, od_notB, ?_⟩)
  | ((with_reducible show ∃ z, OpD _ (binaryOp .Pow) (.int _) (.int _) z ∧ _); refine ⟨_, od_pow (by exact ⟨by decide, by decide, by decide⟩), ?_⟩)
  | ((with_reducible show ∃ z, OpD _ (compareOp .NotEq) (.str _) (.str _) (.bool z) ∧ _); refine ⟨_, od_neS, ?_⟩)
  | ((with_reducible show ∃ z, OpD _ (compareOp .Eq) (.str _) (.str _) (.bool z) ∧ _); refine ⟨_, od_eqS, ?_⟩)
  | ((with_reducible show ∃ z, OpD _ (compareOp .Eq) (.str _) (.str _) z ∧ _); refine ⟨_, od_eqS, ?_⟩)
  | ((with_reducible show ∃ z, UnD _ (unaryOp .USub) (.int _) z ∧ _); refine ⟨_, ud_neg, ?_⟩)
  | ((with_reducible show ∃ i, PyData.int _ = PyData.int i ∧ _); refine ⟨_, rfl, ?_⟩)
  | ((with_reducible show ∃ i, PyData.bool _ = PyData.bool i ∧ _); refine ⟨_, rfl, ?_⟩)
  | ((with_reducible show ∃ i, PyData.tuple _ = PyData.tuple i ∧ _); refine ⟨_, rfl, ?_⟩)
  | ((with_reducible show ∃ i, PyData.list _ = PyData.list i ∧ _); refine ⟨_, rfl, ?_⟩)
  | ((with_reducible show List.length [_] ≤ sizeLine ∧ _); refine ⟨len_le1, ?_⟩)
  | ((with_reducible show List.length [_, _] ≤ sizeLine ∧ _); refine ⟨len_le2, ?_⟩)
  | ((with_reducible show List.length [_, _, _] ≤ sizeLine ∧ _); refine ⟨len_le3, ?_⟩))
section
variable {P : Program} {w : World} {K : PySem.W.Frag} {mg : Str → Option Value} {base : Heap} {f : Addr} {fd : FuncData}
/-! the law's own looks -/
abbrev s__law_is_integer : Stmt := topS 87
abbrev n__law_is_integer : List Str := ["_law_thing"]
theorem sc__law_is_integer : FnScope ["_law_thing"] ["_law_thing"] (defScope s__law_is_integer) := ⟨rfl, rfl, rfl, by decide +kernel, rfl, by decide +kernel, by decide +kernel⟩
theorem ok__law_is_integer (B : A3.Be mg) (F : Fun K "_law_is_integer" "_law_is_integer" s__law_is_integer f fd) : FnG P w K mg base 1 f fd ["_law_thing"] (SpW K) := by
  refine ok_pu F sc__law_is_integer (fun ds h => by obtain ⟨d, rfl, _⟩ := h; rfl) (by decide) fun cdv A outer s H E hr F ds hw h => ?_
  obtain ⟨d, rfl, n, hn, wd⟩ := h
  repeat walk_at "dw"
  refine w_isA rfl B.b.isi PyProof.Rows.boot_isinstance rfl B.b.int PyProof.Rows.boot_int ?_
  repeat walk_at "dw"
  refine ⟨isN d, ay_int wd, _, rfl, ?_⟩
  cases e : isN d with
  | false =>
    refine iteF rfl ?_
    exact fin1 (by rw [isI_eq, e]; rfl)
  | true =>
    refine iteT rfl ?_
    repeat walk_at "dw"
    refine w_isA rfl B.b.isi PyProof.Rows.boot_isinstance rfl B.b.bool PyProof.Rows.boot_bool ?_
    repeat walk_at "dw"
    refine ⟨isB d, ay_bool wd, _, rfl, ?_⟩
    exact fin1 (by rw [isI_eq, e]; rfl)
abbrev s__law_is_room : Stmt := topS 88
abbrev n__law_is_room : List Str := ["_law_r", "_law_thing", "_law_it"]
theorem sc__law_is_room : FnScope ["_law_r", "_law_thing", "_law_it"] ["_law_r", "_law_thing"] (defScope s__law_is_room) := ⟨rfl, rfl, rfl, by decide +kernel, rfl, by decide +kernel, by decide +kernel⟩
theorem filt_em (ds : List D) : (ds.filter fun d => !isI d).isEmpty = ds.all isI := by
  rw [Bool.eq_iff_iff, List.isEmpty_iff, List.filter_eq_nil_iff, List.all_eq_true]
  exact ⟨fun h d hd => by have := h d hd; simpa using this, fun h d hd => by rw [h d hd]; decide⟩
theorem outSame : ∀ {ds out : List D}, Paired (fun d r => r = d) ds out → out = ds
  | _, _, .nil => rfl
  | _, _, .cons h t => by subst h; rw [outSame t]
theorem ok__law_is_room (B : A3.Be mg) (F : Fun K "_law_is_room" "_law_is_room" s__law_is_room f fd) (k1 : KnP P w K mg base "_law_is_integer" 87 1 ["_law_thing"] (SpW K)) : FnG P w K mg base 2 f fd ["_law_r", "_law_thing"] (SpAny K roomB) := by
  refine ok_pu F sc__law_is_room (fun ds h => by obtain ⟨r, d, rfl, _⟩ := h; rfl) (by decide) fun cdv A outer s H E hr F ds hw h => ?_
  obtain ⟨r, d, rfl, ha⟩ := h
  repeat walk_at "dw"
  refine w_isA rfl B.b.isi PyProof.Rows.boot_isinstance rfl B.b.tup PyProof.Rows.boot_tuple ?_
  repeat walk_at "dw"
  refine ⟨isT d, ay_tup ha.choose_spec.2, _, rfl, ?_⟩
  cases d with
  | tuple ds =>
    refine iteF rfl ?_
    repeat walk_at "dw"
    refine w_callB rfl B.b.len PySem.boot_len ?_
    repeat walk_at "dw"
    refine ⟨_, cd_len_t, ?_⟩
    repeat walk_at "dw"
    by_cases h1 : (ds.length : Int) = r
    · refine iteF (by simp [h1]) ?_
      repeat walk_at "dw"
      refine w_l (wl_lc [("_law_it", 2)] (L := [2]) rfl sc__law_is_room.nd (blkOk_by (N := n__law_is_room) (sc := defScope s__law_is_room) (by decide +kernel)) (by decide) rfl (h := ?_))
      refine lc_filt (fun d => !isI d) (fun d r => r = d) ?_
      refine it_tup ?_
      repeat walk_at "dw"
      refine ⟨by rw [sizeLine_eq]; have := ha.mem.1; omega, fun d hd F' e1 e2 s H C cl fp => ?_, fun out ho => ?_⟩
      · skip
        refine tg_name (i := 2) sc__law_is_room.nd rfl (by first | exact .inl rfl | exact .inr rfl) (by exact (by decide : 2 < 3)) ?_
        refine ⟨?_, fun hp => ?_⟩
        · intro s H C cl fp
          repeat walk_at "dw"
          refine w_call k1 hr rfl ?_
          repeat walk_at "dw"
          refine ⟨⟨d, rfl, ha.mem.2 d hd⟩, fun v hv => ?_⟩
          obtain rfl := hv d rfl
          exact ⟨_, rfl, rfl⟩
        · intro s H C cl fp
          repeat walk_at "dw"
          rfl
      · repeat walk_at "dw"
        refine w_l (wl_lst ?_)
        repeat walk_at "dw"
        refine ⟨Nat.zero_le _, ?_⟩
        rw [outSame ho]
        refine ⟨_, od_eqL0 hr.ro.units, ?_⟩
        rw [filt_em]
        exact fin2 (by simp [roomB, h1])
    · refine iteT (by simp [h1]) ?_
      repeat walk_at "dw"
      exact fin2 (by simp [roomB, h1])
  | _ =>
    refine iteT rfl ?_
    refine iteT rfl ?_
    repeat walk_at "dw"
    exact fin2 rfl
end
end A7
namespace A7
open PySem PySem.W L2 RZ PyProof.Rows DW K9 K4 A3
local macro_rules | `(tactic| walk_at "dw") => `(tactic| first
  | ((with_reducible show W _ _ (.Name _ _) _ _); first
    | refine w_var (i := 0) rfl (q := ?_)
    | refine w_var (i := 1) rfl (q := ?_)
    | refine w_var (i := 2) rfl (q := ?_)
    | refine w_var (i := 3) rfl (q := ?_)
    | refine w_var (i := 4) rfl (q := ?_)
    | refine w_var (i := 5) rfl (q := ?_)
    | refine w_var (i := 6) rfl (q := ?_)
    | refine w_var (i := 7) rfl (q := ?_)
    | refine w_var (i := 8) rfl (q := ?_)
    | refine w_var (i := 9) rfl (q := ?_)
    | refine w_var (i := 10) rfl (q := ?_)
    | refine w_var (i := 11) rfl (q := ?_)
    | refine w_var (i := 12) rfl (q := ?_)
    | refine w_var (i := 13) rfl (q := ?_)
    | refine w_var (i := 14) rfl (q := ?_)
    | refine w_var (i := 15) rfl (q := ?_))
  | ((with_reducible show W _ _ (.Constant (.int _) _ _) _ _); refine w_int ?_)
  | ((with_reducible show W _ _ (.Constant (.bool _) _ _) _ _); refine w_bool ?_)
  | ((with_reducible show W _ _ (.Constant .none _ _) _ _); refine w_none ?_)
  | ((with_reducible show W _ _ (.Constant (.str _) _ _) _ _); refine w_str ?_)
  | ((with_reducible show W _ _ (.BoolOp .And (_ :: _ :: _) _) _ _); refine w_andV ?_)
  | ((with_reducible show W _ _ (.BoolOp .Or (_ :: _ :: _) _) _ _); refine w_orV ?_)
  | ((with_reducible show W _ _ (.BoolOp _ [_] _) _ _); refine w_one ?_)
  | ((with_reducible show W _ _ (.UnaryOp .Not _ _) _ _); refine w_notV ?_)
  | ((with_reducible show W _ _ (.UnaryOp .USub _ _) _ _); refine w_un ?_)
  | ((with_reducible show W _ _ (.BinOp _ _ _ _) _ _); refine w_bin ?_)
  | ((with_reducible show W _ _ (.Tuple _ _ _) _ _); refine w_tup ?_)
  | ((with_reducible show W _ _ (.Compare _ [_] _ _) _ _); refine w_cmp (h := ?_))
  | ((with_reducible show W _ _ (.Compare _ [_, _] _ _) _ _); refine w_chain (h := ?_))
  | ((with_reducible show T _ _ (.Compare _ [_] _ _) _ _); refine t_cmp (h := ?_))
  | ((with_reducible show T _ _ (.Compare _ [_, _] _ _) _ _); refine t_chain (h := ?_))
  | ((with_reducible show T _ _ (.UnaryOp .Not _ _) _ _); refine t_not ?_)
  | ((with_reducible show T _ _ (.Call _ _ _ _) _ _); refine t_val ?_)
  | ((with_reducible show T _ _ (.BoolOp .And _ _) _ _); refine t_w ?_)
  | ((with_reducible show T _ _ (.BoolOp .Or _ _) _ _); refine t_w ?_)
  | ((with_reducible show T _ _ (.Name _ _) _ _); refine t_val ?_)
  | ((with_reducible show TW _ _ (.BoolOp .And [_] _) _ _); refine tw_and1 ?_)
  | ((with_reducible show TW _ _ (.BoolOp .Or [_] _) _ _); refine tw_or1 ?_)
  | ((with_reducible show TW _ _ (.BoolOp .And (_ :: _ :: _) _) _ _); refine tw_and ?_)
  | ((with_reducible show TW _ _ (.BoolOp .Or (_ :: _ :: _) _) _ _); refine tw_or ?_)
  | ((with_reducible show WS _ _ (.Return (some _) _) _ _); refine ws_ret ?_)
  | ((with_reducible show WS _ _ (.If _ _ _ _) _ _); refine ws_if ?_)
  | ((with_reducible show WS _ _ (.Pass _) _ _); refine ws_pass ?_)
  | ((with_reducible show WA _ _ [] _ _); refine wa_nil ?_)
  | ((with_reducible show WA _ _ (_ :: _) _ _); refine wa_cons ?_)
  | ((with_reducible show WK _ _ [] _ _); refine wk_nil ?_)
  | ((with_reducible show WK _ _ (_ :: _) _ _); refine wk_cons ?_)
  | ((with_reducible show WP _ _ none _ _); refine wp_none ?_)
  | ((with_reducible show WP _ _ (some _) _ _); refine wp_some ?_)
  | ((with_reducible show WB _ _ [] _ _); refine wb_nil ?_)
  | ((with_reducible show WB _ _ (_ :: _) _ _); refine wb_cons ?_)
  | ((with_reducible show WB _ _ (defBody _) _ _); refine wb_cons ?_)
  | ((with_reducible show ∃ z, OpD _ (binaryOp .Add) (.int _) (.int _) z ∧ _); refine ⟨_, od_add, ?_⟩)
  | ((with_reducible show ∃ z, OpD _ (binaryOp .Sub) (.int _) (.int _) z ∧ _); refine ⟨_, od_sub, ?_⟩)
  | ((with_reducible show ∃ z, OpD _ (compareOp .Lt) (.int _) (.int _) z ∧ _); refine ⟨_, od_lt, ?_⟩)
  | ((with_reducible show ∃ z, OpD _ (compareOp .Lt) (.int _) (.int _) (.bool z) ∧ _); refine ⟨_, od_lt, ?_⟩)
  | ((with_reducible show ∃ z, OpD _ (compareOp .LtE) (.int _) (.int _) z ∧ _); refine ⟨_, od_le, ?_⟩)
  | ((with_reducible show ∃ z, OpD _ (compareOp .LtE) (.int _) (.int _) (.bool z) ∧ _); refine ⟨_, od_le, ?_⟩)
  | ((with_reducible show ∃ z, OpD _ (compareOp .Gt) (.int _) (.int _) z ∧ _); refine ⟨_, od_gt, ?_⟩)
  | ((with_reducible show ∃ z, OpD _ (compareOp .Gt) (.int _) (.int _) (.bool z) ∧ _); refine ⟨_, od_gt, ?_⟩)
  | ((with_reducible show ∃ z, OpD _ (compareOp .GtE) (.int _) (.int _) z ∧ _); refine ⟨_, od_ge, ?_⟩)
  | ((with_reducible show ∃ z, OpD _ (compareOp .GtE) (.int _) (.int _) (.bool z) ∧ _); refine ⟨_, od_ge, ?_⟩)
  | ((with_reducible show ∃ z, OpD _ (compareOp .Eq) (.int _) (.int _) z ∧ _); refine ⟨_, od_eqI, ?_⟩)
  | ((with_reducible show ∃ z, OpD _ (compareOp .Eq) (.int _) (.int _) (.bool z) ∧ _); refine ⟨_, od_eqI, ?_⟩)
  | ((with_reducible show ∃ z, OpD _ (compareOp .NotEq) (.int _) (.int _) z ∧ _); refine ⟨_, od_neI, ?_⟩)
  | ((with_reducible show ∃ z, OpD _ (compareOp .NotEq) (.int _) (.int _) (.bool z) ∧ _); refine ⟨_, od_neI, ?_⟩)
  | ((with_reducible show ∃ z, OpD _ (compareOp .Is) (.bool _) (.bool _) z ∧ _); refine ⟨_, od_isB, ?_⟩)
  | ((with_reducible show ∃ z, OpD _ (compareOp .Is) (.bool _) (.bool _) (.bool z) ∧ _); refine ⟨_, od_isB, ?_⟩)
  | ((with_reducible show ∃ z, OpD _ (compareOp .IsNot) (.bool _) (.bool _) z ∧ _); refine ⟨_, od_notB, ?_⟩)
  | ((with_reducible show ∃ z, OpD _ (compareOp .IsNot) (.bool _) (.bool _) (.bool z) ∧ _); refine ⟨_, od_notB, ?_⟩)
  | ((with_reducible show ∃ z, OpD _ (binaryOp .Pow) (.int _) (.int _) z ∧ _); refine ⟨_, od_pow (by exact ⟨by decide, by decide, by decide⟩), ?_⟩)
  | ((with_reducible show ∃ z, OpD _ (compareOp .NotEq) (.str _) (.str _) (.bool z) ∧ _); refine ⟨_, od_neS, ?_⟩)
  | ((with_reducible show ∃ z, OpD _ (compareOp .Eq) (.str _) (.str _) (.bool z) ∧ _); refine ⟨_, od_eqS, ?_⟩)
  | ((with_reducible show ∃ z, OpD _ (compareOp .Eq) (.str _) (.str _) z ∧ _); refine ⟨_, od_eqS, ?_⟩)
  | ((with_reducible show ∃ z, UnD _ (unaryOp .USub) (.int _) z ∧ _); refine ⟨_, ud_neg, ?_⟩)
  | ((with_reducible show ∃ i, PyData.int _ = PyData.int i ∧ _); refine ⟨_, rfl, ?_⟩)
  | ((with_reducible show ∃ i, PyData.bool _ = PyData.bool i ∧ _); refine ⟨_, rfl, ?_⟩)
  | ((with_reducible show ∃ i, PyData.tuple _ = PyData.tuple i ∧ _); refine ⟨_, rfl, ?_⟩)
  | ((with_reducible show ∃ i, PyData.list _ = PyData.list i ∧ _); refine ⟨_, rfl, ?_⟩)
  | ((with_reducible show List.length [_] ≤ sizeLine ∧ _); refine ⟨len_le1, ?_⟩)
  | ((with_reducible show List.length [_, _] ≤ sizeLine ∧ _); refine ⟨len_le2, ?_⟩)
  | ((with_reducible show List.length [_, _, _] ≤ sizeLine ∧ _); refine ⟨len_le3, ?_⟩))
section
variable {P : Program} {w : World} {K : PySem.W.Frag} {mg : Str → Option Value} {base : Heap} {f : Addr} {fd : FuncData}
def okl (x : Sl) : Prop := isOwn x = false ∧ ∀ kvs, x ≠ .fd kvs
theorem okl_d (d : D) : okl (.d d) := ⟨rfl, fun _ h => by cases h⟩
theorem okl_no : okl .no := ⟨rfl, fun _ h => by cases h⟩
theorem noOwn5 {a b x : Sl} (h : okl x) : noOwn [a, b, x, .no, .no] [2] = true := by
  obtain ⟨h1, h2⟩ := h
  cases x with
  | fd kvs => exact absurd rfl (h2 kvs)
  | own ds => cases h1
  | od ds => cases h1
  | oda _ _ => cases h1
  | _ => rfl
theorem noOwn5b {a b x y : Sl} (h : okl x) : noOwn [a, b, x, y, .no] [4] = true := rfl
theorem outEm {R : D → D → Prop} : ∀ {ds out : List D}, Paired R ds out → out.isEmpty = ds.isEmpty
  | _, _, .nil => rfl
  | _, _, .cons _ _ => rfl
abbrev s__law_is_show : Stmt := topS 95
abbrev n__law_is_show : List Str := ["_law_r", "_law_thing", "_law_it", "_law_keys", "_law_at"]
theorem sc__law_is_show : FnScope ["_law_r", "_law_thing", "_law_it", "_law_keys", "_law_at"] ["_law_r", "_law_thing"] (defScope s__law_is_show) := ⟨rfl, rfl, rfl, by decide +kernel, rfl, by decide +kernel, by decide +kernel⟩
theorem showF1 {r : Int} {ds : List D} {i : Nat} {v : D} (h : ds[i]? = some v) (e : tripB r v = false) : showB r (.tuple ds) = false := by
  have : ds.all (tripB r) = false := by
    rw [List.all_eq_false]
    exact ⟨v, List.mem_of_getElem? h, by rw [e]; exact Bool.false_ne_true⟩
  simp [showB, this]
theorem showF1q {r : Int} {ds : List D} {i : Nat} {v : D} (h : ds[i]? = some v) (e : tripB r v = false) : PyData.bool false = PyData.bool (showB r (.tuple ds)) := by rw [showF1 h e]
theorem all_takeD {p : D → Bool} {l : List D} {i : Nat} {t : D} (h : (l.take i).all p = true) (ht : l[i]? = some t) (hp : p t = true) : (l.take (i + 1)).all p = true := by
  rw [take_snoc ht, List.all_append, h, List.all_cons, hp]; rfl
theorem len3_of' (ds : List D) (h : ds.length = 3) : ∃ a b c, ds = [a, b, c] := by
  match ds, h with
  | [a, b, c], _ => exact ⟨a, b, c, rfl⟩
theorem trip_ne' (r : Int) (ds : List D) (h : ds.length ≠ 3) : tripB r (.tuple ds) = false := by
  unfold tripB
  split
  · rename_i e; injection e with e; rw [e] at h; exact (h rfl).elim
  · rfl
/-- at this place the key is not above the one ahead -/
def upB (s : List Tp) (d : D) : Bool := match d with
  | .int i => match s[(i - 1).toNat]?, s[i.toNat]? with
    | some t, some u => !dataLt (dK t.1) (dK u.1)
    | _, _ => false
  | _ => false
theorem upB_at {s : List Tp} {i : Nat} {t u : Tp} (h1 : s[i]? = some t) (h2 : s[i + 1]? = some u) : upB s (.int ((i : Int) + 1)) = !dataLt (dK t.1) (dK u.1) := by
  unfold upB
  have e1 : ((i : Int) + 1 - 1).toNat = i := by omega
  have e2 : ((i : Int) + 1).toNat = i + 1 := by omega
  simp only [e1, e2, h1, h2]
theorem asc_iff : ∀ (s : List Tp), ascB ((s.map dT).map keyD) = true ↔ ∀ (i : Nat) (t u : Tp), s[i]? = some t → s[i + 1]? = some u → dataLt (dK t.1) (dK u.1) = true
  | [] => ⟨fun _ i t u h => by simp at h, fun _ => rfl⟩
  | [a] => ⟨fun _ i t u h g => by simp at g, fun _ => rfl⟩
  | a :: b :: s => by
    have ih := asc_iff (b :: s)
    show (dataLt (dK a.1) (dK b.1) && ascB (((b :: s).map dT).map keyD)) = true ↔ _
    rw [Bool.and_eq_true, ih]
    constructor
    · rintro ⟨h1, h2⟩ i t u ht hu
      cases i with
      | zero => simp at ht hu; subst ht hu; exact h1
      | succ i => exact h2 i t u (by simpa using ht) (by simpa using hu)
    · intro h
      exact ⟨h 0 a b rfl rfl, fun i t u ht hu => h (i + 1) t u (by simpa using ht) (by simpa using hu)⟩
theorem up_em (s : List Tp) : ((irng 1 (s.length - 1)).filter (upB s)).isEmpty = ascB ((s.map dT).map keyD) := by
  rw [Bool.eq_iff_iff, List.isEmpty_iff, List.filter_eq_nil_iff, asc_iff]
  constructor
  · intro h i t u ht hu
    have hl := (List.getElem?_eq_some_iff.mp hu).1
    have hm : PyData.int ((i : Int) + 1) ∈ irng 1 (s.length - 1) := by
      unfold irng
      exact List.mem_map.mpr ⟨i, List.mem_range.mpr (by omega), by rw [Int.add_comm]⟩
    have := h _ hm
    rw [upB_at ht hu] at this
    simpa using this
  · intro h d hd
    unfold irng at hd
    obtain ⟨i, hi, rfl⟩ := List.mem_map.mp hd
    have hi := List.mem_range.mp hi
    have h1 : i < s.length := by omega
    have h2 : i + 1 < s.length := by omega
    rw [Int.add_comm, upB_at (List.getElem?_eq_getElem h1) (List.getElem?_eq_getElem h2)]
    rw [h i _ _ (List.getElem?_eq_getElem h1) (List.getElem?_eq_getElem h2)]
    exact Bool.false_ne_true
theorem outKs {s : List Tp} {out : List D} (h : Paired (fun d r => ∃ t : Tp, d = dT t ∧ r = dK t.1) (s.map dT) out) : out = s.map fun t => dK t.1 := by
  induction s generalizing out with
  | nil => cases h; rfl
  | cons a s ih =>
    rw [List.map_cons] at h
    cases h with
    | cons q r =>
      obtain ⟨t, e1, e2⟩ := q
      rw [ih r, List.map_cons, e2]
      injection e1 with e1; injection e1 with ea e1; injection e1 with eb _
      injection eb with eb
      have : t.1 = a.1 := Prod.ext (K9.iv_inj ea).symm eb.symm
      rw [this]
theorem ok__law_is_show (B : A3.Be mg) (F : Fun K "_law_is_show" "_law_is_show" s__law_is_show f fd) (k1 : KnP P w K mg base "_law_is_room" 88 2 ["_law_r", "_law_thing"] (SpAny K roomB)) (k2 : KnP P w K mg base "_law_is_integer" 87 1 ["_law_thing"] (SpW K)) : FnG P w K mg base 3 f fd ["_law_r", "_law_thing"] (SpAny K showB) := by
  refine ok_pu F sc__law_is_show (fun ds h => by obtain ⟨r, d, rfl, _⟩ := h; rfl) (by decide) fun cdv A outer s H E hr F ds hw h => ?_
  obtain ⟨r, d, rfl, ha⟩ := h
  repeat walk_at "dw"
  refine w_isA rfl B.b.isi PyProof.Rows.boot_isinstance rfl B.b.tup PyProof.Rows.boot_tuple ?_
  repeat walk_at "dw"
  refine ⟨isT d, ay_tup ha.choose_spec.2, _, rfl, ?_⟩
  cases d with
  | tuple ds =>
    obtain ⟨hl, hm⟩ := ha.mem
    refine iteF rfl ?_
    repeat walk_at "dw"
    refine ws_for (L := [2]) PassesOwn.never rfl (h := ?_)
    refine it_tup ?_
    repeat walk_at "dw"
    refine ⟨fun i es1 => ∃ x : Sl, es1 = [.d (.int r), .d (.tuple ds), x, .no, .no] ∧ okl x ∧ (ds.take i).all (tripB r) = true, ⟨_, rfl, okl_no, rfl⟩, fun i es1 v hv hp => ?_, fun es1 hp => ?_⟩
    · obtain ⟨x, rfl, _, h1⟩ := hp
      have av := hm v (List.mem_of_getElem? hv)
      refine tg_name (i := 2) sc__law_is_show.nd rfl (by first | exact .inl rfl | exact .inr rfl) (by exact (by decide : 2 < 5)) ?_
      repeat walk_at "dw"
      refine w_isA rfl B.b.isi PyProof.Rows.boot_isinstance rfl B.b.tup PyProof.Rows.boot_tuple ?_
      repeat walk_at "dw"
      refine ⟨isT v, ay_tup av.choose_spec.2, _, rfl, ?_⟩
      cases v with
      | tuple vs =>
        refine iteF rfl ?_
        repeat walk_at "dw"
        refine w_callB rfl B.b.len PySem.boot_len ?_
        repeat walk_at "dw"
        refine ⟨_, cd_len_t, ?_⟩
        repeat walk_at "dw"
        by_cases h3 : vs.length = 3
        · obtain ⟨a, b, c, rfl⟩ := len3_of' vs h3
          have hm3 := av.mem.2
          refine iteF rfl ?_
          repeat walk_at "dw"
          refine w_call k1 hr rfl ?_
          repeat walk_at "dw"
          refine w_ixT (h := ?_)
          repeat walk_at "dw"
          refine ⟨_, _, _, rfl, rfl, atI_nat (j := 0) rfl, ?_⟩
          repeat walk_at "dw"
          refine ⟨⟨r, a, rfl, hm3 a (by simp)⟩, fun v2 hv2 => ?_⟩
          obtain rfl := hv2 _ _ rfl
          refine ⟨_, rfl, ?_⟩
          cases ea : roomB r a with
          | false =>
            refine iteT rfl ?_
            repeat walk_at "dw"
            exact fin2 (showF1q (r := r) hv (by simp [tripB, ea]))
          | true =>
            refine iteF rfl ?_
            repeat walk_at "dw"
            refine w_call (k2.up (by decide)) hr rfl ?_
            repeat walk_at "dw"
            refine w_ixT (h := ?_)
            repeat walk_at "dw"
            refine ⟨_, _, _, rfl, rfl, atI_nat (j := 1) rfl, ?_⟩
            repeat walk_at "dw"
            refine ⟨⟨b, rfl, hm3 b (by simp)⟩, fun v2 hv2 => ?_⟩
            obtain rfl := hv2 _ rfl
            refine ⟨_, rfl, ?_⟩
            cases b with
            | int i' =>
              refine iteF rfl ?_
              repeat walk_at "dw"
              refine w_ixT (h := ?_)
              repeat walk_at "dw"
              refine ⟨_, _, _, rfl, rfl, atI_nat (j := 1) rfl, ?_⟩
              repeat walk_at "dw"
              by_cases g1 : 1 ≤ i'
              · refine iteT (decide_eq_true g1) ?_
                repeat walk_at "dw"
                by_cases g2 : i' ≤ r
                · refine iteF (by simp [g2]) ?_
                  repeat walk_at "dw"
                  refine w_call (k2.up (by decide)) hr rfl ?_
                  repeat walk_at "dw"
                  refine w_ixT (h := ?_)
                  repeat walk_at "dw"
                  refine ⟨_, _, _, rfl, rfl, atI_nat (j := 2) rfl, ?_⟩
                  repeat walk_at "dw"
                  refine ⟨⟨c, rfl, hm3 c (by simp)⟩, fun v2 hv2 => ?_⟩
                  obtain rfl := hv2 _ rfl
                  refine ⟨_, rfl, ?_⟩
                  cases c with
                  | int n =>
                    refine iteF rfl ?_
                    repeat walk_at "dw"
                    refine w_ixT (h := ?_)
                    repeat walk_at "dw"
                    refine ⟨_, _, _, rfl, rfl, atI_nat (j := 2) rfl, ?_⟩
                    repeat walk_at "dw"
                    by_cases hn : n = 0
                    · refine iteT (by simp [hn]) ?_
                      repeat walk_at "dw"
                      exact fin2 (showF1q (r := r) hv (by simp [tripB, nzB, hn]))
                    · refine iteF (by simp [hn]) ?_
                      repeat walk_at "dw"
                      exact ⟨_, rfl, okl_d _, all_takeD h1 hv (by simp [tripB, ea, dirB, g1, g2, nzB, hn])⟩
                  | _ =>
                    refine iteT rfl ?_
                    refine iteT rfl ?_
                    repeat walk_at "dw"
                    exact fin2 (showF1q (r := r) hv (by simp [tripB, nzB]))
                · refine iteT (by simp [g2]) ?_
                  repeat walk_at "dw"
                  refine iteT rfl ?_
                  repeat walk_at "dw"
                  exact fin2 (showF1q (r := r) hv (by simp [tripB, dirB, g2]))
              · refine iteF (decide_eq_false g1) ?_
                repeat walk_at "dw"
                refine iteT rfl ?_
                refine iteT rfl ?_
                repeat walk_at "dw"
                exact fin2 (showF1q (r := r) hv (by simp [tripB, dirB, g1]))
            | _ =>
              refine iteT rfl ?_
              refine iteT rfl ?_
              repeat walk_at "dw"
              exact fin2 (showF1q (r := r) hv (by simp [tripB, dirB]))
        · refine iteT (by simp; omega) ?_
          refine iteT rfl ?_
          repeat walk_at "dw"
          exact fin2 (showF1q (r := r) hv (trip_ne' r vs h3))
      | _ =>
        refine iteT rfl ?_
        refine iteT rfl ?_
        repeat walk_at "dw"
        exact fin2 (showF1q (r := r) hv rfl)
    · obtain ⟨x, rfl, hx, h1⟩ := hp
      rw [List.take_length] at h1
      obtain ⟨sh, rfl, hs⟩ := trips_of h1
      rw [List.length_map] at hl
      repeat walk_at "dw"
      refine ws_set (i := 3) sc__law_is_show.nd rfl (by first | exact .inl rfl | exact .inr rfl) (by exact (by decide : 3 < 5)) ?_
      refine w_l (wl_lc [("_law_it", 2)] (L := [2]) rfl sc__law_is_show.nd (blkOk_by (N := n__law_is_show) (sc := defScope s__law_is_show) (by decide +kernel)) (by decide) (noOwn5 hx) (h := ?_))
      refine lc_map (fun d r => ∃ t : Tp, d = dT t ∧ r = dK t.1) ?_
      refine it_tup ?_
      repeat walk_at "dw"
      refine ⟨by rw [List.length_map, sizeLine_eq]; omega, fun d hd F' e1 e2 s H C cl fp => ?_, fun out ho => ?_⟩
      · obtain ⟨t, ht, rfl⟩ := List.mem_map.mp hd
        refine tg_name (i := 2) sc__law_is_show.nd rfl (by first | exact .inl rfl | exact .inr rfl) (by exact (by decide : 2 < 5)) ?_
        intro s H C cl fp
        repeat walk_at "dw"
        refine w_slT ?_
        repeat walk_at "dw"
        exact ⟨t, rfl, by rw [show DW.cutD [iv t.1.1, PyData.int t.1.2, .int t.2] none (some 2) = [iv t.1.1, PyData.int t.1.2] from cut_hi [iv t.1.1, PyData.int t.1.2, .int t.2] 2]⟩
      have eo := outKs ho
      subst eo
      repeat walk_at "dw"
      refine w_l (wl_lc [("_law_at", 4)] (L := [4]) rfl sc__law_is_show.nd (blkOk_by (N := n__law_is_show) (sc := defScope s__law_is_show) (by decide +kernel)) (by decide) (noOwn5b hx) (h := ?_))
      refine lc_filt (upB sh) (fun d r => True) ?_
      refine it_range2 rfl B.b.range ?_
      repeat walk_at "dw"
      refine w_callB rfl B.b.len PySem.boot_len ?_
      repeat walk_at "dw"
      refine ⟨_, cd_len_l, ?_⟩
      repeat walk_at "dw"
      rw [List.length_map]
      refine ⟨_, _, rfl, ⟨by decide, by decide, by omega, by omega⟩, ?_⟩
      rw [show ((sh.length : Int) - 1).toNat = sh.length - 1 by omega]
      refine ⟨by rw [irng_len, sizeLine_eq]; omega, fun d hd F' e1 e2 s H C cl fp => ?_, fun out ho => ?_⟩
      · unfold irng at hd
        obtain ⟨i, hi, rfl⟩ := List.mem_map.mp hd
        have hi := List.mem_range.mp hi
        have i1 : i < sh.length := by omega
        have i2 : i + 1 < sh.length := by omega
        refine tg_name (i := 4) sc__law_is_show.nd rfl (by first | exact .inl rfl | exact .inr rfl) (by exact (by decide : 4 < 5)) ?_
        refine ⟨?_, fun hp => ?_⟩
        · intro s H C cl fp
          repeat walk_at "dw"
          refine w_ixL (h := ?_)
          repeat walk_at "dw"
          refine ⟨_, _, _, rfl, rfl, by rw [show ((1 : Int) + (i : Int) - 1) = ((i : Nat) : Int) by omega]; exact atI_nat (j := i) (by rw [List.getElem?_map, List.getElem?_eq_getElem i1]; rfl), ?_⟩
          repeat walk_at "dw"
          refine w_ixL (h := ?_)
          repeat walk_at "dw"
          refine ⟨_, _, _, rfl, rfl, by rw [show ((1 : Int) + (i : Int)) = ((i + 1 : Nat) : Int) by omega]; exact atI_nat (j := i + 1) (by rw [List.getElem?_map, List.getElem?_eq_getElem i2]; rfl), ?_⟩
          refine ⟨_, od_geD hr.ro.units (alike_dK sh[i].1 sh[i + 1].1) (fun z => nomatch z) (Nat.le_trans (Nat.min_le_left _ _) (depth_dK sh[i].1)) (alike_dK sh[i].1 sh[i].1) (alike_dK sh[i + 1].1 sh[i + 1].1), ?_⟩
          rw [show ((1 : Int) + (i : Int)) = (i : Int) + 1 by omega, upB_at (List.getElem?_eq_getElem i1) (List.getElem?_eq_getElem i2)]
        · intro s H C cl fp
          repeat walk_at "dw"
          trivial
      · repeat walk_at "dw"
        refine w_l (wl_lst ?_)
        repeat walk_at "dw"
        refine ⟨Nat.zero_le _, ?_⟩
        refine ⟨_, od_eqL0 hr.ro.units, ?_⟩
        have e0 : out.isEmpty = ascB ((sh.map dT).map keyD) := by rw [← up_em]; exact outEm ho
        rw [e0]
        exact fin2 (by simp only [showB]; rw [h1]; rfl)
  | _ =>
    refine iteT rfl ?_
    repeat walk_at "dw"
    exact fin2 rfl
end
end A7
namespace A7
open PySem PySem.W L2 RZ PyProof.Rows DW K9 K4 A3
section
variable {P : Program} {w : World} {K : PySem.W.Frag} {mg : Str → Option Value} {base : Heap} {f : Addr} {fd : FuncData}
abbrev s__law_spoilt : Stmt := topS 100
abbrev n__law_spoilt : List Str := ["_law_deck_here", "_law_r", "_law_show_here", "_law_at", "_law_room_here", "_law_i", "_law_number", "_law_less", "_law_odd_here", "_law_thing", "_law_way"]
theorem sc__law_spoilt : FnScope ["_law_deck_here", "_law_r", "_law_show_here", "_law_at", "_law_room_here", "_law_i", "_law_number", "_law_less", "_law_odd_here", "_law_thing", "_law_way"] ["_law_deck_here", "_law_r", "_law_show_here"] (defScope s__law_spoilt) := ⟨rfl, rfl, rfl, by decide +kernel, rfl, by decide +kernel, by decide +kernel⟩
theorem ok_spoilt (B : A3.Be mg) (F : Fun K "_law_spoilt" "_law_spoilt" s__law_spoilt f fd) (k1 : KnP P w K mg base "_law_draw" 81 1 ["_law_deck_here", "_law_many"] SpDraw) (k2 : KnP P w K mg base "_law_pick" 82 2 ["_law_deck_here", "_law_some"] SpPick) : FnG P w K mg base 3 f fd ["_law_deck_here", "_law_r", "_law_show_here"] (Dr (Tup [(TI 1 4), (TV (TT [(TV (TI (-10000000000000000000000000000000000000000000000000000000000000000000000000000000000000000000000000000000000000000000000000) 10000000000000000000000000000000000000000000000000000000000000000000000000000000000000000000000000000000000000000000000000) 1 4), (TI 1 4), (TI (-10000000000000000000000000000000000000000000000000000000000000000000000000000000000000000000000000000000000000000000000000) 10000000000000000000000000000000000000000000000000000000000000000000000000000000000000000000000000000000000000000000000000)]) 1 300)]) (fun _ d => (A3.Wd K 0) d)) := by
  refine ok_dr F sc__law_spoilt (fun ds h => by have := tup_len h; simp only [List.length_cons, List.length_nil] at this ⊢; omega) (by decide) fun cdv A outer s H E hr F ds hw h => ?_
  obtain _ | ⟨q0, h⟩ := h
  obtain _ | ⟨q1, h⟩ := h
  cases h
  refine bt_run (τ := [.dk, .d (TI 1 4), .d (TV (TT [(TV (TI (-10000000000000000000000000000000000000000000000000000000000000000000000000000000000000000000000000000000000000000000000000) 10000000000000000000000000000000000000000000000000000000000000000000000000000000000000000000000000000000000000000000000000) 1 4), (TI 1 4), (TI (-10000000000000000000000000000000000000000000000000000000000000000000000000000000000000000000000000000000000000000000000000) 10000000000000000000000000000000000000000000000000000000000000000000000000000000000000000000000000000000000000000000000000)]) 1 300), .no, .no, .no, .no, .no, .no, .no, .no]) (τ' := NEV) (R := (A3.Wd K 0)) ?_ (.cons rfl (.cons ⟨_, rfl, q0⟩ (.cons ⟨_, rfl, q1⟩ (.cons (.inl rfl) (.cons (.inl rfl) (.cons (.inl rfl) (.cons (.inl rfl) (.cons (.inl rfl) (.cons (.inl rfl) (.cons (.inl rfl) (.cons (.inl rfl) .nil))))))))))) (fun _ z => (nev z).elim) (fun _ q => q)
  refine bt_fix (i := 2) rfl fun n n1 n2 => ?_
  refine bt_cons (τ1 := [.dk, .d (TI 1 4), .d (TV (TT [(TV (TI (-10000000000000000000000000000000000000000000000000000000000000000000000000000000000000000000000000000000000000000000000000) 10000000000000000000000000000000000000000000000000000000000000000000000000000000000000000000000000000000000000000000000000) 1 4), (TI 1 4), (TI (-10000000000000000000000000000000000000000000000000000000000000000000000000000000000000000000000000000000000000000000000000) 10000000000000000000000000000000000000000000000000000000000000000000000000000000000000000000000000000000000000000000000000)]) n n), .d (TI 0 (n - 1)), .no, .no, .no, .no, .no, .no, .no]) (st_set (i := 3) (t := (TI 0 (n - 1))) (WT.sub (u := (TI 0 (n - 1))) (t_callk (i := 0) (k1.up (by decide)) hr (by rfl) (by rfl) (wat_cons (WT.sub (u := (TI n n)) (t_len B.b.len (by rfl) (t_var (i := 2) (t := (TV (TT [(TV (TI (-10000000000000000000000000000000000000000000000000000000000000000000000000000000000000000000000000000000000000000000000000) 10000000000000000000000000000000000000000000000000000000000000000000000000000000000000000000000000000000000000000000000000) 1 4), (TI 1 4), (TI (-10000000000000000000000000000000000000000000000000000000000000000000000000000000000000000000000000000000000000000000000000) 10000000000000000000000000000000000000000000000000000000000000000000000000000000000000000000000000000000000000000000000000)]) n n)) rfl)) (sb_I (by omega) (by omega))) wat_nil) (ap_draw (by omega) (by omega))) (sb_I (by omega) (by omega))) sc__law_spoilt.nd rfl (by first | exact .inl rfl | exact .inr rfl) (by show 3 < 11; decide)) ?_
  refine bt_cons (τ1 := [.dk, .d (TI 1 4), .d (TV (TT [(TV (TI (-10000000000000000000000000000000000000000000000000000000000000000000000000000000000000000000000000000000000000000000000000) 10000000000000000000000000000000000000000000000000000000000000000000000000000000000000000000000000000000000000000000000000) 1 4), (TI 1 4), (TI (-10000000000000000000000000000000000000000000000000000000000000000000000000000000000000000000000000000000000000000000000000) 10000000000000000000000000000000000000000000000000000000000000000000000000000000000000000000000000000000000000000000000000)]) n n), .d (TI 0 (n - 1)), .d (TV (TI (-10000000000000000000000000000000000000000000000000000000000000000000000000000000000000000000000000000000000000000000000000) 10000000000000000000000000000000000000000000000000000000000000000000000000000000000000000000000000000000000000000000000000) 1 4), .d (TI 1 4), .d (TI (-10000000000000000000000000000000000000000000000000000000000000000000000000000000000000000000000000000000000000000000000000) 10000000000000000000000000000000000000000000000000000000000000000000000000000000000000000000000000000000000000000000000000), .no, .no, .no, .no]) (st_unpack (t_ix (t_var (i := 2) (t := (TV (TT [(TV (TI (-10000000000000000000000000000000000000000000000000000000000000000000000000000000000000000000000000000000000000000000000000) 10000000000000000000000000000000000000000000000000000000000000000000000000000000000000000000000000000000000000000000000000) 1 4), (TI 1 4), (TI (-10000000000000000000000000000000000000000000000000000000000000000000000000000000000000000000000000000000000000000000000000) 10000000000000000000000000000000000000000000000000000000000000000000000000000000000000000000000000000000000000000000000000)]) n n)) rfl) (t_var (i := 3) (t := (TI 0 (n - 1))) rfl) (by omega) (by omega)) (tgt_tup rfl rfl (tglt_cons (tgt_name (i := 4) sc__law_spoilt.nd rfl (by first | exact .inl rfl | exact .inr rfl) (by show 4 < 11; decide)) (tglt_cons (tgt_name (i := 5) sc__law_spoilt.nd rfl (by first | exact .inl rfl | exact .inr rfl) (by show 5 < 11; decide)) (tglt_cons (tgt_name (i := 6) sc__law_spoilt.nd rfl (by first | exact .inl rfl | exact .inr rfl) (by show 6 < 11; decide)) tglt_nil))))) ?_
  refine bt_cons (τ1 := [.dk, .d (TI 1 4), .d (TV (TT [(TV (TI (-10000000000000000000000000000000000000000000000000000000000000000000000000000000000000000000000000000000000000000000000000) 10000000000000000000000000000000000000000000000000000000000000000000000000000000000000000000000000000000000000000000000000) 1 4), (TI 1 4), (TI (-10000000000000000000000000000000000000000000000000000000000000000000000000000000000000000000000000000000000000000000000000) 10000000000000000000000000000000000000000000000000000000000000000000000000000000000000000000000000000000000000000000000000)]) n n), .d (TI 0 (n - 1)), .d (TV (TI (-10000000000000000000000000000000000000000000000000000000000000000000000000000000000000000000000000000000000000000000000000) 10000000000000000000000000000000000000000000000000000000000000000000000000000000000000000000000000000000000000000000000000) 1 4), .d (TI 1 4), .d (TI (-10000000000000000000000000000000000000000000000000000000000000000000000000000000000000000000000000000000000000000000000000) 10000000000000000000000000000000000000000000000000000000000000000000000000000000000000000000000000000000000000000000000000), .d (TI (-10000000000000000000000000000000000000000000000000000000000000000000000000000000000000000000000000000000000000000000000000) 10000000000000000000000000000000000000000000000000000000000000000000000000000000000000000000000000000000000000000000000000), .no, .no, .no]) (st_set (i := 7) (t := (TI (-10000000000000000000000000000000000000000000000000000000000000000000000000000000000000000000000000000000000000000000000000) 10000000000000000000000000000000000000000000000000000000000000000000000000000000000000000000000000000000000000000000000000)) (t_if (ct_lt (t_abs B.b.abs (by rfl) (m := 10000000000000000000000000000000000000000000000000000000000000000000000000000000000000000000000000000000000000000000000000) (by omega) (by omega) (t_var (i := 6) (t := (TI (-10000000000000000000000000000000000000000000000000000000000000000000000000000000000000000000000000000000000000000000000000) 10000000000000000000000000000000000000000000000000000000000000000000000000000000000000000000000000000000000000000000000000)) rfl)) (t_pow (z := 10000000000000000000000000000000000000000) ⟨by decide, by decide, by decide⟩ (by decide +kernel))) (t_var (i := 6) (t := (TI (-10000000000000000000000000000000000000000000000000000000000000000000000000000000000000000000000000000000000000000000000000) 10000000000000000000000000000000000000000000000000000000000000000000000000000000000000000000000000000000000000000000000000)) rfl) (WT.sub (u := (TI (-10000000000000000000000000000000000000000000000000000000000000000000000000000000000000000000000000000000000000000000000000) 10000000000000000000000000000000000000000000000000000000000000000000000000000000000000000000000000000000000000000000000000)) (t_pow (z := 1000000000000000000000000000000000000000) ⟨by decide, by decide, by decide⟩ (by decide +kernel)) (sb_I (by omega) (by omega)))) sc__law_spoilt.nd rfl (by first | exact .inl rfl | exact .inr rfl) (by show 7 < 11; decide)) ?_
  refine bt_cons (τ1 := [.dk, .d (TI 1 4), .d (TV (TT [(TV (TI (-10000000000000000000000000000000000000000000000000000000000000000000000000000000000000000000000000000000000000000000000000) 10000000000000000000000000000000000000000000000000000000000000000000000000000000000000000000000000000000000000000000000000) 1 4), (TI 1 4), (TI (-10000000000000000000000000000000000000000000000000000000000000000000000000000000000000000000000000000000000000000000000000) 10000000000000000000000000000000000000000000000000000000000000000000000000000000000000000000000000000000000000000000000000)]) n n), .d (TI 0 (n - 1)), .d (TV (TI (-10000000000000000000000000000000000000000000000000000000000000000000000000000000000000000000000000000000000000000000000000) 10000000000000000000000000000000000000000000000000000000000000000000000000000000000000000000000000000000000000000000000000) 1 4), .d (TI 1 4), .d (TI (-10000000000000000000000000000000000000000000000000000000000000000000000000000000000000000000000000000000000000000000000000) 10000000000000000000000000000000000000000000000000000000000000000000000000000000000000000000000000000000000000000000000000), .d (TI (-10000000000000000000000000000000000000000000000000000000000000000000000000000000000000000000000000000000000000000000000000) 10000000000000000000000000000000000000000000000000000000000000000000000000000000000000000000000000000000000000000000000000), .d (LV (A3.Wd K 0) 6 6), .no, .no]) (st_set (i := 8) (t := (LV (A3.Wd K 0) 6 6)) (t_l (lt_lst (t := (A3.Wd K 0)) (wat_cons (t_tup (wat_cons (t_var (i := 4) (t := (TV (TI (-10000000000000000000000000000000000000000000000000000000000000000000000000000000000000000000000000000000000000000000000000) 10000000000000000000000000000000000000000000000000000000000000000000000000000000000000000000000000000000000000000000000000) 1 4)) rfl) (wat_cons (t_var (i := 5) (t := (TI 1 4)) rfl) (wat_cons (WT.sub (u := (TI (-4999999999999999999999999999999999999999999999999999999999999999999999999999999999999999999999999999999999999999999999999) 5000000000000000000000000000000000000000000000000000000000000000000000000000000000000000000000000000000000000000000000001)) (t_add (WT.sub (u := (TI (-5000000000000000000000000000000000000000000000000000000000000000000000000000000000000000000000000000000000000000000000000) 5000000000000000000000000000000000000000000000000000000000000000000000000000000000000000000000000000000000000000000000000)) (t_fdiv (t_var (i := 7) (t := (TI (-10000000000000000000000000000000000000000000000000000000000000000000000000000000000000000000000000000000000000000000000000) 10000000000000000000000000000000000000000000000000000000000000000000000000000000000000000000000000000000000000000000000000)) rfl) (by decide) (by decide)) (sb_I (by decide) (by decide))) t_intI) (sb_I (by omega) (by omega))) wat_nil))) (by show 3 ≤ 1000; decide)) (wat_cons (t_tup (wat_cons (t_var (i := 4) (t := (TV (TI (-10000000000000000000000000000000000000000000000000000000000000000000000000000000000000000000000000000000000000000000000000) 10000000000000000000000000000000000000000000000000000000000000000000000000000000000000000000000000000000000000000000000000) 1 4)) rfl) (wat_cons (t_var (i := 5) (t := (TI 1 4)) rfl) (wat_cons (WT.sub (u := (TI (-10000000000000000000000000000000000000000000000000000000000000000000000000000000000000000000000000000000000000000000000000) 10000000000000000000000000000000000000000000000000000000000000000000000000000000000000000000000000000000000000000000000000)) (t_neg (t_var (i := 7) (t := (TI (-10000000000000000000000000000000000000000000000000000000000000000000000000000000000000000000000000000000000000000000000000) 10000000000000000000000000000000000000000000000000000000000000000000000000000000000000000000000000000000000000000000000000)) rfl)) (sb_I (by omega) (by omega))) wat_nil))) (by show 3 ≤ 1000; decide)) (wat_cons (t_tup (wat_cons (t_var (i := 4) (t := (TV (TI (-10000000000000000000000000000000000000000000000000000000000000000000000000000000000000000000000000000000000000000000000000) 10000000000000000000000000000000000000000000000000000000000000000000000000000000000000000000000000000000000000000000000000) 1 4)) rfl) (wat_cons (t_var (i := 5) (t := (TI 1 4)) rfl) (wat_cons t_intI wat_nil))) (by show 3 ≤ 1000; decide)) (wat_cons (t_tup (wat_cons (t_var (i := 4) (t := (TV (TI (-10000000000000000000000000000000000000000000000000000000000000000000000000000000000000000000000000000000000000000000000000) 10000000000000000000000000000000000000000000000000000000000000000000000000000000000000000000000000000000000000000000000000) 1 4)) rfl) (wat_cons (WT.sub (u := (TI 2 5)) (t_add (t_var (i := 1) (t := (TI 1 4)) rfl) t_intI) (sb_I (by omega) (by omega))) (wat_cons (t_var (i := 6) (t := (TI (-10000000000000000000000000000000000000000000000000000000000000000000000000000000000000000000000000000000000000000000000000) 10000000000000000000000000000000000000000000000000000000000000000000000000000000000000000000000000000000000000000000000000)) rfl) wat_nil))) (by show 3 ≤ 1000; decide)) (wat_cons (t_tup (wat_cons (t_var (i := 4) (t := (TV (TI (-10000000000000000000000000000000000000000000000000000000000000000000000000000000000000000000000000000000000000000000000000) 10000000000000000000000000000000000000000000000000000000000000000000000000000000000000000000000000000000000000000000000000) 1 4)) rfl) (wat_cons t_intI (wat_cons (t_var (i := 6) (t := (TI (-10000000000000000000000000000000000000000000000000000000000000000000000000000000000000000000000000000000000000000000000000) 10000000000000000000000000000000000000000000000000000000000000000000000000000000000000000000000000000000000000000000000000)) rfl) wat_nil))) (by show 3 ≤ 1000; decide)) (wat_cons (t_tup (wat_cons (t_var (i := 4) (t := (TV (TI (-10000000000000000000000000000000000000000000000000000000000000000000000000000000000000000000000000000000000000000000000000) 10000000000000000000000000000000000000000000000000000000000000000000000000000000000000000000000000000000000000000000000000) 1 4)) rfl) (wat_cons (WT.sub (u := (TI (-4) (-1))) (t_neg (t_var (i := 5) (t := (TI 1 4)) rfl)) (sb_I (by omega) (by omega))) (wat_cons (t_var (i := 6) (t := (TI (-10000000000000000000000000000000000000000000000000000000000000000000000000000000000000000000000000000000000000000000000000) 10000000000000000000000000000000000000000000000000000000000000000000000000000000000000000000000000000000000000000000000000)) rfl) wat_nil))) (by show 3 ≤ 1000; decide)) wat_nil)))))) (alls_cons (wd_T (alls_cons (wd_V (wd_I (by omega) (by omega)) (by omega)) (alls_cons (wd_I (by omega) (by omega)) (alls_cons (wd_I (by omega) (by omega)) alls_nil))) (by show 3 ≤ 3000; decide)) (alls_cons (wd_T (alls_cons (wd_V (wd_I (by omega) (by omega)) (by omega)) (alls_cons (wd_I (by omega) (by omega)) (alls_cons (wd_I (by omega) (by omega)) alls_nil))) (by show 3 ≤ 3000; decide)) (alls_cons (wd_T (alls_cons (wd_V (wd_I (by omega) (by omega)) (by omega)) (alls_cons (wd_I (by omega) (by omega)) (alls_cons (wd_I (by omega) (by omega)) alls_nil))) (by show 3 ≤ 3000; decide)) (alls_cons (wd_T (alls_cons (wd_V (wd_I (by omega) (by omega)) (by omega)) (alls_cons (wd_I (by omega) (by omega)) (alls_cons (wd_I (by omega) (by omega)) alls_nil))) (by show 3 ≤ 3000; decide)) (alls_cons (wd_T (alls_cons (wd_V (wd_I (by omega) (by omega)) (by omega)) (alls_cons (wd_I (by omega) (by omega)) (alls_cons (wd_I (by omega) (by omega)) alls_nil))) (by show 3 ≤ 3000; decide)) (alls_cons (wd_T (alls_cons (wd_V (wd_I (by omega) (by omega)) (by omega)) (alls_cons (wd_I (by omega) (by omega)) (alls_cons (wd_I (by omega) (by omega)) alls_nil))) (by show 3 ≤ 3000; decide)) alls_nil)))))) (n := 6) rfl (by decide))) sc__law_spoilt.nd rfl (by first | exact .inl rfl | exact .inr rfl) (by show 8 < 11; decide)) ?_
  refine bt_cons (τ1 := [.dk, .d (TI 1 4), .d (TV (TT [(TV (TI (-10000000000000000000000000000000000000000000000000000000000000000000000000000000000000000000000000000000000000000000000000) 10000000000000000000000000000000000000000000000000000000000000000000000000000000000000000000000000000000000000000000000000) 1 4), (TI 1 4), (TI (-10000000000000000000000000000000000000000000000000000000000000000000000000000000000000000000000000000000000000000000000000) 10000000000000000000000000000000000000000000000000000000000000000000000000000000000000000000000000000000000000000000000000)]) n n), .d (TI 0 (n - 1)), .d (TV (TI (-10000000000000000000000000000000000000000000000000000000000000000000000000000000000000000000000000000000000000000000000000) 10000000000000000000000000000000000000000000000000000000000000000000000000000000000000000000000000000000000000000000000000) 1 4), .d (TI 1 4), .d (TI (-10000000000000000000000000000000000000000000000000000000000000000000000000000000000000000000000000000000000000000000000000) 10000000000000000000000000000000000000000000000000000000000000000000000000000000000000000000000000000000000000000000000000), .d (TI (-10000000000000000000000000000000000000000000000000000000000000000000000000000000000000000000000000000000000000000000000000) 10000000000000000000000000000000000000000000000000000000000000000000000000000000000000000000000000000000000000000000000000), .d (LV (A3.Wd K 0) 11 11), .no, .no]) (st_set (i := 8) (t := (LV (A3.Wd K 0) 11 11)) (WT.sub (u := (LV (A3.Wd K 0) 11 11)) (t_catL (t_var (i := 8) (t := (LV (A3.Wd K 0) 6 6)) rfl) (t_l (lt_lst (t := (A3.Wd K 0)) (wat_cons (t_tup (wat_cons (WT.sub (u := (TV (TI (-10000000000000000000000000000000000000000000000000000000000000000000000000000000000000000000000000000000000000000000000000) 10000000000000000000000000000000000000000000000000000000000000000000000000000000000000000000000000000000000000000000000000) 2 5)) (t_cat (t_var (i := 4) (t := (TV (TI (-10000000000000000000000000000000000000000000000000000000000000000000000000000000000000000000000000000000000000000000000000) 10000000000000000000000000000000000000000000000000000000000000000000000000000000000000000000000000000000000000000000000000) 1 4)) rfl) (WT.sub (u := (TV (TI (-10000000000000000000000000000000000000000000000000000000000000000000000000000000000000000000000000000000000000000000000000) 10000000000000000000000000000000000000000000000000000000000000000000000000000000000000000000000000000000000000000000000000) 1 1)) (WT.sub (u := (TV (TI 0 0) 1 1)) (t_tup (wat_cons t_intI wat_nil) (by show 1 ≤ 1000; decide)) (sb_TV (alls_cons sb_r alls_nil) (by show _ ≤ 1; omega) (by show 1 ≤ _; omega))) (sb_V (sb_I (by omega) (by omega)) (by omega) (by omega))) (by rw [sizeLine_eq]; omega)) (sb_V sb_r (by omega) (by omega))) (wat_cons (t_var (i := 5) (t := (TI 1 4)) rfl) (wat_cons (t_var (i := 6) (t := (TI (-10000000000000000000000000000000000000000000000000000000000000000000000000000000000000000000000000000000000000000000000000) 10000000000000000000000000000000000000000000000000000000000000000000000000000000000000000000000000000000000000000000000000)) rfl) wat_nil))) (by show 3 ≤ 1000; decide)) (wat_cons (t_tup (wat_cons (t_sl (t_var (i := 4) (t := (TV (TI (-10000000000000000000000000000000000000000000000000000000000000000000000000000000000000000000000000000000000000000000000000) 10000000000000000000000000000000000000000000000000000000000000000000000000000000000000000000000000000000000000000000000000) 1 4)) rfl) (sl_some t_intI) sl_none) (wat_cons (t_var (i := 5) (t := (TI 1 4)) rfl) (wat_cons (t_var (i := 6) (t := (TI (-10000000000000000000000000000000000000000000000000000000000000000000000000000000000000000000000000000000000000000000000000) 10000000000000000000000000000000000000000000000000000000000000000000000000000000000000000000000000000000000000000000000000)) rfl) wat_nil))) (by show 3 ≤ 1000; decide)) (wat_cons (t_tup (wat_cons (t_l (lt_list B.b.list (by rfl) (t_var (i := 4) (t := (TV (TI (-10000000000000000000000000000000000000000000000000000000000000000000000000000000000000000000000000000000000000000000000000) 10000000000000000000000000000000000000000000000000000000000000000000000000000000000000000000000000000000000000000000000000) 1 4)) rfl))) (wat_cons (t_var (i := 5) (t := (TI 1 4)) rfl) (wat_cons (t_var (i := 6) (t := (TI (-10000000000000000000000000000000000000000000000000000000000000000000000000000000000000000000000000000000000000000000000000) 10000000000000000000000000000000000000000000000000000000000000000000000000000000000000000000000000000000000000000000000000)) rfl) wat_nil))) (by show 3 ≤ 1000; decide)) (wat_cons (t_l (lt_lst (t := (TO (TO (TV (TI (-10000000000000000000000000000000000000000000000000000000000000000000000000000000000000000000000000000000000000000000000000) 10000000000000000000000000000000000000000000000000000000000000000000000000000000000000000000000000000000000000000000000000) 1 4) (TI 1 4)) (TI (-10000000000000000000000000000000000000000000000000000000000000000000000000000000000000000000000000000000000000000000000000) 10000000000000000000000000000000000000000000000000000000000000000000000000000000000000000000000000000000000000000000000000))) (wat_cons (t_var (i := 4) (t := (TV (TI (-10000000000000000000000000000000000000000000000000000000000000000000000000000000000000000000000000000000000000000000000000) 10000000000000000000000000000000000000000000000000000000000000000000000000000000000000000000000000000000000000000000000000) 1 4)) rfl) (wat_cons (t_var (i := 5) (t := (TI 1 4)) rfl) (wat_cons (t_var (i := 6) (t := (TI (-10000000000000000000000000000000000000000000000000000000000000000000000000000000000000000000000000000000000000000000000000) 10000000000000000000000000000000000000000000000000000000000000000000000000000000000000000000000000000000000000000000000000)) rfl) wat_nil))) (alls_cons (sb_l (sb_l sb_r)) (alls_cons (sb_l (sb_rr sb_r)) (alls_cons (sb_rr sb_r) alls_nil))) (n := 3) rfl (by decide))) (wat_cons (t_tup (wat_cons (t_var (i := 4) (t := (TV (TI (-10000000000000000000000000000000000000000000000000000000000000000000000000000000000000000000000000000000000000000000000000) 10000000000000000000000000000000000000000000000000000000000000000000000000000000000000000000000000000000000000000000000000) 1 4)) rfl) (wat_cons (t_var (i := 5) (t := (TI 1 4)) rfl) wat_nil)) (by show 2 ≤ 1000; decide)) wat_nil))))) (alls_cons (wd_T (alls_cons (wd_V (wd_I (by omega) (by omega)) (by omega)) (alls_cons (wd_I (by omega) (by omega)) (alls_cons (wd_I (by omega) (by omega)) alls_nil))) (by show 3 ≤ 3000; decide)) (alls_cons (wd_T (alls_cons (wd_V (wd_I (by omega) (by omega)) (by omega)) (alls_cons (wd_I (by omega) (by omega)) (alls_cons (wd_I (by omega) (by omega)) alls_nil))) (by show 3 ≤ 3000; decide)) (alls_cons (wd_T (alls_cons (wd_L (wd_I (by omega) (by omega)) (by omega)) (alls_cons (wd_I (by omega) (by omega)) (alls_cons (wd_I (by omega) (by omega)) alls_nil))) (by show 3 ≤ 3000; decide)) (alls_cons (wd_L (sb_O (sb_O (wd_V (wd_I (by omega) (by omega)) (by omega)) (wd_I (by omega) (by omega))) (wd_I (by omega) (by omega))) (by omega)) (alls_cons (wd_T (alls_cons (wd_V (wd_I (by omega) (by omega)) (by omega)) (alls_cons (wd_I (by omega) (by omega)) alls_nil)) (by show 2 ≤ 3000; decide)) alls_nil))))) (n := 5) rfl (by decide))) (by rw [sizeLine_eq]; omega)) (sb_L sb_r (by omega) (by omega))) sc__law_spoilt.nd rfl (by first | exact .inl rfl | exact .inr rfl) (by show 8 < 11; decide)) ?_
  refine bt_cons (τ1 := [.dk, .d (TI 1 4), .d (TV (TT [(TV (TI (-10000000000000000000000000000000000000000000000000000000000000000000000000000000000000000000000000000000000000000000000000) 10000000000000000000000000000000000000000000000000000000000000000000000000000000000000000000000000000000000000000000000000) 1 4), (TI 1 4), (TI (-10000000000000000000000000000000000000000000000000000000000000000000000000000000000000000000000000000000000000000000000000) 10000000000000000000000000000000000000000000000000000000000000000000000000000000000000000000000000000000000000000000000000)]) n n), .d (TI 0 (n - 1)), .d (TV (TI (-10000000000000000000000000000000000000000000000000000000000000000000000000000000000000000000000000000000000000000000000000) 10000000000000000000000000000000000000000000000000000000000000000000000000000000000000000000000000000000000000000000000000) 1 4), .d (TI 1 4), .d (TI (-10000000000000000000000000000000000000000000000000000000000000000000000000000000000000000000000000000000000000000000000000) 10000000000000000000000000000000000000000000000000000000000000000000000000000000000000000000000000000000000000000000000000), .d (TI (-10000000000000000000000000000000000000000000000000000000000000000000000000000000000000000000000000000000000000000000000000) 10000000000000000000000000000000000000000000000000000000000000000000000000000000000000000000000000000000000000000000000000), .d (LV (A3.Wd K 0) 17 17), .no, .no]) (st_set (i := 8) (t := (LV (A3.Wd K 0) 17 17)) (WT.sub (u := (LV (A3.Wd K 0) 17 17)) (t_catL (t_var (i := 8) (t := (LV (A3.Wd K 0) 11 11)) rfl) (t_l (lt_lst (t := (A3.Wd K 0)) (wat_cons (t_tup (wat_cons (t_var (i := 4) (t := (TV (TI (-10000000000000000000000000000000000000000000000000000000000000000000000000000000000000000000000000000000000000000000000000) 10000000000000000000000000000000000000000000000000000000000000000000000000000000000000000000000000000000000000000000000000) 1 4)) rfl) (wat_cons (t_var (i := 5) (t := (TI 1 4)) rfl) (wat_cons (t_var (i := 6) (t := (TI (-10000000000000000000000000000000000000000000000000000000000000000000000000000000000000000000000000000000000000000000000000) 10000000000000000000000000000000000000000000000000000000000000000000000000000000000000000000000000000000000000000000000000)) rfl) (wat_cons t_intI wat_nil)))) (by show 4 ≤ 1000; decide)) (wat_cons (t_tup (wat_cons (t_var (i := 4) (t := (TV (TI (-10000000000000000000000000000000000000000000000000000000000000000000000000000000000000000000000000000000000000000000000000) 10000000000000000000000000000000000000000000000000000000000000000000000000000000000000000000000000000000000000000000000000) 1 4)) rfl) (wat_cons t_bool (wat_cons (t_var (i := 6) (t := (TI (-10000000000000000000000000000000000000000000000000000000000000000000000000000000000000000000000000000000000000000000000000) 10000000000000000000000000000000000000000000000000000000000000000000000000000000000000000000000000000000000000000000000000)) rfl) wat_nil))) (by show 3 ≤ 1000; decide)) (wat_cons (t_tup (wat_cons (t_var (i := 4) (t := (TV (TI (-10000000000000000000000000000000000000000000000000000000000000000000000000000000000000000000000000000000000000000000000000) 10000000000000000000000000000000000000000000000000000000000000000000000000000000000000000000000000000000000000000000000000) 1 4)) rfl) (wat_cons (t_var (i := 5) (t := (TI 1 4)) rfl) (wat_cons t_bool wat_nil))) (by show 3 ≤ 1000; decide)) (wat_cons (t_tup (wat_cons (t_var (i := 4) (t := (TV (TI (-10000000000000000000000000000000000000000000000000000000000000000000000000000000000000000000000000000000000000000000000000) 10000000000000000000000000000000000000000000000000000000000000000000000000000000000000000000000000000000000000000000000000) 1 4)) rfl) (wat_cons (t_var (i := 5) (t := (TI 1 4)) rfl) (wat_cons t_none wat_nil))) (by show 3 ≤ 1000; decide)) (wat_cons (t_tup (wat_cons (t_var (i := 4) (t := (TV (TI (-10000000000000000000000000000000000000000000000000000000000000000000000000000000000000000000000000000000000000000000000000) 10000000000000000000000000000000000000000000000000000000000000000000000000000000000000000000000000000000000000000000000000) 1 4)) rfl) (wat_cons (t_strI B.st (by rfl) (t_var (i := 5) (t := (TI 1 4)) rfl) (by decide +kernel) (by decide +kernel)) (wat_cons (t_var (i := 6) (t := (TI (-10000000000000000000000000000000000000000000000000000000000000000000000000000000000000000000000000000000000000000000000000) 10000000000000000000000000000000000000000000000000000000000000000000000000000000000000000000000000000000000000000000000000)) rfl) wat_nil))) (by show 3 ≤ 1000; decide)) (wat_cons (t_tup (wat_cons (t_var (i := 5) (t := (TI 1 4)) rfl) (wat_cons (t_var (i := 4) (t := (TV (TI (-10000000000000000000000000000000000000000000000000000000000000000000000000000000000000000000000000000000000000000000000000) 10000000000000000000000000000000000000000000000000000000000000000000000000000000000000000000000000000000000000000000000000) 1 4)) rfl) (wat_cons (t_var (i := 6) (t := (TI (-10000000000000000000000000000000000000000000000000000000000000000000000000000000000000000000000000000000000000000000000000) 10000000000000000000000000000000000000000000000000000000000000000000000000000000000000000000000000000000000000000000000000)) rfl) wat_nil))) (by show 3 ≤ 1000; decide)) wat_nil)))))) (alls_cons (wd_T (alls_cons (wd_V (wd_I (by omega) (by omega)) (by omega)) (alls_cons (wd_I (by omega) (by omega)) (alls_cons (wd_I (by omega) (by omega)) (alls_cons (wd_I (by omega) (by omega)) alls_nil)))) (by show 4 ≤ 3000; decide)) (alls_cons (wd_T (alls_cons (wd_V (wd_I (by omega) (by omega)) (by omega)) (alls_cons wd_b (alls_cons (wd_I (by omega) (by omega)) alls_nil))) (by show 3 ≤ 3000; decide)) (alls_cons (wd_T (alls_cons (wd_V (wd_I (by omega) (by omega)) (by omega)) (alls_cons (wd_I (by omega) (by omega)) (alls_cons wd_b alls_nil))) (by show 3 ≤ 3000; decide)) (alls_cons (wd_T (alls_cons (wd_V (wd_I (by omega) (by omega)) (by omega)) (alls_cons (wd_I (by omega) (by omega)) (alls_cons wd_N alls_nil))) (by show 3 ≤ 3000; decide)) (alls_cons (wd_T (alls_cons (wd_V (wd_I (by omega) (by omega)) (by omega)) (alls_cons (wd_S (by decide)) (alls_cons (wd_I (by omega) (by omega)) alls_nil))) (by show 3 ≤ 3000; decide)) (alls_cons (wd_T (alls_cons (wd_I (by omega) (by omega)) (alls_cons (wd_V (wd_I (by omega) (by omega)) (by omega)) (alls_cons (wd_I (by omega) (by omega)) alls_nil))) (by show 3 ≤ 3000; decide)) alls_nil)))))) (n := 6) rfl (by decide))) (by rw [sizeLine_eq]; omega)) (sb_L sb_r (by omega) (by omega))) sc__law_spoilt.nd rfl (by first | exact .inl rfl | exact .inr rfl) (by show 8 < 11; decide)) ?_
  refine bt_cons (τ1 := [.dk, .d (TI 1 4), .d (TV (TT [(TV (TI (-10000000000000000000000000000000000000000000000000000000000000000000000000000000000000000000000000000000000000000000000000) 10000000000000000000000000000000000000000000000000000000000000000000000000000000000000000000000000000000000000000000000000) 1 4), (TI 1 4), (TI (-10000000000000000000000000000000000000000000000000000000000000000000000000000000000000000000000000000000000000000000000000) 10000000000000000000000000000000000000000000000000000000000000000000000000000000000000000000000000000000000000000000000000)]) n n), .d (TI 0 (n - 1)), .d (TV (TI (-10000000000000000000000000000000000000000000000000000000000000000000000000000000000000000000000000000000000000000000000000) 10000000000000000000000000000000000000000000000000000000000000000000000000000000000000000000000000000000000000000000000000) 1 4), .d (TI 1 4), .d (TI (-10000000000000000000000000000000000000000000000000000000000000000000000000000000000000000000000000000000000000000000000000) 10000000000000000000000000000000000000000000000000000000000000000000000000000000000000000000000000000000000000000000000000), .d (TI (-10000000000000000000000000000000000000000000000000000000000000000000000000000000000000000000000000000000000000000000000000) 10000000000000000000000000000000000000000000000000000000000000000000000000000000000000000000000000000000000000000000000000), .d (LV (A3.Wd K 0) 24 24), .no, .no]) (st_set (i := 8) (t := (LV (A3.Wd K 0) 24 24)) (WT.sub (u := (LV (A3.Wd K 0) 24 24)) (t_catL (t_var (i := 8) (t := (LV (A3.Wd K 0) 17 17)) rfl) (t_l (lt_lst (t := (A3.Wd K 0)) (wat_cons (t_tup (wat_cons (t_var (i := 4) (t := (TV (TI (-10000000000000000000000000000000000000000000000000000000000000000000000000000000000000000000000000000000000000000000000000) 10000000000000000000000000000000000000000000000000000000000000000000000000000000000000000000000000000000000000000000000000) 1 4)) rfl) (wat_cons (t_var (i := 5) (t := (TI 1 4)) rfl) (wat_cons (t_l (lt_lst (t := (TI (-10000000000000000000000000000000000000000000000000000000000000000000000000000000000000000000000000000000000000000000000000) 10000000000000000000000000000000000000000000000000000000000000000000000000000000000000000000000000000000000000000000000000)) (wat_cons (t_var (i := 6) (t := (TI (-10000000000000000000000000000000000000000000000000000000000000000000000000000000000000000000000000000000000000000000000000) 10000000000000000000000000000000000000000000000000000000000000000000000000000000000000000000000000000000000000000000000000)) rfl) wat_nil) (alls_cons sb_r alls_nil) (n := 1) rfl (by decide))) wat_nil))) (by show 3 ≤ 1000; decide)) (wat_cons (t_tup (wat_cons (t_tup (wat_cons (t_var (i := 4) (t := (TV (TI (-10000000000000000000000000000000000000000000000000000000000000000000000000000000000000000000000000000000000000000000000000) 10000000000000000000000000000000000000000000000000000000000000000000000000000000000000000000000000000000000000000000000000) 1 4)) rfl) (wat_cons (t_var (i := 5) (t := (TI 1 4)) rfl) wat_nil)) (by show 2 ≤ 1000; decide)) (wat_cons (t_var (i := 6) (t := (TI (-10000000000000000000000000000000000000000000000000000000000000000000000000000000000000000000000000000000000000000000000000) 10000000000000000000000000000000000000000000000000000000000000000000000000000000000000000000000000000000000000000000000000)) rfl) wat_nil)) (by show 2 ≤ 1000; decide)) (wat_cons (t_tup (wat_cons (WT.sub (u := (TV (TO (TQ (.bool false)) (TI (-10000000000000000000000000000000000000000000000000000000000000000000000000000000000000000000000000000000000000000000000000) 10000000000000000000000000000000000000000000000000000000000000000000000000000000000000000000000000000000000000000000000000)) 1 5)) (t_cat (WT.sub (u := (TV (TO (TQ (.bool false)) (TI (-10000000000000000000000000000000000000000000000000000000000000000000000000000000000000000000000000000000000000000000000000) 10000000000000000000000000000000000000000000000000000000000000000000000000000000000000000000000000000000000000000000000000)) 1 1)) (WT.sub (u := (TV (TQ (.bool false)) 1 1)) (t_tup (wat_cons t_bool wat_nil) (by show 1 ≤ 1000; decide)) (sb_TV (alls_cons sb_r alls_nil) (by show _ ≤ 1; omega) (by show 1 ≤ _; omega))) (sb_V (sb_l sb_r) (by omega) (by omega))) (WT.sub (u := (TV (TO (TQ (.bool false)) (TI (-10000000000000000000000000000000000000000000000000000000000000000000000000000000000000000000000000000000000000000000000000) 10000000000000000000000000000000000000000000000000000000000000000000000000000000000000000000000000000000000000000000000000)) 0 4)) (t_sl (t_var (i := 4) (t := (TV (TI (-10000000000000000000000000000000000000000000000000000000000000000000000000000000000000000000000000000000000000000000000000) 10000000000000000000000000000000000000000000000000000000000000000000000000000000000000000000000000000000000000000000000000) 1 4)) rfl) (sl_some t_intI) sl_none) (sb_V (sb_rr sb_r) (by omega) (by omega))) (by rw [sizeLine_eq]; omega)) (sb_V sb_r (by omega) (by omega))) (wat_cons (t_var (i := 5) (t := (TI 1 4)) rfl) (wat_cons (t_var (i := 6) (t := (TI (-10000000000000000000000000000000000000000000000000000000000000000000000000000000000000000000000000000000000000000000000000) 10000000000000000000000000000000000000000000000000000000000000000000000000000000000000000000000000000000000000000000000000)) rfl) wat_nil))) (by show 3 ≤ 1000; decide)) (wat_cons (t_tup (wat_cons (t_ix (t_var (i := 4) (t := (TV (TI (-10000000000000000000000000000000000000000000000000000000000000000000000000000000000000000000000000000000000000000000000000) 10000000000000000000000000000000000000000000000000000000000000000000000000000000000000000000000000000000000000000000000000) 1 4)) rfl) t_intI (by omega) (by omega)) (wat_cons (t_var (i := 5) (t := (TI 1 4)) rfl) (wat_cons (t_var (i := 6) (t := (TI (-10000000000000000000000000000000000000000000000000000000000000000000000000000000000000000000000000000000000000000000000000) 10000000000000000000000000000000000000000000000000000000000000000000000000000000000000000000000000000000000000000000000000)) rfl) wat_nil))) (by show 3 ≤ 1000; decide)) (wat_cons t_none (wat_cons (t_var (i := 4) (t := (TV (TI (-10000000000000000000000000000000000000000000000000000000000000000000000000000000000000000000000000000000000000000000000000) 10000000000000000000000000000000000000000000000000000000000000000000000000000000000000000000000000000000000000000000000000) 1 4)) rfl) (wat_cons (t_tup wat_nil (by show 0 ≤ 1000; decide)) wat_nil))))))) (alls_cons (wd_T (alls_cons (wd_V (wd_I (by omega) (by omega)) (by omega)) (alls_cons (wd_I (by omega) (by omega)) (alls_cons (wd_L (wd_I (by omega) (by omega)) (by omega)) alls_nil))) (by show 3 ≤ 3000; decide)) (alls_cons (wd_T (alls_cons (wd_T (alls_cons (wd_V (wd_I (by omega) (by omega)) (by omega)) (alls_cons (wd_I (by omega) (by omega)) alls_nil)) (by show 2 ≤ 3000; decide)) (alls_cons (wd_I (by omega) (by omega)) alls_nil)) (by show 2 ≤ 3000; decide)) (alls_cons (wd_T (alls_cons (wd_V (sb_O wd_b (wd_I (by omega) (by omega))) (by omega)) (alls_cons (wd_I (by omega) (by omega)) (alls_cons (wd_I (by omega) (by omega)) alls_nil))) (by show 3 ≤ 3000; decide)) (alls_cons (wd_T (alls_cons (wd_I (by omega) (by omega)) (alls_cons (wd_I (by omega) (by omega)) (alls_cons (wd_I (by omega) (by omega)) alls_nil))) (by show 3 ≤ 3000; decide)) (alls_cons wd_N (alls_cons (wd_V (wd_I (by omega) (by omega)) (by omega)) (alls_cons (wd_T alls_nil (by show 0 ≤ 3000; decide)) alls_nil))))))) (n := 7) rfl (by decide))) (by rw [sizeLine_eq]; omega)) (sb_L sb_r (by omega) (by omega))) sc__law_spoilt.nd rfl (by first | exact .inl rfl | exact .inr rfl) (by show 8 < 11; decide)) ?_
  refine bt_cons (τ1 := [.dk, .d (TI 1 4), .d (TV (TT [(TV (TI (-10000000000000000000000000000000000000000000000000000000000000000000000000000000000000000000000000000000000000000000000000) 10000000000000000000000000000000000000000000000000000000000000000000000000000000000000000000000000000000000000000000000000) 1 4), (TI 1 4), (TI (-10000000000000000000000000000000000000000000000000000000000000000000000000000000000000000000000000000000000000000000000000) 10000000000000000000000000000000000000000000000000000000000000000000000000000000000000000000000000000000000000000000000000)]) n n), .d (TI 0 (n - 1)), .d (TV (TI (-10000000000000000000000000000000000000000000000000000000000000000000000000000000000000000000000000000000000000000000000000) 10000000000000000000000000000000000000000000000000000000000000000000000000000000000000000000000000000000000000000000000000) 1 4), .d (TI 1 4), .d (TI (-10000000000000000000000000000000000000000000000000000000000000000000000000000000000000000000000000000000000000000000000000) 10000000000000000000000000000000000000000000000000000000000000000000000000000000000000000000000000000000000000000000000000), .d (TI (-10000000000000000000000000000000000000000000000000000000000000000000000000000000000000000000000000000000000000000000000000) 10000000000000000000000000000000000000000000000000000000000000000000000000000000000000000000000000000000000000000000000000), .d (LV (A3.Wd K 0) 24 24), .d (A3.Wd K 0), .d (TI 0 3)]) (st_par (i := 9) (j := 10) (t := (A3.Wd K 0)) (u := (TI 0 3)) rfl sc__law_spoilt.nd rfl rfl (by decide) rfl rfl (by show 9 < 11; decide) (by show 10 < 11; decide) (t_callk (i := 0) (t := (A3.Wd K 0)) (k2.up (by decide)) hr (by rfl) (by rfl) (wat_cons (t_var (i := 8) (t := (LV (A3.Wd K 0) 24 24)) rfl) wat_nil) (ap_pick (by omega) (by omega))) (WT.sub (u := (TI 0 3)) (t_callk (i := 0) (k1.up (by decide)) hr (by rfl) (by rfl) (wat_cons t_intI wat_nil) (ap_draw (by omega) (by omega))) (sb_I (by omega) (by omega)))) ?_
  refine bt_cons (τ1 := [.dk, .d (TI 1 4), .d (TV (TT [(TV (TI (-10000000000000000000000000000000000000000000000000000000000000000000000000000000000000000000000000000000000000000000000000) 10000000000000000000000000000000000000000000000000000000000000000000000000000000000000000000000000000000000000000000000000) 1 4), (TI 1 4), (TI (-10000000000000000000000000000000000000000000000000000000000000000000000000000000000000000000000000000000000000000000000000) 10000000000000000000000000000000000000000000000000000000000000000000000000000000000000000000000000000000000000000000000000)]) n n), .d (TI 0 (n - 1)), .d (TV (TI (-10000000000000000000000000000000000000000000000000000000000000000000000000000000000000000000000000000000000000000000000000) 10000000000000000000000000000000000000000000000000000000000000000000000000000000000000000000000000000000000000000000000000) 1 4), .d (TI 1 4), .d (TI (-10000000000000000000000000000000000000000000000000000000000000000000000000000000000000000000000000000000000000000000000000) 10000000000000000000000000000000000000000000000000000000000000000000000000000000000000000000000000000000000000000000000000), .d (TI (-10000000000000000000000000000000000000000000000000000000000000000000000000000000000000000000000000000000000000000000000000) 10000000000000000000000000000000000000000000000000000000000000000000000000000000000000000000000000000000000000000000000000), .d (LV (A3.Wd K 0) 24 24), .d (A3.Wd K 0), .d (TI 1 3)]) (st_if (cr_eq (i := 10) (m := 1) (n := 3) rfl (h1 := by omega) (h2 := by omega)) ?_ ?_) ?_
  · exact bt_ret (WT.sub (u := (A3.Wd K 0)) (WT.sub (u := (TV (A3.Wd K 0) 1 ((n + 1) + n))) (t_cat (WT.sub (u := (TV (A3.Wd K 0) 1 (n + 1))) (t_cat (WT.sub (u := (TV (A3.Wd K 0) 0 n)) (t_sl (t_var (i := 2) (t := (TV (TT [(TV (TI (-10000000000000000000000000000000000000000000000000000000000000000000000000000000000000000000000000000000000000000000000000) 10000000000000000000000000000000000000000000000000000000000000000000000000000000000000000000000000000000000000000000000000) 1 4), (TI 1 4), (TI (-10000000000000000000000000000000000000000000000000000000000000000000000000000000000000000000000000000000000000000000000000) 10000000000000000000000000000000000000000000000000000000000000000000000000000000000000000000000000000000000000000000000000)]) n n)) rfl) sl_none (sl_some (t_var (i := 3) (t := (TI 0 (n - 1))) rfl))) (sb_V (wd_T (alls_cons (wd_V (wd_I (by omega) (by omega)) (by omega)) (alls_cons (wd_I (by omega) (by omega)) (alls_cons (wd_I (by omega) (by omega)) alls_nil))) (by show 3 ≤ 3000; decide)) (by omega) (by omega))) (WT.sub (u := (TV (A3.Wd K 0) 1 1)) (t_tup (wat_cons (t_var (i := 9) (t := (A3.Wd K 0)) rfl) wat_nil) (by show 1 ≤ 1000; decide)) (sb_TV (alls_cons sb_r alls_nil) (by show _ ≤ 1; omega) (by show 1 ≤ _; omega))) (by rw [sizeLine_eq]; omega)) (sb_V sb_r (by omega) (by omega))) (WT.sub (u := (TV (A3.Wd K 0) 0 n)) (t_sl (t_var (i := 2) (t := (TV (TT [(TV (TI (-10000000000000000000000000000000000000000000000000000000000000000000000000000000000000000000000000000000000000000000000000) 10000000000000000000000000000000000000000000000000000000000000000000000000000000000000000000000000000000000000000000000000) 1 4), (TI 1 4), (TI (-10000000000000000000000000000000000000000000000000000000000000000000000000000000000000000000000000000000000000000000000000) 10000000000000000000000000000000000000000000000000000000000000000000000000000000000000000000000000000000000000000000000000)]) n n)) rfl) (sl_some (t_var (i := 3) (t := (TI 0 (n - 1))) rfl)) sl_none) (sb_V (wd_T (alls_cons (wd_V (wd_I (by omega) (by omega)) (by omega)) (alls_cons (wd_I (by omega) (by omega)) (alls_cons (wd_I (by omega) (by omega)) alls_nil))) (by show 3 ≤ 3000; decide)) (by omega) (by omega))) (by rw [sizeLine_eq]; omega)) (sb_V sb_r (by omega) (by omega))) (wd_V (sb_A (by decide)) (by omega)))
  · exact bt_nil
  refine bt_cons (τ1 := [.dk, .d (TI 1 4), .d (TV (TT [(TV (TI (-10000000000000000000000000000000000000000000000000000000000000000000000000000000000000000000000000000000000000000000000000) 10000000000000000000000000000000000000000000000000000000000000000000000000000000000000000000000000000000000000000000000000) 1 4), (TI 1 4), (TI (-10000000000000000000000000000000000000000000000000000000000000000000000000000000000000000000000000000000000000000000000000) 10000000000000000000000000000000000000000000000000000000000000000000000000000000000000000000000000000000000000000000000000)]) n n), .d (TI 0 (n - 1)), .d (TV (TI (-10000000000000000000000000000000000000000000000000000000000000000000000000000000000000000000000000000000000000000000000000) 10000000000000000000000000000000000000000000000000000000000000000000000000000000000000000000000000000000000000000000000000) 1 4), .d (TI 1 4), .d (TI (-10000000000000000000000000000000000000000000000000000000000000000000000000000000000000000000000000000000000000000000000000) 10000000000000000000000000000000000000000000000000000000000000000000000000000000000000000000000000000000000000000000000000), .d (TI (-10000000000000000000000000000000000000000000000000000000000000000000000000000000000000000000000000000000000000000000000000) 10000000000000000000000000000000000000000000000000000000000000000000000000000000000000000000000000000000000000000000000000), .d (LV (A3.Wd K 0) 24 24), .d (A3.Wd K 0), .d (TI 2 3)]) (st_if (cr_eq (i := 10) (m := 2) (n := 3) rfl (h1 := by omega) (h2 := by omega)) ?_ ?_) ?_
  · exact bt_ret (WT.sub (u := (A3.Wd K 0)) (WT.sub (u := (TV (A3.Wd K 0) 1 ((n + 1) + n))) (t_cat (WT.sub (u := (TV (A3.Wd K 0) 1 (n + 1))) (t_cat (WT.sub (u := (TV (A3.Wd K 0) 0 n)) (t_sl (t_var (i := 2) (t := (TV (TT [(TV (TI (-10000000000000000000000000000000000000000000000000000000000000000000000000000000000000000000000000000000000000000000000000) 10000000000000000000000000000000000000000000000000000000000000000000000000000000000000000000000000000000000000000000000000) 1 4), (TI 1 4), (TI (-10000000000000000000000000000000000000000000000000000000000000000000000000000000000000000000000000000000000000000000000000) 10000000000000000000000000000000000000000000000000000000000000000000000000000000000000000000000000000000000000000000000000)]) n n)) rfl) sl_none (sl_some (WT.sub (u := (TI 1 ((n - 1) + 1))) (t_add (t_var (i := 3) (t := (TI 0 (n - 1))) rfl) t_intI) (sb_I (by omega) (by omega))))) (sb_V (wd_T (alls_cons (wd_V (wd_I (by omega) (by omega)) (by omega)) (alls_cons (wd_I (by omega) (by omega)) (alls_cons (wd_I (by omega) (by omega)) alls_nil))) (by show 3 ≤ 3000; decide)) (by omega) (by omega))) (WT.sub (u := (TV (A3.Wd K 0) 1 1)) (t_tup (wat_cons (t_var (i := 9) (t := (A3.Wd K 0)) rfl) wat_nil) (by show 1 ≤ 1000; decide)) (sb_TV (alls_cons sb_r alls_nil) (by show _ ≤ 1; omega) (by show 1 ≤ _; omega))) (by rw [sizeLine_eq]; omega)) (sb_V sb_r (by omega) (by omega))) (WT.sub (u := (TV (A3.Wd K 0) 0 n)) (t_sl (t_var (i := 2) (t := (TV (TT [(TV (TI (-10000000000000000000000000000000000000000000000000000000000000000000000000000000000000000000000000000000000000000000000000) 10000000000000000000000000000000000000000000000000000000000000000000000000000000000000000000000000000000000000000000000000) 1 4), (TI 1 4), (TI (-10000000000000000000000000000000000000000000000000000000000000000000000000000000000000000000000000000000000000000000000000) 10000000000000000000000000000000000000000000000000000000000000000000000000000000000000000000000000000000000000000000000000)]) n n)) rfl) (sl_some (WT.sub (u := (TI 1 ((n - 1) + 1))) (t_add (t_var (i := 3) (t := (TI 0 (n - 1))) rfl) t_intI) (sb_I (by omega) (by omega)))) sl_none) (sb_V (wd_T (alls_cons (wd_V (wd_I (by omega) (by omega)) (by omega)) (alls_cons (wd_I (by omega) (by omega)) (alls_cons (wd_I (by omega) (by omega)) alls_nil))) (by show 3 ≤ 3000; decide)) (by omega) (by omega))) (by rw [sizeLine_eq]; omega)) (sb_V sb_r (by omega) (by omega))) (wd_V (sb_A (by decide)) (by omega)))
  · exact bt_nil
  exact bt_ret (WT.sub (u := (A3.Wd K 0)) (WT.sub (u := (TV (A3.Wd K 0) 1 ((n + 1) + n))) (t_cat (WT.sub (u := (TV (A3.Wd K 0) 1 (n + 1))) (t_cat (WT.sub (u := (TV (A3.Wd K 0) 0 n)) (t_sl (t_var (i := 2) (t := (TV (TT [(TV (TI (-10000000000000000000000000000000000000000000000000000000000000000000000000000000000000000000000000000000000000000000000000) 10000000000000000000000000000000000000000000000000000000000000000000000000000000000000000000000000000000000000000000000000) 1 4), (TI 1 4), (TI (-10000000000000000000000000000000000000000000000000000000000000000000000000000000000000000000000000000000000000000000000000) 10000000000000000000000000000000000000000000000000000000000000000000000000000000000000000000000000000000000000000000000000)]) n n)) rfl) sl_none (sl_some (t_var (i := 3) (t := (TI 0 (n - 1))) rfl))) (sb_V (wd_T (alls_cons (wd_V (wd_I (by omega) (by omega)) (by omega)) (alls_cons (wd_I (by omega) (by omega)) (alls_cons (wd_I (by omega) (by omega)) alls_nil))) (by show 3 ≤ 3000; decide)) (by omega) (by omega))) (WT.sub (u := (TV (A3.Wd K 0) 1 1)) (t_tup (wat_cons (t_var (i := 9) (t := (A3.Wd K 0)) rfl) wat_nil) (by show 1 ≤ 1000; decide)) (sb_TV (alls_cons sb_r alls_nil) (by show _ ≤ 1; omega) (by show 1 ≤ _; omega))) (by rw [sizeLine_eq]; omega)) (sb_V sb_r (by omega) (by omega))) (WT.sub (u := (TV (A3.Wd K 0) 0 n)) (t_sl (t_var (i := 2) (t := (TV (TT [(TV (TI (-10000000000000000000000000000000000000000000000000000000000000000000000000000000000000000000000000000000000000000000000000) 10000000000000000000000000000000000000000000000000000000000000000000000000000000000000000000000000000000000000000000000000) 1 4), (TI 1 4), (TI (-10000000000000000000000000000000000000000000000000000000000000000000000000000000000000000000000000000000000000000000000000) 10000000000000000000000000000000000000000000000000000000000000000000000000000000000000000000000000000000000000000000000000)]) n n)) rfl) (sl_some (WT.sub (u := (TI 1 ((n - 1) + 1))) (t_add (t_var (i := 3) (t := (TI 0 (n - 1))) rfl) t_intI) (sb_I (by omega) (by omega)))) sl_none) (sb_V (wd_T (alls_cons (wd_V (wd_I (by omega) (by omega)) (by omega)) (alls_cons (wd_I (by omega) (by omega)) (alls_cons (wd_I (by omega) (by omega)) alls_nil))) (by show 3 ≤ 3000; decide)) (by omega) (by omega))) (by rw [sizeLine_eq]; omega)) (sb_V sb_r (by omega) (by omega))) (wd_V (sb_A (by decide)) (by omega)))
abbrev s__law_turned : Stmt := topS 101
abbrev n__law_turned : List Str := ["_law_deck_here", "_law_show_here", "_law_some", "_law_way"]
theorem sc__law_turned : FnScope ["_law_deck_here", "_law_show_here", "_law_some", "_law_way"] ["_law_deck_here", "_law_show_here"] (defScope s__law_turned) := ⟨rfl, rfl, rfl, by decide +kernel, rfl, by decide +kernel, by decide +kernel⟩
theorem ok_turned (B : A3.Be mg) (F : Fun K "_law_turned" "_law_turned" s__law_turned f fd) (k1 : KnP P w K mg base "_law_draw" 81 1 ["_law_deck_here", "_law_many"] SpDraw) : FnG P w K mg base 3 f fd ["_law_deck_here", "_law_show_here"] (Dr (Tup [(TV (TT [(TV (TI (-10000000000000000000000000000000000000000000000000000000000000000000000000000000000000000000000000000000000000000000000000) 10000000000000000000000000000000000000000000000000000000000000000000000000000000000000000000000000000000000000000000000000) 1 4), (TI 1 4), (TI (-10000000000000000000000000000000000000000000000000000000000000000000000000000000000000000000000000000000000000000000000000) 10000000000000000000000000000000000000000000000000000000000000000000000000000000000000000000000000000000000000000000000000)]) 1 300)]) (fun _ d => (A3.Wd K 0) d)) := by
  refine ok_dr F sc__law_turned (fun ds h => by have := tup_len h; simp only [List.length_cons, List.length_nil] at this ⊢; omega) (by decide) fun cdv A outer s H E hr F ds hw h => ?_
  obtain _ | ⟨q0, h⟩ := h
  cases h
  refine bt_run (τ := [.dk, .d (TV (TT [(TV (TI (-10000000000000000000000000000000000000000000000000000000000000000000000000000000000000000000000000000000000000000000000000) 10000000000000000000000000000000000000000000000000000000000000000000000000000000000000000000000000000000000000000000000000) 1 4), (TI 1 4), (TI (-10000000000000000000000000000000000000000000000000000000000000000000000000000000000000000000000000000000000000000000000000) 10000000000000000000000000000000000000000000000000000000000000000000000000000000000000000000000000000000000000000000000000)]) 1 300), .no, .no]) (τ' := NEV) (R := (A3.Wd K 0)) ?_ (.cons rfl (.cons ⟨_, rfl, q0⟩ (.cons (.inl rfl) (.cons (.inl rfl) .nil)))) (fun _ z => (nev z).elim) (fun _ q => q)
  refine bt_fix (i := 1) rfl fun n n1 n2 => ?_
  refine bt_cons (τ1 := [.dk, .d (TV (TT [(TV (TI (-10000000000000000000000000000000000000000000000000000000000000000000000000000000000000000000000000000000000000000000000000) 10000000000000000000000000000000000000000000000000000000000000000000000000000000000000000000000000000000000000000000000000) 1 4), (TI 1 4), (TI (-10000000000000000000000000000000000000000000000000000000000000000000000000000000000000000000000000000000000000000000000000) 10000000000000000000000000000000000000000000000000000000000000000000000000000000000000000000000000000000000000000000000000)]) n n), .own (TT [(TV (TI (-10000000000000000000000000000000000000000000000000000000000000000000000000000000000000000000000000000000000000000000000000) 10000000000000000000000000000000000000000000000000000000000000000000000000000000000000000000000000000000000000000000000000) 1 4), (TI 1 4), (TI (-10000000000000000000000000000000000000000000000000000000000000000000000000000000000000000000000000000000000000000000000000) 10000000000000000000000000000000000000000000000000000000000000000000000000000000000000000000000000000000000000000000000000)]) n n, .d (TI 0 3)]) (st_parL1 (i := 2) (j := 3) (t := (TT [(TV (TI (-10000000000000000000000000000000000000000000000000000000000000000000000000000000000000000000000000000000000000000000000000) 10000000000000000000000000000000000000000000000000000000000000000000000000000000000000000000000000000000000000000000000000) 1 4), (TI 1 4), (TI (-10000000000000000000000000000000000000000000000000000000000000000000000000000000000000000000000000000000000000000000000000) 10000000000000000000000000000000000000000000000000000000000000000000000000000000000000000000000000000000000000000000000000)])) (lo := n) (hi := n) (u := (TI 0 3)) rfl sc__law_turned.nd rfl rfl (by decide) rfl rfl (by show 2 < 4; decide) (by show 3 < 4; decide) (lt_list B.b.list (by rfl) (t_var (i := 1) (t := (TV (TT [(TV (TI (-10000000000000000000000000000000000000000000000000000000000000000000000000000000000000000000000000000000000000000000000000) 10000000000000000000000000000000000000000000000000000000000000000000000000000000000000000000000000000000000000000000000000) 1 4), (TI 1 4), (TI (-10000000000000000000000000000000000000000000000000000000000000000000000000000000000000000000000000000000000000000000000000) 10000000000000000000000000000000000000000000000000000000000000000000000000000000000000000000000000000000000000000000000000)]) n n)) rfl)) (fun F1 => (WT.sub (u := (TI 0 3)) (t_callk (i := 0) (k1.up (by decide)) hr (by rfl) (by rfl) (wat_cons t_intI wat_nil) (ap_draw (by omega) (by omega))) (sb_I (by omega) (by omega))))) ?_
  refine bt_cons (τ1 := [.dk, .d (TV (TT [(TV (TI (-10000000000000000000000000000000000000000000000000000000000000000000000000000000000000000000000000000000000000000000000000) 10000000000000000000000000000000000000000000000000000000000000000000000000000000000000000000000000000000000000000000000000) 1 4), (TI 1 4), (TI (-10000000000000000000000000000000000000000000000000000000000000000000000000000000000000000000000000000000000000000000000000) 10000000000000000000000000000000000000000000000000000000000000000000000000000000000000000000000000000000000000000000000000)]) n n), .own (TT [(TV (TI (-10000000000000000000000000000000000000000000000000000000000000000000000000000000000000000000000000000000000000000000000000) 10000000000000000000000000000000000000000000000000000000000000000000000000000000000000000000000000000000000000000000000000) 1 4), (TI 1 4), (TI (-10000000000000000000000000000000000000000000000000000000000000000000000000000000000000000000000000000000000000000000000000) 10000000000000000000000000000000000000000000000000000000000000000000000000000000000000000000000000000000000000000000000000)]) n n, .d (TI 1 3)]) (st_if (cr_eq (i := 3) (m := 1) (n := 3) rfl (h1 := by omega) (h2 := by omega)) ?_ ?_) ?_
  · refine bt_freeze (i := 2) (t := (TT [(TV (TI (-10000000000000000000000000000000000000000000000000000000000000000000000000000000000000000000000000000000000000000000000000) 10000000000000000000000000000000000000000000000000000000000000000000000000000000000000000000000000000000000000000000000000) 1 4), (TI 1 4), (TI (-10000000000000000000000000000000000000000000000000000000000000000000000000000000000000000000000000000000000000000000000000) 10000000000000000000000000000000000000000000000000000000000000000000000000000000000000000000000000000000000000000000000000)])) (lo := n) (hi := n) rfl ?_
    exact bt_ret (WT.sub (u := (A3.Wd K 0)) (t_tuple B.b.tup (by rfl) (t_l (t_revL (t_var (i := 2) (t := (LV (TT [(TV (TI (-10000000000000000000000000000000000000000000000000000000000000000000000000000000000000000000000000000000000000000000000000) 10000000000000000000000000000000000000000000000000000000000000000000000000000000000000000000000000000000000000000000000000) 1 4), (TI 1 4), (TI (-10000000000000000000000000000000000000000000000000000000000000000000000000000000000000000000000000000000000000000000000000) 10000000000000000000000000000000000000000000000000000000000000000000000000000000000000000000000000000000000000000000000000)]) n n)) rfl)))) (wd_V (wd_T (alls_cons (wd_V (wd_I (by omega) (by omega)) (by omega)) (alls_cons (wd_I (by omega) (by omega)) (alls_cons (wd_I (by omega) (by omega)) alls_nil))) (by show 3 ≤ 3000; decide)) (by omega)))
  · exact bt_nil
  refine bt_cons (τ1 := [.dk, .d (TV (TT [(TV (TI (-10000000000000000000000000000000000000000000000000000000000000000000000000000000000000000000000000000000000000000000000000) 10000000000000000000000000000000000000000000000000000000000000000000000000000000000000000000000000000000000000000000000000) 1 4), (TI 1 4), (TI (-10000000000000000000000000000000000000000000000000000000000000000000000000000000000000000000000000000000000000000000000000) 10000000000000000000000000000000000000000000000000000000000000000000000000000000000000000000000000000000000000000000000000)]) n n), .own (TT [(TV (TI (-10000000000000000000000000000000000000000000000000000000000000000000000000000000000000000000000000000000000000000000000000) 10000000000000000000000000000000000000000000000000000000000000000000000000000000000000000000000000000000000000000000000000) 1 4), (TI 1 4), (TI (-10000000000000000000000000000000000000000000000000000000000000000000000000000000000000000000000000000000000000000000000000) 10000000000000000000000000000000000000000000000000000000000000000000000000000000000000000000000000000000000000000000000000)]) n n, .d (TI 2 3)]) (st_if (cr_eq (i := 3) (m := 2) (n := 3) rfl (h1 := by omega) (h2 := by omega)) ?_ ?_) ?_
  · exact bt_ret (WT.sub (u := (A3.Wd K 0)) (t_l (lt_list B.b.list (by rfl) (t_var (i := 1) (t := (TV (TT [(TV (TI (-10000000000000000000000000000000000000000000000000000000000000000000000000000000000000000000000000000000000000000000000000) 10000000000000000000000000000000000000000000000000000000000000000000000000000000000000000000000000000000000000000000000000) 1 4), (TI 1 4), (TI (-10000000000000000000000000000000000000000000000000000000000000000000000000000000000000000000000000000000000000000000000000) 10000000000000000000000000000000000000000000000000000000000000000000000000000000000000000000000000000000000000000000000000)]) n n)) rfl))) (wd_L (wd_T (alls_cons (wd_V (wd_I (by omega) (by omega)) (by omega)) (alls_cons (wd_I (by omega) (by omega)) (alls_cons (wd_I (by omega) (by omega)) alls_nil))) (by show 3 ≤ 3000; decide)) (by omega)))
  · exact bt_nil
  refine bt_cons (τ1 := [.dk, .d (TV (TT [(TV (TI (-10000000000000000000000000000000000000000000000000000000000000000000000000000000000000000000000000000000000000000000000000) 10000000000000000000000000000000000000000000000000000000000000000000000000000000000000000000000000000000000000000000000000) 1 4), (TI 1 4), (TI (-10000000000000000000000000000000000000000000000000000000000000000000000000000000000000000000000000000000000000000000000000) 10000000000000000000000000000000000000000000000000000000000000000000000000000000000000000000000000000000000000000000000000)]) n n), .own (TT [(TV (TI (-10000000000000000000000000000000000000000000000000000000000000000000000000000000000000000000000000000000000000000000000000) 10000000000000000000000000000000000000000000000000000000000000000000000000000000000000000000000000000000000000000000000000) 1 4), (TI 1 4), (TI (-10000000000000000000000000000000000000000000000000000000000000000000000000000000000000000000000000000000000000000000000000) 10000000000000000000000000000000000000000000000000000000000000000000000000000000000000000000000000000000000000000000000000)]) n n, .d (TI 2 3)]) (st_insPop (i := 2) (t := (TT [(TV (TI (-10000000000000000000000000000000000000000000000000000000000000000000000000000000000000000000000000000000000000000000000000) 10000000000000000000000000000000000000000000000000000000000000000000000000000000000000000000000000000000000000000000000000) 1 4), (TI 1 4), (TI (-10000000000000000000000000000000000000000000000000000000000000000000000000000000000000000000000000000000000000000000000000) 10000000000000000000000000000000000000000000000000000000000000000000000000000000000000000000000000000000000000000000000000)])) (lo := n) (hi := n) rfl (WT.sub (u := (TI 0 ((n + 1) - 1))) (t_callk (i := 0) (k1.up (by decide)) hr (by rfl) (by rfl) (wat_cons (WT.sub (u := (TI (n + 1) (n + 1))) (t_add (WT.sub (u := (TI n n)) (t_lenO (i := 2) (t := (TT [(TV (TI (-10000000000000000000000000000000000000000000000000000000000000000000000000000000000000000000000000000000000000000000000000) 10000000000000000000000000000000000000000000000000000000000000000000000000000000000000000000000000000000000000000000000000) 1 4), (TI 1 4), (TI (-10000000000000000000000000000000000000000000000000000000000000000000000000000000000000000000000000000000000000000000000000) 10000000000000000000000000000000000000000000000000000000000000000000000000000000000000000000000000000000000000000000000000)])) (lo := n) (hi := n) B.b.len (by rfl) rfl) (sb_I (by omega) (by omega))) t_intI) (sb_I (by omega) (by omega))) wat_nil) (ap_draw (by omega) (by omega))) (sb_I (by omega) (by omega))) (WT.sub (u := (TI 0 (n - 1))) (t_callk (i := 0) (k1.up (by decide)) hr (by rfl) (by rfl) (wat_cons (WT.sub (u := (TI n n)) (t_lenO (i := 2) (t := (TT [(TV (TI (-10000000000000000000000000000000000000000000000000000000000000000000000000000000000000000000000000000000000000000000000000) 10000000000000000000000000000000000000000000000000000000000000000000000000000000000000000000000000000000000000000000000000) 1 4), (TI 1 4), (TI (-10000000000000000000000000000000000000000000000000000000000000000000000000000000000000000000000000000000000000000000000000) 10000000000000000000000000000000000000000000000000000000000000000000000000000000000000000000000000000000000000000000000000)])) (lo := n) (hi := n) B.b.len (by rfl) rfl) (sb_I (by omega) (by omega))) wat_nil) (ap_draw (by omega) (by omega))) (sb_I (by omega) (by omega))) (by omega) (by omega) (by omega) (by omega) (by omega) (hm := fun ha h1 hb => pe_bm PySem.F.plainAttrs_list PySem.F.slot_list_insert PySem.F.type_list_insert mt_insert ha (pa_cons h1 (pa_cons hb pa_nil))) (hm2 := fun ha hb => pe_bm PySem.F.plainAttrs_list PySem.F.slot_list_pop PySem.F.type_list_pop mt_popAt ha (pa_cons hb pa_nil))) ?_
  refine bt_freeze (i := 2) (t := (TT [(TV (TI (-10000000000000000000000000000000000000000000000000000000000000000000000000000000000000000000000000000000000000000000000000) 10000000000000000000000000000000000000000000000000000000000000000000000000000000000000000000000000000000000000000000000000) 1 4), (TI 1 4), (TI (-10000000000000000000000000000000000000000000000000000000000000000000000000000000000000000000000000000000000000000000000000) 10000000000000000000000000000000000000000000000000000000000000000000000000000000000000000000000000000000000000000000000000)])) (lo := n) (hi := n) rfl ?_
  exact bt_ret (WT.sub (u := (A3.Wd K 0)) (t_tuple B.b.tup (by rfl) (t_var (i := 2) (t := (LV (TT [(TV (TI (-10000000000000000000000000000000000000000000000000000000000000000000000000000000000000000000000000000000000000000000000000) 10000000000000000000000000000000000000000000000000000000000000000000000000000000000000000000000000000000000000000000000000) 1 4), (TI 1 4), (TI (-10000000000000000000000000000000000000000000000000000000000000000000000000000000000000000000000000000000000000000000000000) 10000000000000000000000000000000000000000000000000000000000000000000000000000000000000000000000000000000000000000000000000)]) n n)) rfl)) (wd_V (wd_T (alls_cons (wd_V (wd_I (by omega) (by omega)) (by omega)) (alls_cons (wd_I (by omega) (by omega)) (alls_cons (wd_I (by omega) (by omega)) alls_nil))) (by show 3 ≤ 3000; decide)) (by omega)))
end
end A7
namespace DW
open PySem PySem.W L2 RZ PyProof.Rows K9 A3
section
variable {F : Fc} {X : Cx} {e a b c : Expr} {es : List Sl} {K : Ek} {τ τ1 τ0 τ' : List Sy} {t u v : Ty} {R : Ty} {ts : List Ty} {B C : List Sl → Prop} {lo hi lo' hi' : Nat} {l h l' h' : Int} {pos p p2 : Pos} {ss : List Stmt}
/-- a new list: xs + ys -/
theorem wl_cat {Ψ : List D → Prop} (q : W F X a es fun x => W F X b es fun y => ∃ xs ys, x = .list xs ∧ y = .list ys ∧ xs.length + ys.length ≤ sizeLine ∧ Ψ (xs ++ ys)) : WL F X (.BinOp a .Add b pos) es Ψ := fun σ H s Q k => by
  refine ⟨_, pe_op op_cat can_e can_e, ?_⟩
  refine q σ H s _ fun v x H1 s1 x1 t1 hb => ?_
  refine hb σ H1 s1 _ fun u y H2 s2 x2 t2 ⟨xs, ys, e1, e2, hl, q⟩ => ?_
  subst e1 e2
  obtain ⟨pa, vs, rfl, h1, h2, h3⟩ := (t1.mono x2.mx).lst_inv
  obtain ⟨pb, us, rfl, g1, g2, g3⟩ := t2.lst_inv
  refine ⟨pa, pb, vs, us, rfl, rfl, h1, g1, by rw [h3.length, g3.length]; exact hl, fun p' hp => ?_⟩
  have x' := x1.trans' x2
  exact k p' _ _ _ (s2.new hp) (x'.trans' (ExM.new hp)) (fresh_ex s2 x' hp) upd_same ((h3.append g3).plus1 hp) q
theorem lt_catL (ha : WT F X a τ (LV t lo hi)) (hb : WT F X b τ (LV t lo' hi')) (hs : hi + hi' ≤ sizeLine) : WLT F X (.BinOp a .Add b pos) τ t (lo + lo') (hi + hi') := fun es g => wl_cat ((ha es g).imp fun _ ⟨xs, e, q1, q2, q5⟩ => (hb es g).imp fun _ ⟨ys, e', q3, q4, q6⟩ =>
  ⟨xs, ys, e, e', by omega, by rw [List.length_append]; omega, by rw [List.length_append]; omega, fun x hx => (List.mem_append.mp hx).elim (q5 x) (q6 x)⟩)
theorem t_min2 (hc : X.calm = true) (hm : X.mg "min" = none) (hg : Gl X "min") (ha : WT F X a τ (TI l h)) (hb : WT F X b τ (TI l' h')) {m n : Int} (h1 : m ≤ l) (h2 : m ≤ l') (h3 : h ≤ n ∨ h' ≤ n) (he : starEach [a, b] X.env = (false, eval a X.env) :: starEach [b] X.env := by rfl) (he2 : starEach [b] X.env = (false, eval b X.env) :: starEach [] X.env := by rfl)
    (hpl : (backTo pos (starEach [b] X.env)).any (·.1) = false := by rfl) : WT F X (.Call (.Name "min" p) [a, b] [] pos) τ (TI m n) := fun es g =>
  w_callB hg hm PyProof.Rows.boot_min (wa_cons ((ha es g).imp fun _ g1 => by
    obtain ⟨i, rfl, q1, q2⟩ := g1
    exact wa_cons ((hb es g).imp fun _ g2 => by
      obtain ⟨j, rfl, q3, q4⟩ := g2
      exact wa_nil ⟨_, cd_min2 hc, _, rfl, by split <;> omega, by split <;> omega⟩) he2) he) (he := he) (hpl := hpl)
theorem ints_of' {l h : Int} : ∀ {ds : List D}, (∀ x ∈ ds, TI l h x) → ∃ ns : List Int, ds = ns.map PyData.int ∧ ∀ n ∈ ns, l ≤ n ∧ n ≤ h
  | [], _ => ⟨[], rfl, fun _ h => by cases h⟩
  | d :: ds, q => by
    obtain ⟨ns, rfl, hn⟩ := ints_of' fun x hx => q x (List.mem_cons_of_mem _ hx)
    obtain ⟨i, rfl, h1, h2⟩ := q d List.mem_cons_self
    exact ⟨i :: ns, rfl, fun n hn' => by
      rcases List.mem_cons.mp hn' with z | z
      · rw [z]; exact ⟨h1, h2⟩
      · exact hn n z⟩
theorem ex_max : ∀ (ns : List Int), 0 < ns.length → ∃ m ∈ ns, ∀ n ∈ ns, n ≤ m
  | [], h => by cases h
  | [a], _ => ⟨a, by simp, fun n hn => by simp at hn; omega⟩
  | a :: b :: ns, _ => by
    obtain ⟨m, hm, h⟩ := ex_max (b :: ns) (by simp)
    by_cases q : m ≤ a
    · exact ⟨a, by simp, fun n hn => by
        rcases List.mem_cons.mp hn with z | z
        · omega
        · have := h n z; omega⟩
    · exact ⟨m, List.mem_cons_of_mem _ hm, fun n hn => by
        rcases List.mem_cons.mp hn with z | z
        · omega
        · exact h n z⟩
theorem t_maxL (hc : X.calm = true) (hm : X.mg "max" = none) (hg : Gl X "max") (ha : WT F X a τ (LV (TI l h) lo hi)) (h1 : 1 ≤ lo) (he : starEach [a] X.env = (false, eval a X.env) :: starEach [] X.env := by rfl) (hpl : (backTo pos (starEach [] X.env)).any (·.1) = false := by rfl) : WT F X (.Call (.Name "max" p) [a] [] pos) τ (TI l h) := fun es g =>
  w_callB hg hm PyProof.Rows.boot_max (wa_cons ((ha es g).imp fun _ g1 => by
    obtain ⟨xs, rfl, q1, q2, q3⟩ := g1
    obtain ⟨ns, rfl, hn⟩ := ints_of' q3
    rw [List.length_map] at q1
    obtain ⟨m, hm', hmx⟩ := ex_max ns (by omega)
    exact wa_nil ⟨_, cd_maxL (Φ := fun _ => True) hc (by omega) (z := m) (fun k hk hkx => by have := hkx m hm'; have := hmx k hk; omega), m, rfl, (hn m hm').1, (hn m hm').2⟩) he) (he := he) (hpl := hpl)
theorem t_and (ha : WT F X a τ TB) (hb : WT F X b τ TB) : WT F X (.BoolOp .And [a, b] pos) τ TB := fun es g => w_andV ((ha es g).imp fun _ ⟨k, e⟩ => ⟨k, e, by
  cases k with
  | true => exact w_one (hb es g)
  | false => exact ⟨false, rfl⟩⟩)
theorem t_leB (ha : WT F X a τ (TI l h)) (hb : WT F X b τ (TI l' h')) : WT F X (.Compare a [.LtE] [b] pos) τ TB := fun es g => w_cmp (h := (ha es g).imp fun _ ⟨i, e, _⟩ => e ▸ (hb es g).imp fun _ ⟨j, e', _⟩ => e' ▸ ⟨_, od_le, _, rfl⟩)
theorem t_eqL0 (hu : X.A.units + 64 < cLine) (ha : WT F X a τ (LV t lo hi)) : WT F X (.Compare a [.Eq] [.List [] p2] pos) τ TB := fun es g => w_cmp (h := (ha es g).imp fun _ g1 => by
  obtain ⟨ds, rfl, _⟩ := g1
  exact w_l (wl_lst (wa_nil ⟨Nat.zero_le _, _, od_eqL0 hu, _, rfl⟩)))
/-- e is not True, where e is True -/
theorem ct_isnT {j : Nat} {q : Pos} (ha : WT F X a τ (TQ (.bool true))) : CT F X (.Compare a [.IsNot] [.Constant (.bool true) j q] pos) τ NEV τ := fun es g => t_cmp (h := (ha es g).imp fun _ e => by
  obtain rfl := (show _ = _ from e)
  exact w_bool ⟨_, od_notB, fun z => by simp at z, fun _ => g⟩)
theorem ct_true (ha : WT F X e τ (TQ (.bool true))) (he : ∀ whole, isTrue e X.env whole = (do let v ← whole; standAt e.pos; holding [v] (truthy v)) := by intro _; rfl) : CT F X e τ τ NEV := fun es g => t_val ((ha es g).imp fun _ e => ⟨true, e, fun _ => g, fun z => by cases z⟩) he
/-- name == (), whatever is known of the name -/
theorem ct_eqT0s {i : Nat} {x : Str} {n : Nat} {p3 : Pos} (hu : X.A.units + 64 < cLine) (s : Sb t (TV u lo hi)) (hi' : τ[i]? = some (.d t)) (hN : X.N[i]? = some x := by rfl) (hv : Vis X.env.scope x := by first | exact Or.inl rfl | exact Or.inr (Or.inl rfl) | exact Or.inr (Or.inr rfl)) (hd : (x == ("__debug__" : Str)) = false := by decide) (hcd : (x == ("__classdict__" : Str)) = false := by decide) :
    CT F X (.Compare (.Name x p) [.Eq] [.Tuple [] n p3] pos) τ (τ.set i (.d t)) (τ.set i (.d (TV u (max lo 1) hi))) :=
  ct_ref (Cd := fun k d => k = false → TV u (max lo 1) hi d) hi' hN hv (fun es d e1 q => by
    obtain ⟨ds, rfl, q1, q2, q3⟩ := s d q
    exact t_cmp (h := w_vr e1 hN hv hd hcd (w_tup (wa_nil ⟨Nat.zero_le _, ds.isEmpty, od_eqT0 hu, fun z => ⟨ds, rfl, by
      cases ds with
      | nil => cases z
      | cons d ds => simp only [List.length_cons] at q1 ⊢; omega, q2, q3⟩⟩)))) (fun d q _ => q) (fun d _ k => k rfl)
/-- (e,) * n -/
theorem t_repT1 {n : Nat} (ha : WT F X (.Tuple [a] n p) τ (TT [t])) (hb : WT F X b τ (TI l h)) (h1 : 1 ≤ l) (h2 : h ≤ 1000) {lo hi : Nat} (h3 : (lo : Int) ≤ l) (h4 : h ≤ hi) : WT F X (.BinOp (.Tuple [a] n p) .Mult b pos) τ (TV t lo hi) := fun es g => w_bin ((ha es g).imp fun _ g1 => (hb es g).imp fun _ g2 => by
  obtain ⟨ds, rfl, q⟩ := g1
  obtain ⟨j, rfl, q3, q4⟩ := g2
  cases q with
  | cons q r =>
    cases r
    exact ⟨_, od_repT1 (by omega) (by omega), _, rfl, by rw [List.length_replicate]; omega, by rw [List.length_replicate]; omega, fun x hx => by rw [(List.mem_replicate.mp hx).2]; exact q⟩)
theorem t_subs (hi' : BT F X ss τ1 τ' R B C) (s : Sys τ τ1) : BT F X ss τ τ' R B C := fun es g => hi' es (s es g)
end
end DW
namespace A7
open PySem PySem.W L2 RZ PyProof.Rows DW K9 K4 A3
section
variable {P : Program} {w : World} {K : PySem.W.Frag} {mg : Str → Option Value} {base : Heap} {f : Addr} {fd : FuncData}
def SH (r : Int) : Ty := fun d => (TV (TT [(TV (TI (-10000000000000000000000000000000000000000000000000000000000000000000000000000000000000000000000000000000000000000000000000) 10000000000000000000000000000000000000000000000000000000000000000000000000000000000000000000000000000000000000000000000000) 1 4), (TI 1 4), (TI (-10000000000000000000000000000000000000000000000000000000000000000000000000000000000000000000000000000000000000000000000000) 10000000000000000000000000000000000000000000000000000000000000000000000000000000000000000000000000000000000000000000000000)]) 0 300) d ∧ showB r d = true
theorem sh_V {r : Int} : Sb (SH r) (TV (TT [(TV (TI (-10000000000000000000000000000000000000000000000000000000000000000000000000000000000000000000000000000000000000000000000000) 10000000000000000000000000000000000000000000000000000000000000000000000000000000000000000000000000000000000000000000000000) 1 4), (TI 1 4), (TI (-10000000000000000000000000000000000000000000000000000000000000000000000000000000000000000000000000000000000000000000000000) 10000000000000000000000000000000000000000000000000000000000000000000000000000000000000000000000000000000000000000000000000)]) 0 300) := fun _ h => h.1
theorem sh_nil {r : Int} : Sb (TT []) (SH r) := fun d ⟨ds, e, q⟩ => by
  cases q
  subst e
  exact ⟨⟨[], rfl, by simp, by simp, fun _ h => by cases h⟩, rfl⟩
theorem asc_ascB : ∀ {s : List Tp}, Asc s → ascB ((s.map dT).map keyD) = true
  | [], _ => rfl
  | [t], _ => rfl
  | t :: u :: s, h => by
    have ih := asc_ascB (s := u :: s) h.2
    simp only [List.map_cons, ascB, Bool.and_eq_true]
    exact ⟨h.1, ih⟩
theorem gb_b {x : Int} (h : Gb x) : -(10000000000000000000000000000000000000000000000000000000000000000000000000000000000000000000000000000000000000000000000000 : Int) ≤ x ∧ x ≤ 10000000000000000000000000000000000000000000000000000000000000000000000000000000000000000000000000000000000000000000000000 := by
  have h1 : x.natAbs < 2 ^ 400 := h
  have h2 : (2 : Nat) ^ 400 ≤ 10000000000000000000000000000000000000000000000000000000000000000000000000000000000000000000000000000000000000000000000000 := by decide +kernel
  omega
theorem tri_of {r : Int} {t : Tp} {B : Int} (r1 : 1 ≤ r) (r4 : r ≤ 4) (h : KOk r t.1) (h1 : ∀ x ∈ t.1.1, -B ≤ x ∧ x ≤ B) (h2 : -B ≤ t.2 ∧ t.2 ≤ B) : (TT [(TV (TI (-B) B) 1 4), (TI 1 4), (TI (-B) B)]) (dT t) := by
  obtain ⟨k1, k2, k3⟩ := h
  refine ⟨_, rfl, .cons ⟨_, rfl, by rw [List.length_map]; omega, by rw [List.length_map]; omega, fun x hx => ?_⟩ (.cons ⟨_, rfl, k2, by omega⟩ (.cons ⟨_, rfl, h2.1, h2.2⟩ .nil))⟩
  obtain ⟨y, hy, rfl⟩ := List.mem_map.mp hx
  exact ⟨y, rfl, (h1 y hy).1, (h1 y hy).2⟩
theorem sh_of {r : Int} {a : List Tp} (r1 : 1 ≤ r) (r4 : r ≤ 4) (g : Gd r a) (ha : a.length ≤ 300) : SH r (dS (lst a)) := by
  have c := (can_lst g.nd).1
  refine ⟨⟨_, rfl, Nat.zero_le _, by rw [List.length_map]; exact Nat.le_trans (lst_len a) ha, fun x hx => ?_⟩, ?_⟩
  · obtain ⟨t, ht, rfl⟩ := List.mem_map.mp hx
    obtain ⟨h1, h2, h3⟩ := g.each t (lst_sub ht)
    exact tri_of r1 r4 h1 (fun x hx => gb_b (h2 x hx)) (gb_b h3)
  · simp only [showB, Bool.and_eq_true]
    exact ⟨show_trip fun t ht => ⟨(g.each t (lst_sub ht)).1, c.nz t ht⟩, asc_ascB (asc_up.mpr c.up)⟩
theorem sh_unit {r : Int} (r1 : 1 ≤ r) (r4 : r ≤ 4) : Sb (TT [(TT [(TV (TI 0 0) (r.toNat) (r.toNat)), (TI 1 1), (TI 1 1)])]) (SH r) := fun d ⟨ds, e, q⟩ => by
  subst e
  cases q with
  | cons q z =>
    cases z
    obtain ⟨us, rfl, q⟩ := q
    cases q with
    | cons q1 q =>
      cases q with
      | cons q2 q =>
        cases q with
        | cons q3 q =>
          cases q
          obtain ⟨i, rfl, i1, i2⟩ := q2
          obtain ⟨j, rfl, j1, j2⟩ := q3
          obtain ⟨xs, rfl, x1, x2, x3⟩ := q1
          obtain ⟨ns, rfl, hn⟩ := ints_of' x3
          rw [List.length_map] at x1 x2
          have e1 : i = 1 := by omega
          have e2 : j = 1 := by omega
          subst e1 e2
          have k : KOk r (ns, (1 : Int)) := ⟨by show (ns.length : Int) = r; omega, Int.le_refl _, r1⟩
          refine ⟨⟨_, rfl, Nat.zero_le _, by simp, fun x hx => ?_⟩, ?_⟩
          · obtain rfl := List.mem_singleton.mp hx
            exact tri_of (t := ((ns, 1), 1)) r1 r4 k (fun x hx => by have := hn x hx; omega) (by show _ ≤ (1 : Int) ∧ (1 : Int) ≤ _; decide)
          · have := show_trip (r := r) (s := [((ns, (1 : Int)), (1 : Int))]) (fun t ht => by rw [List.mem_singleton.mp ht]; exact ⟨k, by show (1 : Int) ≠ 0; decide⟩)
            simp only [showB, Bool.and_eq_true]
            exact ⟨this, rfl⟩
theorem ap_free {r l h : Int} (r1 : 1 ≤ r) (r4 : r ≤ 4) (h0 : 0 ≤ l) (h1 : h ≤ 300) : ∀ ds, Tup [TI r r, TI l h] ds → (∃ r m : Int, ds = [.int r, .int m] ∧ 1 ≤ r ∧ r ≤ 4 ∧ 0 ≤ m ∧ m ≤ 300) ∧ ∀ d : D, (∃ a : List Tp, d = dS (lst a) ∧ a.length ≤ 300 ∧ ∀ r m : Int, ds = [.int r, .int m] → Gd r a) → SH r d := fun ds g => by
  obtain ⟨a, b, rfl, ⟨i, rfl, i1, i2⟩, ⟨m, rfl, m1, m2⟩⟩ := tup2 g
  obtain rfl : i = r := by omega
  refine ⟨⟨i, m, rfl, r1, r4, by omega, by omega⟩, fun d ⟨a, e, hl, hg⟩ => ?_⟩
  subst e
  exact sh_of r1 r4 (hg i m rfl) hl
theorem ap_row {r l h : Int} (r1 : 1 ≤ r) (r4 : r ≤ 4) (h0 : 0 ≤ l) (h1 : h ≤ 60) : ∀ ds, Tup [TI r r, TI l h] ds → (∃ r m : Int, ds = [.int r, .int m] ∧ 1 ≤ r ∧ r ≤ 4 ∧ 0 ≤ m ∧ m ≤ 60) ∧ ∀ d : D, (∃ xs : List Int, d = iv xs ∧ xs.length ≤ 60 ∧ ∀ r m : Int, ds = [.int r, .int m] → AllS r xs) → TRow r 0 60 d := fun ds g => by
  obtain ⟨a, b, rfl, ⟨i, rfl, i1, i2⟩, ⟨m, rfl, m1, m2⟩⟩ := tup2 g
  obtain rfl : i = r := by omega
  refine ⟨⟨i, m, rfl, r1, r4, by omega, by omega⟩, fun d ⟨xs, e, hl, hg⟩ => ?_⟩
  subst e
  exact tIv (hg i m rfl) (Nat.zero_le _) hl
theorem ap_show {r : Int} (r1 : 1 ≤ r) (r4 : r ≤ 4) : ∀ ds, Tup [TI r r, TRow r 0 60] ds → (∃ (r : Int) (xs : List Int), ds = [.int r, iv xs] ∧ 1 ≤ r ∧ r ≤ 4 ∧ xs.length ≤ 60 ∧ AllS r xs) ∧ ∀ d : D, (∃ a : List Tp, d = dS (lst a) ∧ a.length ≤ 60 ∧ ∀ (r : Int) (xs : List Int), ds = [.int r, iv xs] → Gd r a) → SH r d := fun ds g => by
  obtain ⟨a, b, rfl, ⟨i, rfl, i1, i2⟩, q⟩ := tup2 g
  obtain rfl : i = r := by omega
  obtain ⟨xs, rfl, hs, _, hl⟩ := ivT q
  refine ⟨⟨i, xs, rfl, r1, r4, hl, hs⟩, fun d ⟨a, e, hl, hg⟩ => ?_⟩
  subst e
  exact sh_of r1 r4 (hg i xs rfl) (by omega)
theorem ap_dirs : ∀ ds, Tup [] ds → ds = [] ∧ ∀ d : D, (∃ r : Int, d = .int r ∧ 1 ≤ r ∧ r ≤ 4) → TI 1 4 d := fun ds g => by
  cases g
  exact ⟨rfl, fun d h => h⟩
theorem ap_iss {r : Int} : ∀ ds, Tup [TI r r, SH r] ds → (∃ (r : Int) (d : D), ds = [.int r, d] ∧ Ay K d) ∧ ∀ d : D, (∀ (r : Int) (e : D), ds = [.int r, e] → d = .bool (showB r e)) → TQ (.bool true) d := fun ds g => by
  obtain ⟨a, b, rfl, ⟨i, rfl, i1, i2⟩, q⟩ := tup2 g
  obtain rfl : i = r := by omega
  refine ⟨⟨i, b, rfl, 0, by decide, (wd_V (wd_T (alls_cons (wd_V (wd_I (by omega) (by omega)) (by omega)) (alls_cons (wd_I (by omega) (by omega)) (alls_cons (wd_I (by omega) (by omega)) alls_nil))) (by show 3 ≤ 3000; decide)) (by omega)) b q.1⟩, fun d h => ?_⟩
  show d = _
  rw [h i b rfl, q.2]
/-! small -/
theorem big_of {r : Int} {d : D} (r1 : 1 ≤ r) (r4 : r ≤ 4) (ha : Ay K d) (h : showB r d = true) : (TV (TT [(TV (TI (-100000000000000000000000000000000000000000000000000000000000000000000000000000000000000000000000000000000000000000000000000000000000000000000000000000000000000000000000000000000000000000000000000000000000000000000000000000000000000000000000000000000000000000000000000000000000000000000000000000000000000) 100000000000000000000000000000000000000000000000000000000000000000000000000000000000000000000000000000000000000000000000000000000000000000000000000000000000000000000000000000000000000000000000000000000000000000000000000000000000000000000000000000000000000000000000000000000000000000000000000000000000000) 1 4), (TI 1 4), (TI (-100000000000000000000000000000000000000000000000000000000000000000000000000000000000000000000000000000000000000000000000000000000000000000000000000000000000000000000000000000000000000000000000000000000000000000000000000000000000000000000000000000000000000000000000000000000000000000000000000000000000000) 100000000000000000000000000000000000000000000000000000000000000000000000000000000000000000000000000000000000000000000000000000000000000000000000000000000000000000000000000000000000000000000000000000000000000000000000000000000000000000000000000000000000000000000000000000000000000000000000000000000000000)]) 0 3100) d := by
  obtain ⟨s, rfl, hs, _⟩ := A3.show_of h
  obtain ⟨hl, hm⟩ := ha.mem
  rw [List.length_map] at hl
  have bd : ∀ x : Int, Ay K (.int x) → -(100000000000000000000000000000000000000000000000000000000000000000000000000000000000000000000000000000000000000000000000000000000000000000000000000000000000000000000000000000000000000000000000000000000000000000000000000000000000000000000000000000000000000000000000000000000000000000000000000000000000000 : Int) ≤ x ∧ x ≤ 100000000000000000000000000000000000000000000000000000000000000000000000000000000000000000000000000000000000000000000000000000000000000000000000000000000000000000000000000000000000000000000000000000000000000000000000000000000000000000000000000000000000000000000000000000000000000000000000000000000000000 := fun x ⟨n, hn, wd⟩ => by
    cases wd with
    | int q =>
      have h2 : (2 : Nat) ^ 1000 + 100 ≤ 100000000000000000000000000000000000000000000000000000000000000000000000000000000000000000000000000000000000000000000000000000000000000000000000000000000000000000000000000000000000000000000000000000000000000000000000000000000000000000000000000000000000000000000000000000000000000000000000000000000000000 := by decide +kernel
      omega
  refine ⟨_, rfl, Nat.zero_le _, by rw [List.length_map]; exact hl, fun x hx => ?_⟩
  obtain ⟨t, ht, rfl⟩ := List.mem_map.mp hx
  have m3 := (hm _ hx).mem.2
  exact tri_of r1 r4 (hs t ht).1 (fun x hx => bd x ((m3 _ List.mem_cons_self).mem.2 _ (List.mem_map_of_mem hx))) (bd _ (m3 _ (by simp)))
abbrev s__law_is_small : Stmt := topS 96
abbrev n__law_is_small : List Str := ["_law_show_here", "_law_it", "_law_x"]
theorem sc__law_is_small : FnScope ["_law_show_here", "_law_it", "_law_x"] ["_law_show_here"] (defScope s__law_is_small) := ⟨rfl, rfl, rfl, by decide +kernel, rfl, by decide +kernel, by decide +kernel⟩
def sc_small : Scope := match defBody s__law_is_small with
  | [.Return (some (.BoolOp _ [_, .Compare (.ListComp _ _ sc _) _ _ _] _)) _] => sc
  | _ => defScope s__law_is_small
theorem ok_small (B : A3.Be mg) (F : Fun K "_law_is_small" "_law_is_small" s__law_is_small f fd) : FnG P w K mg base 1 f fd ["_law_show_here"] (Pu (Tup [(TV (TT [(TV (TI (-100000000000000000000000000000000000000000000000000000000000000000000000000000000000000000000000000000000000000000000000000000000000000000000000000000000000000000000000000000000000000000000000000000000000000000000000000000000000000000000000000000000000000000000000000000000000000000000000000000000000000) 100000000000000000000000000000000000000000000000000000000000000000000000000000000000000000000000000000000000000000000000000000000000000000000000000000000000000000000000000000000000000000000000000000000000000000000000000000000000000000000000000000000000000000000000000000000000000000000000000000000000000) 1 4), (TI 1 4), (TI (-100000000000000000000000000000000000000000000000000000000000000000000000000000000000000000000000000000000000000000000000000000000000000000000000000000000000000000000000000000000000000000000000000000000000000000000000000000000000000000000000000000000000000000000000000000000000000000000000000000000000000) 100000000000000000000000000000000000000000000000000000000000000000000000000000000000000000000000000000000000000000000000000000000000000000000000000000000000000000000000000000000000000000000000000000000000000000000000000000000000000000000000000000000000000000000000000000000000000000000000000000000000000)]) 0 3100)]) (fun _ d => TB d)) := by
  refine ok_pu F sc__law_is_small (fun ds h => by have := tup_len h; simp only [List.length_cons, List.length_nil] at this ⊢; omega) (by decide) fun cdv A outer s H E hr F ds hw h => ?_
  obtain _ | ⟨q0, h⟩ := h
  cases h
  refine bt_run (τ := [.d (TV (TT [(TV (TI (-100000000000000000000000000000000000000000000000000000000000000000000000000000000000000000000000000000000000000000000000000000000000000000000000000000000000000000000000000000000000000000000000000000000000000000000000000000000000000000000000000000000000000000000000000000000000000000000000000000000000000) 100000000000000000000000000000000000000000000000000000000000000000000000000000000000000000000000000000000000000000000000000000000000000000000000000000000000000000000000000000000000000000000000000000000000000000000000000000000000000000000000000000000000000000000000000000000000000000000000000000000000000) 1 4), (TI 1 4), (TI (-100000000000000000000000000000000000000000000000000000000000000000000000000000000000000000000000000000000000000000000000000000000000000000000000000000000000000000000000000000000000000000000000000000000000000000000000000000000000000000000000000000000000000000000000000000000000000000000000000000000000000) 100000000000000000000000000000000000000000000000000000000000000000000000000000000000000000000000000000000000000000000000000000000000000000000000000000000000000000000000000000000000000000000000000000000000000000000000000000000000000000000000000000000000000000000000000000000000000000000000000000000000000)]) 0 3100), .no, .no]) (τ' := NEV) (R := TB) ?_ (.cons ⟨_, rfl, q0⟩ (.cons (.inl rfl) (.cons (.inl rfl) .nil))) (fun _ z => (nev z).elim) (fun _ q => q)
  exact bt_ret (t_and (t_leB (WT.sub (u := (TI 0 3100)) (t_len B.b.len (by rfl) (t_var (i := 0) (t := (TV (TT [(TV (TI (-100000000000000000000000000000000000000000000000000000000000000000000000000000000000000000000000000000000000000000000000000000000000000000000000000000000000000000000000000000000000000000000000000000000000000000000000000000000000000000000000000000000000000000000000000000000000000000000000000000000000000) 100000000000000000000000000000000000000000000000000000000000000000000000000000000000000000000000000000000000000000000000000000000000000000000000000000000000000000000000000000000000000000000000000000000000000000000000000000000000000000000000000000000000000000000000000000000000000000000000000000000000000) 1 4), (TI 1 4), (TI (-100000000000000000000000000000000000000000000000000000000000000000000000000000000000000000000000000000000000000000000000000000000000000000000000000000000000000000000000000000000000000000000000000000000000000000000000000000000000000000000000000000000000000000000000000000000000000000000000000000000000000) 100000000000000000000000000000000000000000000000000000000000000000000000000000000000000000000000000000000000000000000000000000000000000000000000000000000000000000000000000000000000000000000000000000000000000000000000000000000000000000000000000000000000000000000000000000000000000000000000000000000000000)]) 0 3100)) rfl)) (sb_I (by omega) (by omega))) t_intI) (t_eqL0 hr.ro.units (t_l (lt_lcf (u := (TT [(TV (TI (-100000000000000000000000000000000000000000000000000000000000000000000000000000000000000000000000000000000000000000000000000000000000000000000000000000000000000000000000000000000000000000000000000000000000000000000000000000000000000000000000000000000000000000000000000000000000000000000000000000000000000) 100000000000000000000000000000000000000000000000000000000000000000000000000000000000000000000000000000000000000000000000000000000000000000000000000000000000000000000000000000000000000000000000000000000000000000000000000000000000000000000000000000000000000000000000000000000000000000000000000000000000000) 1 4), (TI 1 4), (TI (-100000000000000000000000000000000000000000000000000000000000000000000000000000000000000000000000000000000000000000000000000000000000000000000000000000000000000000000000000000000000000000000000000000000000000000000000000000000000000000000000000000000000000000000000000000000000000000000000000000000000000) 100000000000000000000000000000000000000000000000000000000000000000000000000000000000000000000000000000000000000000000000000000000000000000000000000000000000000000000000000000000000000000000000000000000000000000000000000000000000000000000000000000000000000000000000000000000000000000000000000000000000000)])) [("_law_it", 1)] (L := [1]) rfl sc__law_is_small.nd (blkOk_by (N := n__law_is_small) (sc := (defScope s__law_is_small)) (by decide +kernel)) (by decide) (zes_cons ⟨_, rfl, rfl⟩ zes_nil) (itt_tup (t_var (i := 0) (t := (TV (TT [(TV (TI (-100000000000000000000000000000000000000000000000000000000000000000000000000000000000000000000000000000000000000000000000000000000000000000000000000000000000000000000000000000000000000000000000000000000000000000000000000000000000000000000000000000000000000000000000000000000000000000000000000000000000000) 100000000000000000000000000000000000000000000000000000000000000000000000000000000000000000000000000000000000000000000000000000000000000000000000000000000000000000000000000000000000000000000000000000000000000000000000000000000000000000000000000000000000000000000000000000000000000000000000000000000000000) 1 4), (TI 1 4), (TI (-100000000000000000000000000000000000000000000000000000000000000000000000000000000000000000000000000000000000000000000000000000000000000000000000000000000000000000000000000000000000000000000000000000000000000000000000000000000000000000000000000000000000000000000000000000000000000000000000000000000000000) 100000000000000000000000000000000000000000000000000000000000000000000000000000000000000000000000000000000000000000000000000000000000000000000000000000000000000000000000000000000000000000000000000000000000000000000000000000000000000000000000000000000000000000000000000000000000000000000000000000000000000)]) 0 3100)) rfl)) (by rw [sizeLine_eq]; omega) (fun F1 s1 H1 C1 cl1 fp1 => (tgt_name (i := 1) sc__law_is_small.nd rfl (by first | exact .inl rfl | exact .inr rfl) (by show 1 < 3; decide))) (fun F1 s1 H1 C1 cl1 fp1 => (ct_ge (t_maxL rfl B.b.max (by rfl) (t_l (lt_lc (u := (TI 0 100000000000000000000000000000000000000000000000000000000000000000000000000000000000000000000000000000000000000000000000000000000000000000000000000000000000000000000000000000000000000000000000000000000000000000000000000000000000000000000000000000000000000000000000000000000000000000000000000000000000000)) [("_law_x", 2)] (L := [2]) rfl sc__law_is_small.nd (blkOk_by (N := n__law_is_small) (sc := sc_small) (by decide +kernel)) (by decide) (zes_cons ⟨_, rfl, rfl⟩ zes_nil) (itt_tup (WT.sub (u := (TV (TI (-100000000000000000000000000000000000000000000000000000000000000000000000000000000000000000000000000000000000000000000000000000000000000000000000000000000000000000000000000000000000000000000000000000000000000000000000000000000000000000000000000000000000000000000000000000000000000000000000000000000000000) 100000000000000000000000000000000000000000000000000000000000000000000000000000000000000000000000000000000000000000000000000000000000000000000000000000000000000000000000000000000000000000000000000000000000000000000000000000000000000000000000000000000000000000000000000000000000000000000000000000000000000) 2 5)) (t_cat (t_ixT (i := 0) (t := (TV (TI (-100000000000000000000000000000000000000000000000000000000000000000000000000000000000000000000000000000000000000000000000000000000000000000000000000000000000000000000000000000000000000000000000000000000000000000000000000000000000000000000000000000000000000000000000000000000000000000000000000000000000000) 100000000000000000000000000000000000000000000000000000000000000000000000000000000000000000000000000000000000000000000000000000000000000000000000000000000000000000000000000000000000000000000000000000000000000000000000000000000000000000000000000000000000000000000000000000000000000000000000000000000000000) 1 4)) (t_var (i := 1) (t := (TT [(TV (TI (-100000000000000000000000000000000000000000000000000000000000000000000000000000000000000000000000000000000000000000000000000000000000000000000000000000000000000000000000000000000000000000000000000000000000000000000000000000000000000000000000000000000000000000000000000000000000000000000000000000000000000) 100000000000000000000000000000000000000000000000000000000000000000000000000000000000000000000000000000000000000000000000000000000000000000000000000000000000000000000000000000000000000000000000000000000000000000000000000000000000000000000000000000000000000000000000000000000000000000000000000000000000000) 1 4), (TI 1 4), (TI (-100000000000000000000000000000000000000000000000000000000000000000000000000000000000000000000000000000000000000000000000000000000000000000000000000000000000000000000000000000000000000000000000000000000000000000000000000000000000000000000000000000000000000000000000000000000000000000000000000000000000000) 100000000000000000000000000000000000000000000000000000000000000000000000000000000000000000000000000000000000000000000000000000000000000000000000000000000000000000000000000000000000000000000000000000000000000000000000000000000000000000000000000000000000000000000000000000000000000000000000000000000000000)])) rfl) rfl) (WT.sub (u := (TV (TI (-100000000000000000000000000000000000000000000000000000000000000000000000000000000000000000000000000000000000000000000000000000000000000000000000000000000000000000000000000000000000000000000000000000000000000000000000000000000000000000000000000000000000000000000000000000000000000000000000000000000000000) 100000000000000000000000000000000000000000000000000000000000000000000000000000000000000000000000000000000000000000000000000000000000000000000000000000000000000000000000000000000000000000000000000000000000000000000000000000000000000000000000000000000000000000000000000000000000000000000000000000000000000) 1 1)) (t_tup (wat_cons (t_ixT (i := 2) (t := (TI (-100000000000000000000000000000000000000000000000000000000000000000000000000000000000000000000000000000000000000000000000000000000000000000000000000000000000000000000000000000000000000000000000000000000000000000000000000000000000000000000000000000000000000000000000000000000000000000000000000000000000000) 100000000000000000000000000000000000000000000000000000000000000000000000000000000000000000000000000000000000000000000000000000000000000000000000000000000000000000000000000000000000000000000000000000000000000000000000000000000000000000000000000000000000000000000000000000000000000000000000000000000000000)) (t_var (i := 1) (t := (TT [(TV (TI (-100000000000000000000000000000000000000000000000000000000000000000000000000000000000000000000000000000000000000000000000000000000000000000000000000000000000000000000000000000000000000000000000000000000000000000000000000000000000000000000000000000000000000000000000000000000000000000000000000000000000000) 100000000000000000000000000000000000000000000000000000000000000000000000000000000000000000000000000000000000000000000000000000000000000000000000000000000000000000000000000000000000000000000000000000000000000000000000000000000000000000000000000000000000000000000000000000000000000000000000000000000000000) 1 4), (TI 1 4), (TI (-100000000000000000000000000000000000000000000000000000000000000000000000000000000000000000000000000000000000000000000000000000000000000000000000000000000000000000000000000000000000000000000000000000000000000000000000000000000000000000000000000000000000000000000000000000000000000000000000000000000000000) 100000000000000000000000000000000000000000000000000000000000000000000000000000000000000000000000000000000000000000000000000000000000000000000000000000000000000000000000000000000000000000000000000000000000000000000000000000000000000000000000000000000000000000000000000000000000000000000000000000000000000)])) rfl) rfl) wat_nil) (by show 1 ≤ 1000; decide)) (sb_TV (alls_cons sb_r alls_nil) (by show _ ≤ 1; omega) (by show 1 ≤ _; omega))) (by rw [sizeLine_eq]; omega)) (sb_V sb_r (by omega) (by omega)))) (by rw [sizeLine_eq]; omega) (fun F1 s1 H1 C1 cl1 fp1 => (tgt_name (i := 2) sc__law_is_small.nd rfl (by first | exact .inl rfl | exact .inr rfl) (by show 2 < 3; decide))) (fun F1 s1 H1 C1 cl1 fp1 => (t_abs B.b.abs (by rfl) (m := 100000000000000000000000000000000000000000000000000000000000000000000000000000000000000000000000000000000000000000000000000000000000000000000000000000000000000000000000000000000000000000000000000000000000000000000000000000000000000000000000000000000000000000000000000000000000000000000000000000000000000) (by omega) (by omega) (t_var (i := 2) (t := (TI (-100000000000000000000000000000000000000000000000000000000000000000000000000000000000000000000000000000000000000000000000000000000000000000000000000000000000000000000000000000000000000000000000000000000000000000000000000000000000000000000000000000000000000000000000000000000000000000000000000000000000000) 100000000000000000000000000000000000000000000000000000000000000000000000000000000000000000000000000000000000000000000000000000000000000000000000000000000000000000000000000000000000000000000000000000000000000000000000000000000000000000000000000000000000000000000000000000000000000000000000000000000000000)) rfl))))) (by omega)) (WT.sub (u := (TI 10000000000000000000000000000000000000000000000000000000000000000000000000000000000000000000000000000 10000000000000000000000000000000000000000000000000000000000000000000000000000000000000000000000000000)) (t_mulE (t_pow (z := 1000000000000000000000000000000000000000000000000000000000000) ⟨by decide, by decide, by decide⟩ (by decide +kernel)) (t_pow (z := 10000000000000000000000000000000000000000) ⟨by decide, by decide, by decide⟩ (by decide +kernel)) (by show _ < _; decide +kernel) (by show _ < _; decide +kernel)) (sb_I (by decide +kernel) (by decide +kernel))))) (fun F1 s1 H1 C1 cl1 fp1 => (t_var (i := 1) (t := (TT [(TV (TI (-100000000000000000000000000000000000000000000000000000000000000000000000000000000000000000000000000000000000000000000000000000000000000000000000000000000000000000000000000000000000000000000000000000000000000000000000000000000000000000000000000000000000000000000000000000000000000000000000000000000000000) 100000000000000000000000000000000000000000000000000000000000000000000000000000000000000000000000000000000000000000000000000000000000000000000000000000000000000000000000000000000000000000000000000000000000000000000000000000000000000000000000000000000000000000000000000000000000000000000000000000000000000) 1 4), (TI 1 4), (TI (-100000000000000000000000000000000000000000000000000000000000000000000000000000000000000000000000000000000000000000000000000000000000000000000000000000000000000000000000000000000000000000000000000000000000000000000000000000000000000000000000000000000000000000000000000000000000000000000000000000000000000) 100000000000000000000000000000000000000000000000000000000000000000000000000000000000000000000000000000000000000000000000000000000000000000000000000000000000000000000000000000000000000000000000000000000000000000000000000000000000000000000000000000000000000000000000000000000000000000000000000000000000000)])) rfl))))))
end
end A7
namespace A7
open PySem PySem.W L2 RZ PyProof.Rows DW K9 K4 A3
local macro_rules | `(tactic| walk_at "dw") => `(tactic| first
  | ((with_reducible show W _ _ (.Name _ _) _ _); first
    | refine w_var (i := 0) rfl (q := ?_)
    | refine w_var (i := 1) rfl (q := ?_)
    | refine w_var (i := 2) rfl (q := ?_)
    | refine w_var (i := 3) rfl (q := ?_)
    | refine w_var (i := 4) rfl (q := ?_)
    | refine w_var (i := 5) rfl (q := ?_)
    | refine w_var (i := 6) rfl (q := ?_)
    | refine w_var (i := 7) rfl (q := ?_)
    | refine w_var (i := 8) rfl (q := ?_)
    | refine w_var (i := 9) rfl (q := ?_)
    | refine w_var (i := 10) rfl (q := ?_)
    | refine w_var (i := 11) rfl (q := ?_)
    | refine w_var (i := 12) rfl (q := ?_)
    | refine w_var (i := 13) rfl (q := ?_)
    | refine w_var (i := 14) rfl (q := ?_)
    | refine w_var (i := 15) rfl (q := ?_))
  | ((with_reducible show W _ _ (.Constant (.int _) _ _) _ _); refine w_int ?_)
  | ((with_reducible show W _ _ (.Constant (.bool _) _ _) _ _); refine w_bool ?_)
  | ((with_reducible show W _ _ (.Constant .none _ _) _ _); refine w_none ?_)
  | ((with_reducible show W _ _ (.Constant (.str _) _ _) _ _); refine w_str ?_)
  | ((with_reducible show W _ _ (.BoolOp .And (_ :: _ :: _) _) _ _); refine w_andV ?_)
  | ((with_reducible show W _ _ (.BoolOp .Or (_ :: _ :: _) _) _ _); refine w_orV ?_)
  | ((with_reducible show W _ _ (.BoolOp _ [_] _) _ _); refine w_one ?_)
  | ((with_reducible show W _ _ (.UnaryOp .Not _ _) _ _); refine w_notV ?_)
  | ((with_reducible show W _ _ (.UnaryOp .USub _ _) _ _); refine w_un ?_)
  | ((with_reducible show W _ _ (.BinOp _ _ _ _) _ _); refine w_bin ?_)
  | ((with_reducible show W _ _ (.Tuple _ _ _) _ _); refine w_tup ?_)
  | ((with_reducible show W _ _ (.Compare _ [_] _ _) _ _); refine w_cmp (h := ?_))
  | ((with_reducible show W _ _ (.Compare _ [_, _] _ _) _ _); refine w_chain (h := ?_))
  | ((with_reducible show T _ _ (.Compare _ [_] _ _) _ _); refine t_cmp (h := ?_))
  | ((with_reducible show T _ _ (.Compare _ [_, _] _ _) _ _); refine t_chain (h := ?_))
  | ((with_reducible show T _ _ (.UnaryOp .Not _ _) _ _); refine t_not ?_)
  | ((with_reducible show T _ _ (.Call _ _ _ _) _ _); refine t_val ?_)
  | ((with_reducible show T _ _ (.BoolOp .And _ _) _ _); refine t_w ?_)
  | ((with_reducible show T _ _ (.BoolOp .Or _ _) _ _); refine t_w ?_)
  | ((with_reducible show T _ _ (.Name _ _) _ _); refine t_val ?_)
  | ((with_reducible show TW _ _ (.BoolOp .And [_] _) _ _); refine tw_and1 ?_)
  | ((with_reducible show TW _ _ (.BoolOp .Or [_] _) _ _); refine tw_or1 ?_)
  | ((with_reducible show TW _ _ (.BoolOp .And (_ :: _ :: _) _) _ _); refine tw_and ?_)
  | ((with_reducible show TW _ _ (.BoolOp .Or (_ :: _ :: _) _) _ _); refine tw_or ?_)
  | ((with_reducible show WS _ _ (.Return (some _) _) _ _); refine ws_ret ?_)
  | ((with_reducible show WS _ _ (.If _ _ _ _) _ _); refine ws_if ?_)
  | ((with_reducible show WS _ _ (.Pass _) _ _); refine ws_pass ?_)
  | ((with_reducible show WA _ _ [] _ _); refine wa_nil ?_)
  | ((with_reducible show WA _ _ (_ :: _) _ _); refine wa_cons ?_)
  | ((with_reducible show WK _ _ [] _ _); refine wk_nil ?_)
  | ((with_reducible show WK _ _ (_ :: _) _ _); refine wk_cons ?_)
  | ((with_reducible show WP _ _ none _ _); refine wp_none ?_)
  | ((with_reducible show WP _ _ (some _) _ _); refine wp_some ?_)
  | ((with_reducible show WB _ _ [] _ _); refine wb_nil ?_)
  | ((with_reducible show WB _ _ (_ :: _) _ _); refine wb_cons ?_)
  | ((with_reducible show WB _ _ (defBody _) _ _); refine wb_cons ?_)
  | ((with_reducible show ∃ z, OpD _ (binaryOp .Add) (.int _) (.int _) z ∧ _); refine ⟨_, od_add, ?_⟩)
  | ((with_reducible show ∃ z, OpD _ (binaryOp .Sub) (.int _) (.int _) z ∧ _); refine ⟨_, od_sub, ?_⟩)
  | ((with_reducible show ∃ z, OpD _ (compareOp .Lt) (.int _) (.int _) z ∧ _); refine ⟨_, od_lt, ?_⟩)
  | ((with_reducible show ∃ z, OpD _ (compareOp .Lt) (.int _) (.int _) (.bool z) ∧ _); refine ⟨_, od_lt, ?_⟩)
  | ((with_reducible show ∃ z, OpD _ (compareOp .LtE) (.int _) (.int _) z ∧ _); refine ⟨_, od_le, ?_⟩)
  | ((with_reducible show ∃ z, OpD _ (compareOp .LtE) (.int _) (.int _) (.bool z) ∧ _); refine ⟨_, od_le, ?_⟩)
  | ((with_reducible show ∃ z, OpD _ (compareOp .Gt) (.int _) (.int _) z ∧ _); refine ⟨_, od_gt, ?_⟩)
  | ((with_reducible show ∃ z, OpD _ (compareOp .Gt) (.int _) (.int _) (.bool z) ∧ _); refine ⟨_, od_gt, ?_⟩)
  | ((with_reducible show ∃ z, OpD _ (compareOp .GtE) (.int _) (.int _) z ∧ _); refine ⟨_, od_ge, ?_⟩)
  | ((with_reducible show ∃ z, OpD _ (compareOp .GtE) (.int _) (.int _) (.bool z) ∧ _); refine ⟨_, od_ge, ?_⟩)
  | ((with_reducible show ∃ z, OpD _ (compareOp .Eq) (.int _) (.int _) z ∧ _); refine ⟨_, od_eqI, ?_⟩)
  | ((with_reducible show ∃ z, OpD _ (compareOp .Eq) (.int _) (.int _) (.bool z) ∧ _); refine ⟨_, od_eqI, ?_⟩)
  | ((with_reducible show ∃ z, OpD _ (compareOp .NotEq) (.int _) (.int _) z ∧ _); refine ⟨_, od_neI, ?_⟩)
  | ((with_reducible show ∃ z, OpD _ (compareOp .NotEq) (.int _) (.int _) (.bool z) ∧ _); refine ⟨_, od_neI, ?_⟩)
  | ((with_reducible show ∃ z, OpD _ (compareOp .Is) (.bool _) (.bool _) z ∧ _); refine ⟨_, od_isB, ?_⟩)
  | ((with_reducible show ∃ z, OpD _ (compareOp .Is) (.bool _) (.bool _) (.bool z) ∧ _); refine ⟨_, od_isB, ?_⟩)
  | ((with_reducible show ∃ z, OpD _ (compareOp .IsNot) (.bool _) (.bool _) z ∧ _); refine ⟨_, od_notB, ?_⟩)
  | ((with_reducible show ∃ z, OpD _ (compareOp .IsNot) (.bool _) (.bool _) (.bool z) ∧ _); refine ⟨_, od_notB, ?_⟩)
  | ((with_reducible show ∃ z, OpD _ (binaryOp .Pow) (.int _) (.int _) z ∧ _); refine ⟨_, od_pow (by exact ⟨by decide, by decide, by decide⟩), ?_⟩)
  | ((with_reducible show ∃ z, OpD _ (compareOp .NotEq) (.str _) (.str _) (.bool z) ∧ _); refine ⟨_, od_neS, ?_⟩)
  | ((with_reducible show ∃ z, OpD _ (compareOp .Eq) (.str _) (.str _) (.bool z) ∧ _); refine ⟨_, od_eqS, ?_⟩)
  | ((with_reducible show ∃ z, OpD _ (compareOp .Eq) (.str _) (.str _) z ∧ _); refine ⟨_, od_eqS, ?_⟩)
  | ((with_reducible show ∃ z, UnD _ (unaryOp .USub) (.int _) z ∧ _); refine ⟨_, ud_neg, ?_⟩)
  | ((with_reducible show ∃ i, PyData.int _ = PyData.int i ∧ _); refine ⟨_, rfl, ?_⟩)
  | ((with_reducible show ∃ i, PyData.bool _ = PyData.bool i ∧ _); refine ⟨_, rfl, ?_⟩)
  | ((with_reducible show ∃ i, PyData.tuple _ = PyData.tuple i ∧ _); refine ⟨_, rfl, ?_⟩)
  | ((with_reducible show ∃ i, PyData.list _ = PyData.list i ∧ _); refine ⟨_, rfl, ?_⟩)
  | ((with_reducible show List.length [_] ≤ sizeLine ∧ _); refine ⟨len_le1, ?_⟩)
  | ((with_reducible show List.length [_, _] ≤ sizeLine ∧ _); refine ⟨len_le2, ?_⟩)
  | ((with_reducible show List.length [_, _, _] ≤ sizeLine ∧ _); refine ⟨len_le3, ?_⟩))
section
variable {P : Program} {w : World} {K : PySem.W.Frag} {mg : Str → Option Value} {base : Heap} {f : Addr} {fd : FuncData}
abbrev s_init : Stmt := inClass (topS 77) 0
theorem sc_init : FnScope ["self", "r"] ["self", "r"] (defScope s_init) := ⟨rfl, rfl, rfl, by decide +kernel, rfl, by decide +kernel, by decide +kernel⟩
/-- House(r): a new instance -/
def SpInit (C : Addr) : Sp := fun vs H Q _ => ∃ (p dx : Addr) (r : Int), vs = [.ref p, .int r] ∧ H p = some (.ins C dx []) ∧ ∀ (H' : Hp) (fs : List (Str × V)), H' p = some (.ins C dx fs) → (∀ b o, H b = some o → b ≠ p → H' b = some o) → Q .non H'
structure HsF (K : PySem.W.Frag) (mg : Str → Option Value) : Prop where
  ex : ∃ (C f : Addr) (fd : FuncData), mg "House" = some (.ref C) ∧ Mk K C f ∧ Fun K "__init__" "House.__init__" s_init f fd ∧ Binds K fd ["self", "r"] [] ∧ InsF K C ∧ NoAttr K C "r" ∧ NoAttr K C "rows" ∧ NoAttr K C "vows" ∧ NoAttr K C "done" ∧ NoAttr K C "undone"
theorem putF_le {f : Str} {v : V} : ∀ {fs : List (Str × V)}, (putF f v fs).length ≤ fs.length + 1
  | [] => Nat.le_refl _
  | (g, u) :: fs => by
    unfold putF
    split
    · exact Nat.le_succ _
    · have := putF_le (f := f) (v := v) (fs := fs)
      simp only [List.length_cons]; omega
theorem ok_init {C : Addr} (F : Fun K "__init__" "House.__init__" s_init f fd) (cl : Cls K C) (n1 : NoAttr K C "r") (n2 : NoAttr K C "rows") (n3 : NoAttr K C "vows") (n4 : NoAttr K C "done") (n5 : NoAttr K C "undone") : FnOk P w K mg base CX0 1 f fd ["self", "r"] (SpInit C) := by
  refine F.ok sc_init (fun vs H Q E h => by obtain ⟨_, _, _, rfl, _⟩ := h; rfl) (fun cdv A outer s H vs Q E hr h => ?_)
  obtain ⟨p, dx, r, rfl, hp, q⟩ := h
  refine ⟨_, pss_cons (ps_fld (pv 0) (pv 1) rfl) (pss_cons (ps_fld (pv 0) pe_dnewK rfl) (pss_cons (ps_fld (pv 0) (pe_tup pa_nil) rfl) (pss_cons (ps_fld (pv 0) (pe_lst pa_nil) rfl) (pss_one (ps_fld (pv 0) (pe_lst pa_nil) rfl))))), ?_⟩
  refine ⟨_, rfl, _, rfl, p, C, dx, _, rfl, hp, cl, n1, (by show 0 < 1000; decide), ?_⟩
  intro a1 h1
  have e1 : p ≠ a1 := fun z => by rw [← z, upd_same] at h1; cases h1
  refine ⟨_, rfl, p, C, dx, _, rfl, (by rw [upd_ne e1]; exact upd_same), cl, n2, (by show 1 < 1000; decide), ?_⟩
  refine ⟨Nat.zero_le _, ?_⟩
  intro a2 h2
  have e2 : p ≠ a2 := fun z => by rw [← z, upd_same] at h2; cases h2
  have l1 : (putF "rows" (V.ref a1) (putF "r" (V.int r) [])).length ≤ 2 := Nat.le_trans putF_le (Nat.succ_le_succ putF_le)
  have l2 := putF_le (f := "vows") (v := V.ref a2) (fs := putF "rows" (V.ref a1) (putF "r" (V.int r) []))
  refine ⟨_, rfl, p, C, dx, _, rfl, (by rw [upd_ne e2]; exact upd_same), cl, n3, (by omega), ?_⟩
  refine ⟨Nat.zero_le _, ?_⟩
  intro a3 h3
  have e3 : p ≠ a3 := fun z => by rw [← z, upd_same] at h3; cases h3
  have l3 := putF_le (f := "done") (v := V.ref a3) (fs := putF "vows" (V.ref a2) (putF "rows" (V.ref a1) (putF "r" (V.int r) [])))
  refine ⟨_, rfl, p, C, dx, _, rfl, (by rw [upd_ne e3]; exact upd_same), cl, n4, (by omega), ?_⟩
  refine ⟨Nat.zero_le _, ?_⟩
  intro a4 h4
  have e4 : p ≠ a4 := fun z => by rw [← z, upd_same] at h4; cases h4
  refine ⟨_, rfl, p, C, dx, _, rfl, (by rw [upd_ne e4]; exact upd_same), cl, n5, (by omega), ?_⟩
  have f1 : ∀ b o, b ≠ p → H b = some o → b ≠ a1 := fun b o n e z => by rw [← z, upd_ne n, e] at h1; cases h1
  have f2 : ∀ b o, b ≠ p → H b = some o → b ≠ a2 := fun b o n e z => by rw [← z, upd_ne n, upd_ne (f1 b o n e), upd_ne n, e] at h2; cases h2
  have f3 : ∀ b o, b ≠ p → H b = some o → b ≠ a3 := fun b o n e z => by rw [← z, upd_ne n, upd_ne (f2 b o n e), upd_ne n, upd_ne (f1 b o n e), upd_ne n, e] at h3; cases h3
  have f4 : ∀ b o, b ≠ p → H b = some o → b ≠ a4 := fun b o n e z => by rw [← z, upd_ne n, upd_ne (f3 b o n e), upd_ne n, upd_ne (f2 b o n e), upd_ne n, upd_ne (f1 b o n e), upd_ne n, e] at h4; cases h4
  exact q _ _ upd_same fun b o e n => by rw [upd_ne n, upd_ne (f4 b o n e), upd_ne n, upd_ne (f3 b o n e), upd_ne n, upd_ne (f2 b o n e), upd_ne n, upd_ne (f1 b o n e), upd_ne n]; exact e
theorem w_house {F : Fc} {X : Cx} {es : List Sl} {Φ : D → Prop} {e : Expr} {p pos : Pos} (hf : HsF X.K X.mg) (hr : Rm 2 X.A) (hg : Gl X "House") (h : W F X e es fun d => ∃ i : Int, d = .int i ∧ ∀ C, InsF X.K C → Φ (insD C))
    (he : starEach [e] X.env = (false, eval e X.env) :: starEach [] X.env := by rfl) (hpl : (backTo pos (starEach [] X.env)).any (·.1) = false := by rfl) : W F X (.Call (.Name "House" p) [e] [] pos) es Φ := fun σ H s Q k => by
  obtain ⟨C, f, fd, hm, M, fu, hb, iF, n1, n2, n3, n4, n5⟩ := hf.ex
  refine ⟨_, pe_make M (ok_init fu iF.cl n1 n2 n3 n4 n5) hr.ro hg hm hb .nil pass0 (pa_cons can_e pa_nil he) (by decide) he hpl, ?_⟩
  refine h σ H s _ fun v d H1 s1 x1 t1 ⟨i, e, hq⟩ => ?_
  subst e
  obtain rfl := t1.int_inv
  refine fun x dx nx ndx ne => ⟨x, dx, i, rfl, upd_same, fun H' fs hx hk => ⟨rfl, ?_⟩⟩
  have gr : ∀ b o, H1 b = some o → H' b = some o := fun b o e => hk b o (by rw [upd_ne (ne_of_none e nx), upd_ne (ne_of_none e ndx)]; exact e) (ne_of_none e nx)
  exact k _ _ H' (s1.grow gr) (x1.trans' (ExM.of gr)) (.ins hx (s1.fresh nx)) (hq C iF)
theorem hs_wd {n : Nat} : Sb (fun d => ∃ C, d = insD C ∧ InsF K C) (Wd K n) := fun _ ⟨C, e, h⟩ => e ▸ .ins h
abbrev HsT (K : PySem.W.Frag) : Ty := fun d => ∃ C, d = insD C ∧ InsF K C
theorem t_house {F : Fc} {X : Cx} {τ : List Sy} {e : Expr} {p pos : Pos} {l h : Int} (hf : HsF X.K X.mg) (hr : Rm 2 X.A) (hg : Gl X "House") (ha : WT F X e τ (TI l h)) (he : starEach [e] X.env = (false, eval e X.env) :: starEach [] X.env := by rfl) (hpl : (backTo pos (starEach [] X.env)).any (·.1) = false := by rfl) : WT F X (.Call (.Name "House" p) [e] [] pos) τ (HsT X.K) := fun es g =>
  w_house hf hr hg ((ha es g).imp fun _ ⟨i, e, _⟩ => ⟨i, e, fun C h => ⟨C, rfl, h⟩⟩) he hpl
theorem kw_iss {K : PySem.W.Frag} : ∀ f fd, Fun K "is_show" "is_show" (topS 29) f fd → KwOk K fd ["r", "thing"] ["thing", "r"] 0 [1, 0] := fun f fd F =>
  kw_ok F fun _ _ _ _ _ _ us ws h1 h2 => match us, ws, h1, h2 with
    | [], [_, _], _, _ => rfl
theorem rp_bb (a b : Bool) : ReprOk (.tuple [.bool a, .bool b]) := by cases a <;> cases b <;> exact ⟨by decide +kernel, by decide +kernel, by decide +kernel, by decide +kernel⟩
abbrev s__law_is_told : Stmt := topS 102
abbrev n__law_is_told : List Str := ["_law_r", "_law_thing", "_law_due"]
theorem sc__law_is_told : FnScope ["_law_r", "_law_thing", "_law_due"] ["_law_r", "_law_thing"] (defScope s__law_is_told) := ⟨rfl, rfl, rfl, by decide +kernel, rfl, by decide +kernel, by decide +kernel⟩
theorem ok__law_is_told (B : A3.Be mg) (F : Fun K "_law_is_told" "_law_is_told" s__law_is_told f fd) (k1 : KnP P w K mg base "_law_is_show" 95 3 ["_law_r", "_law_thing"] (SpAny K showB)) (k2 : KnP P w K mg base "_law_is_small" 96 1 ["_law_show_here"] (Pu (Tup [(TV (TT [(TV (TI (-100000000000000000000000000000000000000000000000000000000000000000000000000000000000000000000000000000000000000000000000000000000000000000000000000000000000000000000000000000000000000000000000000000000000000000000000000000000000000000000000000000000000000000000000000000000000000000000000000000000000000) 100000000000000000000000000000000000000000000000000000000000000000000000000000000000000000000000000000000000000000000000000000000000000000000000000000000000000000000000000000000000000000000000000000000000000000000000000000000000000000000000000000000000000000000000000000000000000000000000000000000000000) 1 4), (TI 1 4), (TI (-100000000000000000000000000000000000000000000000000000000000000000000000000000000000000000000000000000000000000000000000000000000000000000000000000000000000000000000000000000000000000000000000000000000000000000000000000000000000000000000000000000000000000000000000000000000000000000000000000000000000000) 100000000000000000000000000000000000000000000000000000000000000000000000000000000000000000000000000000000000000000000000000000000000000000000000000000000000000000000000000000000000000000000000000000000000000000000000000000000000000000000000000000000000000000000000000000000000000000000000000000000000000)]) 0 3100)]) (fun _ d => TB d))) (k3 : KnP P w K mg base "is_show" 29 5 ["r", "thing"] (SpAny K showB)) : FnG P w K mg base 6 f fd ["_law_r", "_law_thing"] (Pu (Tup [TI 1 4, A3.Wd K 0]) (fun _ d => TQ (.bool true) d)) := by
  refine ok_pu F sc__law_is_told (fun ds h => by have := tup_len h; simp only [List.length_cons, List.length_nil] at this ⊢; omega) (by decide) fun cdv A outer s H E hr F ds hw h => ?_
  obtain ⟨_, d, rfl, ⟨r, rfl, r1, r4⟩, wd⟩ := tup2 h
  have ay : Ay K d := ⟨0, by decide, wd⟩
  repeat walk_at "dw"
  refine ws_set (i := 2) sc__law_is_told.nd rfl (by first | exact .inl rfl | exact .inr rfl) (by exact (by decide : 2 < 3)) ?_
  refine w_call (k1.up (by decide)) hr rfl ?_
  repeat walk_at "dw"
  refine ⟨⟨r, d, rfl, ay⟩, fun v hv => ?_⟩
  obtain rfl := hv r d rfl
  have tail : ∀ {es : List Sl}, es = [.d (.int r), .d d, .d (.bool (showB r d))] → WB F (Xf P w K mg base n__law_is_told "_law_is_told" s__law_is_told f cdv A outer s H E) ((defBody s__law_is_told).drop 2) es { nx := fun _ => TQ (.bool true) .none, rt := fun d => TQ (.bool true) d } := fun {es} he => by
    subst he
    refine wb_cons ?_
    repeat walk_at "dw"
    refine w_callB rfl B.b.repr PyProof.Rows.boot_repr ?_
    repeat walk_at "dw"
    refine w_call (k3.up (by decide)) hr rfl ?_
    repeat walk_at "dw"
    refine ⟨⟨r, d, rfl, ay⟩, fun v hv => ?_⟩
    obtain rfl := hv r d rfl
    repeat walk_at "dw"
    refine w_callK0 (k3.up (by decide)) hr rfl kw_iss ?_
    repeat walk_at "dw"
    refine ⟨rfl, ⟨r, d, rfl, ay⟩, fun v hv => ?_⟩
    obtain rfl := hv r d rfl
    repeat walk_at "dw"
    refine ⟨_, cd_reprT hr.gu hr.ro.units (rp_bb _ _), ?_⟩
    refine w_callB rfl B.b.repr PyProof.Rows.boot_repr ?_
    repeat walk_at "dw"
    refine ⟨_, cd_reprT hr.gu hr.ro.units (rp_bb _ _), ?_⟩
    generalize PyData.shown _ = txt
    repeat walk_at "dw"
    rw [decide_eq_true rfl]
    rfl
  cases e : showB r d with
  | false =>
    repeat walk_at "dw"
    rw [e] at tail
    refine iteF rfl ?_
    first | exact tail rfl | (refine iteF rfl ?_; exact tail rfl) | (refine iteF rfl ?_; repeat walk_at "dw"; exact tail rfl)
  | true =>
    repeat walk_at "dw"
    rw [e] at tail
    refine iteT rfl ?_
    repeat walk_at "dw"
    refine w_call (k2.up (by decide)) hr rfl ?_
    repeat walk_at "dw"
    refine ⟨.cons (big_of r1 r4 ay e) .nil, fun v hv => ?_⟩
    obtain ⟨k, rfl⟩ := hv
    repeat walk_at "dw"
    cases k with
    | true =>
      exact DW.iteF rfl (wb_nil (tail rfl))
    | false =>
      refine iteT rfl ?_
      repeat walk_at "dw"
      rfl
end
end A7
namespace A7
open PySem PySem.W L2 RZ PyProof.Rows DW K9 K4 A3
section
variable {P : Program} {w : World} {K : PySem.W.Frag} {mg : Str → Option Value} {base : Heap} {f : Addr} {fd : FuncData}
structure Defs (P : Program) (w : World) (K : PySem.W.Frag) (mg : Str → Option Value) (base : Heap) : Prop where
  draw : KnP P w K mg base "_law_draw" 81 1 ["_law_deck_here", "_law_many"] SpDraw
  pick : KnP P w K mg base "_law_pick" 82 2 ["_law_deck_here", "_law_some"] SpPick
  dirs : KnP P w K mg base "_law_directions" 83 3 ["_law_deck_here"] SpDirs
  free : KnP P w K mg base "_law_free" 99 5 ["_law_deck_here", "_law_r", "_law_most"] SpFree
  row : KnP P w K mg base "_law_row" 91 3 ["_law_deck_here", "_law_r", "_law_most"] SpRow
  shw : KnP P w K mg base "_law_show" 94 2 ["_law_r", "_law_row_here"] SpShow
  iss : KnP P w K mg base "is_show" 29 5 ["r", "thing"] (SpAny K showB)
  any : KnP P w K mg base "_law_any" 84 6 ["_law_deck_here", "_law_deep"] (Dr (Tup [TI 0 3]) (fun _ d => A3.Wd K 0 d))
  bent : KnP P w K mg base "_law_bent" 86 10 ["_law_deck_here", "_law_thing", "_law_deep"] (Dr (Tup [Ni false, TI 0 4]) (fun _ d => A3.Wd K 0 d))
  turn : KnP P w K mg base "_law_turned" 101 3 ["_law_deck_here", "_law_show_here"] (Dr (Tup [(TV (TT [(TV (TI (-10000000000000000000000000000000000000000000000000000000000000000000000000000000000000000000000000000000000000000000000000) 10000000000000000000000000000000000000000000000000000000000000000000000000000000000000000000000000000000000000000000000000) 1 4), (TI 1 4), (TI (-10000000000000000000000000000000000000000000000000000000000000000000000000000000000000000000000000000000000000000000000000) 10000000000000000000000000000000000000000000000000000000000000000000000000000000000000000000000000000000000000000000000000)]) 1 300)]) (fun _ d => A3.Wd K 0 d))
  spo : KnP P w K mg base "_law_spoilt" 100 3 ["_law_deck_here", "_law_r", "_law_show_here"] (Dr (Tup [TI 1 4, (TV (TT [(TV (TI (-10000000000000000000000000000000000000000000000000000000000000000000000000000000000000000000000000000000000000000000000000) 10000000000000000000000000000000000000000000000000000000000000000000000000000000000000000000000000000000000000000000000000) 1 4), (TI 1 4), (TI (-10000000000000000000000000000000000000000000000000000000000000000000000000000000000000000000000000000000000000000000000000) 10000000000000000000000000000000000000000000000000000000000000000000000000000000000000000000000000000000000000000000000000)]) 1 300)]) (fun _ d => A3.Wd K 0 d))
  told : KnP P w K mg base "_law_is_told" 102 6 ["_law_r", "_law_thing"] (Pu (Tup [TI 1 4, A3.Wd K 0]) (fun _ d => TQ (.bool true) d))
abbrev s_law : Stmt := topS 103
abbrev n_law : List Str := ["_law_script", "_law_deck_here", "_law_r", "_law_other", "_law_full", "_law_near", "_law_walked", "_law_show_here", "_law_house", "_law_some", "_law_turn", "_law_way", "_law_thing"]
theorem sc_law : FnScope ["_law_script", "_law_deck_here", "_law_r", "_law_other", "_law_full", "_law_near", "_law_walked", "_law_show_here", "_law_house", "_law_some", "_law_turn", "_law_way", "_law_thing"] ["_law_script"] (defScope s_law) := ⟨rfl, rfl, rfl, by decide +kernel, rfl, by decide +kernel, by decide +kernel⟩
def es_law : List Sl := [.no, .dk, .no, .no, .no, .no, .no, .no, .no, .no, .no, .no, .no]
theorem law_rest (B : A3.Be mg) (HF : HsF K mg) (T : Defs P w K mg base) (cdv : Value) (A : Around) (outer : List Env) (s : Shared) (H : Hp) (E : XK) (hr : Rm 12 (A.deeper (envOfC "law" (defScope s_law) s.heap.objs.size f cdv))) (F : Fc) :
    WB F (Xf P w K mg base n_law "law" s_law f cdv A outer s H E) ((defBody s_law).drop 1) es_law { nx := fun _ => False, rt := fun d => d = .bool true } := by
  refine bt_run (τ := [.no, .dk, .no, .no, .no, .no, .no, .no, .no, .no, .no, .no, .no]) (τ' := NEV) (R := (TQ (.bool true))) ?_ (.cons (.inl rfl) (.cons rfl (.cons (.inl rfl) (.cons (.inl rfl) (.cons (.inl rfl) (.cons (.inl rfl) (.cons (.inl rfl) (.cons (.inl rfl) (.cons (.inl rfl) (.cons (.inl rfl) (.cons (.inl rfl) (.cons (.inl rfl) (.cons (.inl rfl) .nil))))))))))))) (fun _ z => (nev z).elim) (fun _ q => q)
  refine bt_cons (τ1 := [.no, .dk, .d (TI 1 4), .no, .no, .no, .no, .no, .no, .no, .no, .no, .no]) (st_set (i := 2) (t := (TI 1 4)) (t_callk (i := 1) (t := (TI 1 4)) (T.dirs.up (by decide)) hr (by rfl) (by rfl) wat_nil ap_dirs) sc_law.nd rfl (by first | exact .inl rfl | exact .inr rfl) (by show 2 < 13; decide)) ?_
  refine bt_fixI (i := 2) rfl fun r r1 r2 => ?_
  refine bt_cons (τ1 := [.no, .dk, .d (TI r r), .d (TI 1 4), .d (SH r), .no, .no, .no, .no, .no, .no, .no, .no]) (st_par (i := 3) (j := 4) (t := (TI 1 4)) (u := (SH r)) rfl sc_law.nd rfl rfl (by decide) rfl rfl (by show 3 < 13; decide) (by show 4 < 13; decide) (WT.sub (u := (TI 1 4)) (t_add t_intI (WT.sub (u := (TI 0 3)) (t_callk (i := 1) (T.draw.up (by decide)) hr (by rfl) (by rfl) (wat_cons t_intI wat_nil) (ap_draw (by omega) (by omega))) (sb_I (by omega) (by omega)))) (sb_I (by omega) (by omega))) (t_callk (i := 1) (t := (SH r)) (T.free.up (by decide)) hr (by rfl) (by rfl) (wat_cons (t_var (i := 2) (t := (TI r r)) rfl) (wat_cons (t_if (ct_eq (WT.sub (u := (TI 0 3)) (t_callk (i := 1) (T.draw.up (by decide)) hr (by rfl) (by rfl) (wat_cons t_intI wat_nil) (ap_draw (by omega) (by omega))) (sb_I (by omega) (by omega))) t_intI) (WT.sub (u := (TI 20 300)) t_intI (sb_I (by omega) (by omega))) (WT.sub (u := (TI 20 300)) t_intI (sb_I (by omega) (by omega)))) wat_nil)) (ap_free r1 r2 (by omega) (by omega)))) ?_
  refine bt_cons (τ1 := [.no, .dk, .d (TI r r), .d (TI 1 4), .d (SH r), .d (SH r), .d (SH r), .no, .no, .no, .no, .no, .no]) (st_par (i := 5) (j := 6) (t := (SH r)) (u := (SH r)) rfl sc_law.nd rfl rfl (by decide) rfl rfl (by show 5 < 13; decide) (by show 6 < 13; decide) (t_callk (i := 1) (t := (SH r)) (T.free.up (by decide)) hr (by rfl) (by rfl) (wat_cons (t_var (i := 2) (t := (TI r r)) rfl) (wat_cons t_intI wat_nil)) (ap_free r1 r2 (by omega) (by omega))) (t_call (t := (SH r)) (T.shw.up (by decide)) hr (by rfl) (wat_cons (t_var (i := 2) (t := (TI r r)) rfl) (wat_cons (t_callk (i := 1) (t := (TRow r 0 60)) (T.row.up (by decide)) hr (by rfl) (by rfl) (wat_cons (t_var (i := 2) (t := (TI r r)) rfl) (wat_cons t_intI wat_nil)) (ap_row r1 r2 (by omega) (by omega))) wat_nil)) (ap_show r1 r2))) ?_
  refine bt_cons (τ1 := [.no, .dk, .d (TI r r), .d (TI 1 4), .d (SH r), .d (SH r), .d (SH r), .no, .no, .no, .no, .no, .no]) (st_for (L := [7]) (τi := fun i => [.no, .dk, .d (TI r r), .d (TI 1 4), .d (SH r), .d (SH r), .d (SH r), .no, .no, .no, .no, .no, .no]) (τb := fun i => [.no, .dk, .d (TI r r), .d (TI 1 4), .d (SH r), .d (SH r), .d (SH r), .d (SH r), .no, .no, .no, .no, .no]) PassesOwn.never rfl sys_r (itt_tup (WT.sub (u := (TV (SH r) 4 4)) (t_tup (wat_cons (t_var (i := 4) (t := (SH r)) rfl) (wat_cons (t_var (i := 5) (t := (SH r)) rfl) (wat_cons (t_var (i := 6) (t := (SH r)) rfl) (wat_cons (t_tup wat_nil (by show 0 ≤ 1000; decide)) wat_nil)))) (by show 4 ≤ 1000; decide)) (sb_TV (alls_cons sb_r (alls_cons sb_r (alls_cons sb_r (alls_cons sh_nil alls_nil)))) (by show _ ≤ 4; omega) (by show 4 ≤ _; omega)))) (fun i hi => (tgt_name (i := 7) sc_law.nd rfl (by first | exact .inl rfl | exact .inr rfl) (by show 7 < 13; decide))) (fun i hi => ?_) (fun i hlo hhi => sys_r)) ?_
  · refine bt_cons (τ1 := [.no, .dk, .d (TI r r), .d (TI 1 4), .d (SH r), .d (SH r), .d (SH r), .d (SH r), .no, .no, .no, .no, .no]) (st_if (ct_isnT (t_call (t := (TQ (.bool true))) (T.iss.up (by decide)) hr (by rfl) (wat_cons (t_var (i := 2) (t := (TI r r)) rfl) (wat_cons (t_var (i := 7) (t := (SH r)) rfl) wat_nil)) ap_iss)) ?_ ?_) ?_
    · exact BT.sub bt_nev sys_r (fun _ h => h)
    · exact bt_nil
    exact BT.sub bt_nil sys_r (sys_cons sy_r (sys_cons sy_r (sys_cons sy_r (sys_cons sy_r (sys_cons sy_r (sys_cons sy_r (sys_cons sy_r (sys_cons sy_no (sys_cons sy_r (sys_cons sy_r (sys_cons sy_r (sys_cons sy_r (sys_cons sy_r sys_nil)))))))))))))
  refine bt_cons (τ1 := [.no, .dk, .d (TI r r), .d (TI 1 4), .d (SH r), .d (SH r), .d (SH r), .no, .d (HsT K), .no, .no, .no, .no]) (st_set (i := 8) (t := (HsT K)) (t_house HF (hr.mono (by decide)) (by rfl) (t_min2 rfl B.b.min (by rfl) (t_var (i := 2) (t := (TI r r)) rfl) t_intI (m := 1) (n := 3) (by omega) (by omega) (by omega))) sc_law.nd rfl (by first | exact .inl rfl | exact .inr rfl) (by show 8 < 13; decide)) ?_
  refine bt_cons (τ1 := [.no, .dk, .d (TI r r), .d (TI 1 4), .d (SH r), .d (SH r), .d (SH r), .no, .d (HsT K), .d (LV (A3.Wd K 0) 16 16), .no, .no, .no]) (st_set (i := 9) (t := (LV (A3.Wd K 0) 16 16)) (t_l (lt_lst (t := (A3.Wd K 0)) (wat_cons (t_var (i := 4) (t := (SH r)) rfl) (wat_cons (t_var (i := 5) (t := (SH r)) rfl) (wat_cons (t_var (i := 6) (t := (SH r)) rfl) (wat_cons (t_callk (i := 1) (t := (A3.Wd K 0)) (T.any.up (by decide)) hr (by rfl) (by rfl) (wat_cons (WT.sub (u := (TI 0 3)) t_intI (sb_I (by omega) (by omega))) wat_nil) (fun _ h => ⟨h, fun _ q => q⟩)) (wat_cons (t_var (i := 8) (t := (HsT K)) rfl) (wat_cons (t_tup (wat_cons (t_var (i := 8) (t := (HsT K)) rfl) wat_nil) (by show 1 ≤ 1000; decide)) (wat_cons t_none (wat_cons t_str (wat_cons (t_l (lt_lst (t := (A3.Wd K 0)) wat_nil alls_nil (n := 0) rfl (by decide))) (wat_cons t_dct0 (wat_cons t_bool (wat_cons t_intI (wat_cons (t_var (i := 2) (t := (TI r r)) rfl) (wat_cons (t_tup (wat_cons (t_tup wat_nil (by show 0 ≤ 1000; decide)) wat_nil) (by show 1 ≤ 1000; decide)) (wat_cons (t_tup (wat_cons t_none wat_nil) (by show 1 ≤ 1000; decide)) (wat_cons t_str wat_nil)))))))))))))))) (alls_cons (sb_t sh_V (wd_V (wd_T (alls_cons (wd_V (wd_I (by omega) (by omega)) (by omega)) (alls_cons (wd_I (by omega) (by omega)) (alls_cons (wd_I (by omega) (by omega)) alls_nil))) (by show 3 ≤ 3000; decide)) (by omega))) (alls_cons (sb_t sh_V (wd_V (wd_T (alls_cons (wd_V (wd_I (by omega) (by omega)) (by omega)) (alls_cons (wd_I (by omega) (by omega)) (alls_cons (wd_I (by omega) (by omega)) alls_nil))) (by show 3 ≤ 3000; decide)) (by omega))) (alls_cons (sb_t sh_V (wd_V (wd_T (alls_cons (wd_V (wd_I (by omega) (by omega)) (by omega)) (alls_cons (wd_I (by omega) (by omega)) (alls_cons (wd_I (by omega) (by omega)) alls_nil))) (by show 3 ≤ 3000; decide)) (by omega))) (alls_cons sb_r (alls_cons hs_wd (alls_cons (wd_T (alls_cons hs_wd alls_nil) (by show 1 ≤ 3000; decide)) (alls_cons wd_N (alls_cons (wd_Q (by decide)) (alls_cons (wd_L sb_r (by omega)) (alls_cons wd_D (alls_cons wd_b (alls_cons (wd_I (by omega) (by omega)) (alls_cons (wd_I (by omega) (by omega)) (alls_cons (wd_T (alls_cons (wd_T alls_nil (by show 0 ≤ 3000; decide)) alls_nil) (by show 1 ≤ 3000; decide)) (alls_cons (wd_T (alls_cons wd_N alls_nil) (by show 1 ≤ 3000; decide)) (alls_cons (wd_Q (by decide)) alls_nil)))))))))))))))) (n := 16) rfl (by decide))) sc_law.nd rfl (by first | exact .inl rfl | exact .inr rfl) (by show 9 < 13; decide)) ?_
  refine bt_cons (τ1 := [.no, .dk, .d (TI r r), .d (TI 1 4), .d (SH r), .d (SH r), .d (SH r), .no, .d (HsT K), .d (LV (A3.Wd K 0) 21 21), .no, .no, .no]) (st_set (i := 9) (t := (LV (A3.Wd K 0) 21 21)) (WT.sub (u := (LV (A3.Wd K 0) 21 21)) (t_catL (t_var (i := 9) (t := (LV (A3.Wd K 0) 16 16)) rfl) (t_l (lt_lst (t := (A3.Wd K 0)) (wat_cons (t_tup (wat_cons (t_repT1 (t := (TI 0 0)) (t_tup (wat_cons t_intI wat_nil) (by show 1 ≤ 1000; decide)) (t_var (i := 2) (t := (TI r r)) rfl) (by omega) (by omega) (lo := (r.toNat)) (hi := (r.toNat)) (by omega) (by omega)) (wat_cons t_intI (wat_cons t_intI wat_nil))) (by show 3 ≤ 1000; decide)) (wat_cons (t_l (lt_lst (t := (TT [(TV (TI 0 0) (r.toNat) (r.toNat)), (TI 1 1), (TI 1 1)])) (wat_cons (t_tup (wat_cons (t_repT1 (t := (TI 0 0)) (t_tup (wat_cons t_intI wat_nil) (by show 1 ≤ 1000; decide)) (t_var (i := 2) (t := (TI r r)) rfl) (by omega) (by omega) (lo := (r.toNat)) (hi := (r.toNat)) (by omega) (by omega)) (wat_cons t_intI (wat_cons t_intI wat_nil))) (by show 3 ≤ 1000; decide)) wat_nil) (alls_cons sb_r alls_nil) (n := 1) rfl (by decide))) (wat_cons (t_tup (wat_cons (t_tup (wat_cons (t_repT1 (t := (TI 0 0)) (t_tup (wat_cons t_intI wat_nil) (by show 1 ≤ 1000; decide)) (t_var (i := 2) (t := (TI r r)) rfl) (by omega) (by omega) (lo := (r.toNat)) (hi := (r.toNat)) (by omega) (by omega)) (wat_cons t_intI (wat_cons t_intI wat_nil))) (by show 3 ≤ 1000; decide)) wat_nil) (by show 1 ≤ 1000; decide)) (wat_cons (t_tup (wat_cons (t_tup (wat_cons (t_repT1 (t := (TI 0 0)) (t_tup (wat_cons t_intI wat_nil) (by show 1 ≤ 1000; decide)) (t_var (i := 2) (t := (TI r r)) rfl) (by omega) (by omega) (lo := (r.toNat)) (hi := (r.toNat)) (by omega) (by omega)) (wat_cons (t_var (i := 2) (t := (TI r r)) rfl) (wat_cons (WT.sub (u := (TI (-1) (-1))) (t_neg t_intI) (sb_I (by omega) (by omega))) wat_nil))) (by show 3 ≤ 1000; decide)) wat_nil) (by show 1 ≤ 1000; decide)) (wat_cons (t_tup (wat_cons (t_tup (wat_cons (t_repT1 (t := (TI 0 0)) (t_tup (wat_cons t_intI wat_nil) (by show 1 ≤ 1000; decide)) (t_var (i := 2) (t := (TI r r)) rfl) (by omega) (by omega) (lo := (r.toNat)) (hi := (r.toNat)) (by omega) (by omega)) (wat_cons (WT.sub (u := (TI (r + 1) (r + 1))) (t_add (t_var (i := 2) (t := (TI r r)) rfl) t_intI) (sb_I (by omega) (by omega))) (wat_cons t_intI wat_nil))) (by show 3 ≤ 1000; decide)) wat_nil) (by show 1 ≤ 1000; decide)) wat_nil))))) (alls_cons (wd_T (alls_cons (wd_V (wd_I (by omega) (by omega)) (by omega)) (alls_cons (wd_I (by omega) (by omega)) (alls_cons (wd_I (by omega) (by omega)) alls_nil))) (by show 3 ≤ 3000; decide)) (alls_cons (wd_L (wd_T (alls_cons (wd_V (wd_I (by omega) (by omega)) (by omega)) (alls_cons (wd_I (by omega) (by omega)) (alls_cons (wd_I (by omega) (by omega)) alls_nil))) (by show 3 ≤ 3000; decide)) (by omega)) (alls_cons (wd_T (alls_cons (wd_T (alls_cons (wd_V (wd_I (by omega) (by omega)) (by omega)) (alls_cons (wd_I (by omega) (by omega)) (alls_cons (wd_I (by omega) (by omega)) alls_nil))) (by show 3 ≤ 3000; decide)) alls_nil) (by show 1 ≤ 3000; decide)) (alls_cons (wd_T (alls_cons (wd_T (alls_cons (wd_V (wd_I (by omega) (by omega)) (by omega)) (alls_cons (wd_I (by omega) (by omega)) (alls_cons (wd_I (by omega) (by omega)) alls_nil))) (by show 3 ≤ 3000; decide)) alls_nil) (by show 1 ≤ 3000; decide)) (alls_cons (wd_T (alls_cons (wd_T (alls_cons (wd_V (wd_I (by omega) (by omega)) (by omega)) (alls_cons (wd_I (by omega) (by omega)) (alls_cons (wd_I (by omega) (by omega)) alls_nil))) (by show 3 ≤ 3000; decide)) alls_nil) (by show 1 ≤ 3000; decide)) alls_nil))))) (n := 5) rfl (by decide))) (by rw [sizeLine_eq]; omega)) (sb_L sb_r (by omega) (by omega))) sc_law.nd rfl (by first | exact .inl rfl | exact .inr rfl) (by show 9 < 13; decide)) ?_
  refine bt_cons (τ1 := [.no, .dk, .d (TI r r), .d (TI 1 4), .d (SH r), .d (SH r), .d (SH r), .no, .d (HsT K), .own (A3.Wd K 0) 24 24, .no, .no, .no]) (st_own (i := 9) (nfs_cons rfl (nfs_cons rfl (nfs_cons rfl (nfs_cons rfl (nfs_cons rfl (nfs_cons rfl (nfs_cons rfl (nfs_cons rfl (nfs_cons rfl (nfs_cons rfl (nfs_cons rfl (nfs_cons rfl (nfs_cons rfl nfs_nil))))))))))))) (lt_catL (t := (A3.Wd K 0)) (lo := 21) (hi := 21) (lo' := 3) (hi' := 3) (t_var (i := 9) (t := (LV (A3.Wd K 0) 21 21)) rfl) (t_l (lt_lst (t := (A3.Wd K 0)) (wat_cons (t_tup (wat_cons (t_tup (wat_cons (t_repT1 (t := (TI 0 0)) (t_tup (wat_cons t_intI wat_nil) (by show 1 ≤ 1000; decide)) (t_var (i := 2) (t := (TI r r)) rfl) (by omega) (by omega) (lo := (r.toNat)) (hi := (r.toNat)) (by omega) (by omega)) (wat_cons t_intI (wat_cons t_intI wat_nil))) (by show 3 ≤ 1000; decide)) (wat_cons (t_tup (wat_cons (t_repT1 (t := (TI 0 0)) (t_tup (wat_cons t_intI wat_nil) (by show 1 ≤ 1000; decide)) (t_var (i := 2) (t := (TI r r)) rfl) (by omega) (by omega) (lo := (r.toNat)) (hi := (r.toNat)) (by omega) (by omega)) (wat_cons t_intI (wat_cons t_intI wat_nil))) (by show 3 ≤ 1000; decide)) wat_nil)) (by show 2 ≤ 1000; decide)) (wat_cons (t_tup (wat_cons (t_tup (wat_cons (t_repT1 (t := (TI 0 0)) (t_tup (wat_cons t_intI wat_nil) (by show 1 ≤ 1000; decide)) (t_var (i := 2) (t := (TI r r)) rfl) (by omega) (by omega) (lo := (r.toNat)) (hi := (r.toNat)) (by omega) (by omega)) (wat_cons t_intI (wat_cons t_intI wat_nil))) (by show 3 ≤ 1000; decide)) (wat_cons (t_tup (wat_cons (t_repT1 (t := (TI 0 0)) (t_tup (wat_cons t_intI wat_nil) (by show 1 ≤ 1000; decide)) (t_var (i := 2) (t := (TI r r)) rfl) (by omega) (by omega) (lo := (r.toNat)) (hi := (r.toNat)) (by omega) (by omega)) (wat_cons t_intI (wat_cons t_intI wat_nil))) (by show 3 ≤ 1000; decide)) wat_nil)) (by show 2 ≤ 1000; decide)) (wat_cons (t_tup (wat_cons (t_tup (wat_cons (t_repT1 (t := (TI 0 0)) (t_tup (wat_cons t_intI wat_nil) (by show 1 ≤ 1000; decide)) (t_var (i := 2) (t := (TI r r)) rfl) (by omega) (by omega) (lo := (r.toNat)) (hi := (r.toNat)) (by omega) (by omega)) (wat_cons (t_var (i := 2) (t := (TI r r)) rfl) (wat_cons (WT.sub (u := (TI 1000000000000000000000000000000000000000000000000000000000000000000000000000000000000000000000000000 1000000000000000000000000000000000000000000000000000000000000000000000000000000000000000000000000000)) (t_mulE (t_pow (z := 1000000000000000000000000000000000000000000000000000000000000) ⟨by decide, by decide, by decide⟩ (by decide +kernel)) (t_pow (z := 1000000000000000000000000000000000000000) ⟨by decide, by decide, by decide⟩ (by decide +kernel)) (by show _ < _; decide +kernel) (by show _ < _; decide +kernel)) (sb_I (by decide +kernel) (by decide +kernel))) wat_nil))) (by show 3 ≤ 1000; decide)) wat_nil) (by show 1 ≤ 1000; decide)) wat_nil))) (alls_cons (wd_T (alls_cons (wd_T (alls_cons (wd_V (wd_I (by omega) (by omega)) (by omega)) (alls_cons (wd_I (by omega) (by omega)) (alls_cons (wd_I (by omega) (by omega)) alls_nil))) (by show 3 ≤ 3000; decide)) (alls_cons (wd_T (alls_cons (wd_V (wd_I (by omega) (by omega)) (by omega)) (alls_cons (wd_I (by omega) (by omega)) (alls_cons (wd_I (by omega) (by omega)) alls_nil))) (by show 3 ≤ 3000; decide)) alls_nil)) (by show 2 ≤ 3000; decide)) (alls_cons (wd_T (alls_cons (wd_T (alls_cons (wd_V (wd_I (by omega) (by omega)) (by omega)) (alls_cons (wd_I (by omega) (by omega)) (alls_cons (wd_I (by omega) (by omega)) alls_nil))) (by show 3 ≤ 3000; decide)) (alls_cons (wd_T (alls_cons (wd_V (wd_I (by omega) (by omega)) (by omega)) (alls_cons (wd_I (by omega) (by omega)) (alls_cons (wd_I (by omega) (by omega)) alls_nil))) (by show 3 ≤ 3000; decide)) alls_nil)) (by show 2 ≤ 3000; decide)) (alls_cons (wd_T (alls_cons (wd_T (alls_cons (wd_V (wd_I (by omega) (by omega)) (by omega)) (alls_cons (wd_I (by omega) (by omega)) (alls_cons (wd_I (by omega) (by omega)) alls_nil))) (by show 3 ≤ 3000; decide)) alls_nil) (by show 1 ≤ 3000; decide)) alls_nil))) (n := 3) rfl (by decide))) (by rw [sizeLine_eq]; omega)) sc_law.nd rfl (by first | exact .inl rfl | exact .inr rfl) (by show 9 < 13; decide)) ?_
  refine bt_cons (τ1 := [.no, .dk, .d (TI r r), .d (TI 1 4), .d (SH r), .d (SH r), .d (SH r), .no, .d (HsT K), .own (A3.Wd K 0) 24 40, .no, .no, .no]) (st_for (L := [10]) (τi := fun i => [.no, .dk, .d (TI r r), .d (TI 1 4), .d (SH r), .d (SH r), .d (SH r), .no, .d (HsT K), .own (A3.Wd K 0) 24 (24 + i), .no, .no, .no]) (τb := fun i => [.no, .dk, .d (TI r r), .d (TI 1 4), .d (SH r), .d (SH r), .d (SH r), .no, .d (HsT K), .own (A3.Wd K 0) 24 (24 + i), .d (TI 0 15), .no, .no]) PassesOwn.never rfl sys_r (itt_sub (u := (TI 0 15)) (lo' := 16) (hi' := 16) (itt_range B.b.range (by rfl) t_intI (by omega) (by omega)) (sb_I (by omega) (by omega)) (by omega) (by omega)) (fun i hi => (tgt_name (i := 10) sc_law.nd rfl (by first | exact .inl rfl | exact .inr rfl) (by show 10 < 13; decide))) (fun i hi => ?_) (fun i hlo hhi => (sys_cons sy_r (sys_cons sy_r (sys_cons sy_r (sys_cons sy_r (sys_cons sy_r (sys_cons sy_r (sys_cons sy_r (sys_cons sy_r (sys_cons sy_r (sys_cons (sy_own sb_r (by omega) (by omega)) (sys_cons sy_r (sys_cons sy_r (sys_cons sy_r sys_nil))))))))))))))) ?_
  · refine bt_cons (τ1 := [.no, .dk, .d (TI r r), .d (TI 1 4), .d (SH r), .d (SH r), .d (SH r), .d (SH r), .d (HsT K), .own (A3.Wd K 0) 24 (24 + i), .d (TI 0 15), .no, .no]) (st_set (i := 7) (t := (SH r)) (t_callk (i := 1) (t := (SH r)) (T.pick.up (by decide)) hr (by rfl) (by rfl) (wat_cons (t_l (lt_lst (t := (SH r)) (wat_cons (t_var (i := 4) (t := (SH r)) rfl) (wat_cons (t_var (i := 5) (t := (SH r)) rfl) (wat_cons (t_var (i := 5) (t := (SH r)) rfl) (wat_cons (t_var (i := 6) (t := (SH r)) rfl) (wat_cons (t_var (i := 6) (t := (SH r)) rfl) (wat_cons (t_tup (wat_cons (t_tup (wat_cons (t_repT1 (t := (TI 0 0)) (t_tup (wat_cons t_intI wat_nil) (by show 1 ≤ 1000; decide)) (t_var (i := 2) (t := (TI r r)) rfl) (by omega) (by omega) (lo := (r.toNat)) (hi := (r.toNat)) (by omega) (by omega)) (wat_cons t_intI (wat_cons t_intI wat_nil))) (by show 3 ≤ 1000; decide)) wat_nil) (by show 1 ≤ 1000; decide)) wat_nil)))))) (alls_cons sb_r (alls_cons sb_r (alls_cons sb_r (alls_cons sb_r (alls_cons sb_r (alls_cons (sh_unit r1 r2) alls_nil)))))) (n := 6) rfl (by decide))) wat_nil) (ap_pick (by omega) (by omega))) sc_law.nd rfl (by first | exact .inl rfl | exact .inr rfl) (by show 7 < 13; decide)) ?_
    refine bt_cons (τ1 := [.no, .dk, .d (TI r r), .d (TI 1 4), .d (SH r), .d (SH r), .d (SH r), .d (SH r), .d (HsT K), .own (A3.Wd K 0) 24 (24 + i), .d (TI 0 15), .d (TI 0 3), .no]) (st_set (i := 11) (t := (TI 0 3)) (WT.sub (u := (TI 0 3)) (t_callk (i := 1) (T.draw.up (by decide)) hr (by rfl) (by rfl) (wat_cons t_intI wat_nil) (ap_draw (by omega) (by omega))) (sb_I (by omega) (by omega))) sc_law.nd rfl (by first | exact .inl rfl | exact .inr rfl) (by show 11 < 13; decide)) ?_
    refine bt_cons (τ1 := [.no, .dk, .d (TI r r), .d (TI 1 4), .d (SH r), .d (SH r), .d (SH r), .d (TO (SH r) (TV (TT [(TV (TI (-10000000000000000000000000000000000000000000000000000000000000000000000000000000000000000000000000000000000000000000000000) 10000000000000000000000000000000000000000000000000000000000000000000000000000000000000000000000000000000000000000000000000) 1 4), (TI 1 4), (TI (-10000000000000000000000000000000000000000000000000000000000000000000000000000000000000000000000000000000000000000000000000) 10000000000000000000000000000000000000000000000000000000000000000000000000000000000000000000000000000000000000000000000000)]) 1 300)), .d (HsT K), .own (A3.Wd K 0) 25 ((24 + i) + 1), .d (TI 0 15), .d (TI 0 3), .no]) (st_if (ct_w (ctw_or (ct_sub (σ1 := [.no, .dk, .d (TI r r), .d (TI 1 4), .d (SH r), .d (SH r), .d (SH r), .d (SH r), .d (HsT K), .own (A3.Wd K 0) 24 (24 + i), .d (TI 0 15), .d (TI 0 3), .no]) (σ0 := [.no, .dk, .d (TI r r), .d (TI 1 4), .d (SH r), .d (SH r), .d (SH r), .d (SH r), .d (HsT K), .own (A3.Wd K 0) 24 (24 + i), .d (TI 0 15), .d (TI 1 3), .no]) (cr_eq (i := 11) (m := 1) (n := 3) rfl (h1 := by omega) (h2 := by omega)) (sys_cons sy_r (sys_cons sy_r (sys_cons sy_r (sys_cons sy_r (sys_cons sy_r (sys_cons sy_r (sys_cons sy_r (sys_cons sy_r (sys_cons sy_r (sys_cons sy_r (sys_cons sy_r (sys_cons (sy_d (sb_I (by omega) (by omega))) (sys_cons sy_r sys_nil))))))))))))) sys_r) (ctw_sub (σ1 := [.no, .dk, .d (TI r r), .d (TI 1 4), .d (SH r), .d (SH r), .d (SH r), .d (SH r), .d (HsT K), .own (A3.Wd K 0) 24 (24 + i), .d (TI 0 15), .d (TI 0 3), .no]) (σ0 := [.no, .dk, .d (TI r r), .d (TI 1 4), .d (SH r), .d (SH r), .d (SH r), .d (TV (TT [(TV (TI (-10000000000000000000000000000000000000000000000000000000000000000000000000000000000000000000000000000000000000000000000000) 10000000000000000000000000000000000000000000000000000000000000000000000000000000000000000000000000000000000000000000000000) 1 4), (TI 1 4), (TI (-10000000000000000000000000000000000000000000000000000000000000000000000000000000000000000000000000000000000000000000000000) 10000000000000000000000000000000000000000000000000000000000000000000000000000000000000000000000000000000000000000000000000)]) 1 300), .d (HsT K), .own (A3.Wd K 0) 24 (24 + i), .d (TI 0 15), .d (TI 1 3), .no]) (ctw_or1 (ct_eqT0s (i := 7) (t := (SH r)) (u := (TT [(TV (TI (-10000000000000000000000000000000000000000000000000000000000000000000000000000000000000000000000000000000000000000000000000) 10000000000000000000000000000000000000000000000000000000000000000000000000000000000000000000000000000000000000000000000000) 1 4), (TI 1 4), (TI (-10000000000000000000000000000000000000000000000000000000000000000000000000000000000000000000000000000000000000000000000000) 10000000000000000000000000000000000000000000000000000000000000000000000000000000000000000000000000000000000000000000000000)])) (lo := 0) (hi := 300) hr.ro.units (sb_t sh_V sb_r) rfl)) (sys_cons sy_r (sys_cons sy_r (sys_cons sy_r (sys_cons sy_r (sys_cons sy_r (sys_cons sy_r (sys_cons sy_r (sys_cons sy_r (sys_cons sy_r (sys_cons sy_r (sys_cons sy_r (sys_cons (sy_d (sb_I (by omega) (by omega))) (sys_cons sy_r sys_nil))))))))))))) sys_r))) ?_ ?_) ?_
    · refine bt_cons (τ1 := [.no, .dk, .d (TI r r), .d (TI 1 4), .d (SH r), .d (SH r), .d (SH r), .d (SH r), .d (HsT K), .own (A3.Wd K 0) 25 ((24 + i) + 1), .d (TI 0 15), .d (TI 0 3), .no]) (st_append (i := 9) (t := (A3.Wd K 0)) (lo := 24) (hi := (24 + i)) rfl (t_callk (i := 1) (t := (A3.Wd K 0)) (T.bent.up (by decide)) hr (by rfl) (by rfl) (wat_cons (WT.sub (u := (Ni false)) (t_var (i := 7) (t := (SH r)) rfl) (sb_t sh_V (ni_V (ni_T (alls_cons (ni_V (ni_I (by omega) (by omega)) (by omega)) (alls_cons (ni_I (by omega) (by omega)) (alls_cons (ni_I (by omega) (by omega)) alls_nil))) (by show 3 ≤ 400; decide)) (by omega)))) (wat_cons (WT.sub (u := (TI 0 4)) t_intI (sb_I (by omega) (by omega))) wat_nil)) (fun _ h => ⟨h, fun _ q => q⟩)) (by rw [sizeLine_eq]; omega) (hm := fun ha hb => pe_bm PySem.F.plainAttrs_list PySem.F.slot_list_append PySem.F.type_list_append mt_append ha (pa_cons hb pa_nil))) ?_
      exact BT.sub bt_nil sys_r (sys_cons sy_r (sys_cons sy_r (sys_cons sy_r (sys_cons sy_r (sys_cons sy_r (sys_cons sy_r (sys_cons sy_r (sys_cons (sy_d (sb_l sb_r)) (sys_cons sy_r (sys_cons sy_r (sys_cons sy_r (sys_cons sy_r (sys_cons sy_r sys_nil)))))))))))))
    · refine bt_cons (τ1 := [.no, .dk, .d (TI r r), .d (TI 1 4), .d (SH r), .d (SH r), .d (SH r), .d (TV (TT [(TV (TI (-10000000000000000000000000000000000000000000000000000000000000000000000000000000000000000000000000000000000000000000000000) 10000000000000000000000000000000000000000000000000000000000000000000000000000000000000000000000000000000000000000000000000) 1 4), (TI 1 4), (TI (-10000000000000000000000000000000000000000000000000000000000000000000000000000000000000000000000000000000000000000000000000) 10000000000000000000000000000000000000000000000000000000000000000000000000000000000000000000000000000000000000000000000000)]) 1 300), .d (HsT K), .own (A3.Wd K 0) 25 ((24 + i) + 1), .d (TI 0 15), .d (TI 1 3), .no]) (st_if (cr_eq (i := 11) (m := 2) (n := 3) rfl (h1 := by omega) (h2 := by omega)) ?_ ?_) ?_
      · refine bt_cons (τ1 := [.no, .dk, .d (TI r r), .d (TI 1 4), .d (SH r), .d (SH r), .d (SH r), .d (TV (TT [(TV (TI (-10000000000000000000000000000000000000000000000000000000000000000000000000000000000000000000000000000000000000000000000000) 10000000000000000000000000000000000000000000000000000000000000000000000000000000000000000000000000000000000000000000000000) 1 4), (TI 1 4), (TI (-10000000000000000000000000000000000000000000000000000000000000000000000000000000000000000000000000000000000000000000000000) 10000000000000000000000000000000000000000000000000000000000000000000000000000000000000000000000000000000000000000000000000)]) 1 300), .d (HsT K), .own (A3.Wd K 0) 25 ((24 + i) + 1), .d (TI 0 15), .d (TI 1 1), .no]) (st_append (i := 9) (t := (A3.Wd K 0)) (lo := 24) (hi := (24 + i)) rfl (t_callk (i := 1) (t := (A3.Wd K 0)) (T.turn.up (by decide)) hr (by rfl) (by rfl) (wat_cons (t_var (i := 7) (t := (TV (TT [(TV (TI (-10000000000000000000000000000000000000000000000000000000000000000000000000000000000000000000000000000000000000000000000000) 10000000000000000000000000000000000000000000000000000000000000000000000000000000000000000000000000000000000000000000000000) 1 4), (TI 1 4), (TI (-10000000000000000000000000000000000000000000000000000000000000000000000000000000000000000000000000000000000000000000000000) 10000000000000000000000000000000000000000000000000000000000000000000000000000000000000000000000000000000000000000000000000)]) 1 300)) rfl) wat_nil) (fun _ h => ⟨h, fun _ q => q⟩)) (by rw [sizeLine_eq]; omega) (hm := fun ha hb => pe_bm PySem.F.plainAttrs_list PySem.F.slot_list_append PySem.F.type_list_append mt_append ha (pa_cons hb pa_nil))) ?_
        exact BT.sub bt_nil sys_r (sys_cons sy_r (sys_cons sy_r (sys_cons sy_r (sys_cons sy_r (sys_cons sy_r (sys_cons sy_r (sys_cons sy_r (sys_cons sy_r (sys_cons sy_r (sys_cons sy_r (sys_cons sy_r (sys_cons (sy_d (sb_I (by omega) (by omega))) (sys_cons sy_r sys_nil)))))))))))))
      · refine bt_cons (τ1 := [.no, .dk, .d (TI r r), .d (TI 1 4), .d (SH r), .d (SH r), .d (SH r), .d (TV (TT [(TV (TI (-10000000000000000000000000000000000000000000000000000000000000000000000000000000000000000000000000000000000000000000000000) 10000000000000000000000000000000000000000000000000000000000000000000000000000000000000000000000000000000000000000000000000) 1 4), (TI 1 4), (TI (-10000000000000000000000000000000000000000000000000000000000000000000000000000000000000000000000000000000000000000000000000) 10000000000000000000000000000000000000000000000000000000000000000000000000000000000000000000000000000000000000000000000000)]) 1 300), .d (HsT K), .own (A3.Wd K 0) 25 ((24 + i) + 1), .d (TI 0 15), .d (TI 2 3), .no]) (st_append (i := 9) (t := (A3.Wd K 0)) (lo := 24) (hi := (24 + i)) rfl (t_callk (i := 1) (t := (A3.Wd K 0)) (T.spo.up (by decide)) hr (by rfl) (by rfl) (wat_cons (WT.sub (u := (TI 1 4)) (t_var (i := 2) (t := (TI r r)) rfl) (sb_I (by omega) (by omega))) (wat_cons (t_var (i := 7) (t := (TV (TT [(TV (TI (-10000000000000000000000000000000000000000000000000000000000000000000000000000000000000000000000000000000000000000000000000) 10000000000000000000000000000000000000000000000000000000000000000000000000000000000000000000000000000000000000000000000000) 1 4), (TI 1 4), (TI (-10000000000000000000000000000000000000000000000000000000000000000000000000000000000000000000000000000000000000000000000000) 10000000000000000000000000000000000000000000000000000000000000000000000000000000000000000000000000000000000000000000000000)]) 1 300)) rfl) wat_nil)) (fun _ h => ⟨h, fun _ q => q⟩)) (by rw [sizeLine_eq]; omega) (hm := fun ha hb => pe_bm PySem.F.plainAttrs_list PySem.F.slot_list_append PySem.F.type_list_append mt_append ha (pa_cons hb pa_nil))) ?_
        exact BT.sub bt_nil sys_r (sys_cons sy_r (sys_cons sy_r (sys_cons sy_r (sys_cons sy_r (sys_cons sy_r (sys_cons sy_r (sys_cons sy_r (sys_cons sy_r (sys_cons sy_r (sys_cons sy_r (sys_cons sy_r (sys_cons (sy_d (sb_I (by omega) (by omega))) (sys_cons sy_r sys_nil)))))))))))))
      exact BT.sub bt_nil sys_r (sys_cons sy_r (sys_cons sy_r (sys_cons sy_r (sys_cons sy_r (sys_cons sy_r (sys_cons sy_r (sys_cons sy_r (sys_cons (sy_d (sb_rr sb_r)) (sys_cons sy_r (sys_cons sy_r (sys_cons sy_r (sys_cons (sy_d (sb_I (by omega) (by omega))) (sys_cons sy_r sys_nil)))))))))))))
    exact BT.sub bt_nil sys_r (sys_cons sy_r (sys_cons sy_r (sys_cons sy_r (sys_cons sy_r (sys_cons sy_r (sys_cons sy_r (sys_cons sy_r (sys_cons sy_no (sys_cons sy_r (sys_cons (sy_own sb_r (by omega) (by omega)) (sys_cons sy_no (sys_cons sy_no (sys_cons sy_r sys_nil)))))))))))))
  refine bt_freeze (i := 9) (t := (A3.Wd K 0)) (lo := 24) (hi := 40) rfl ?_
  refine bt_cons (τ1 := [.no, .dk, .d (TI r r), .d (TI 1 4), .d (SH r), .d (SH r), .d (SH r), .no, .d (HsT K), .d (LV (A3.Wd K 0) 24 40), .no, .no, .no]) (st_for (L := [12]) (τi := fun i => [.no, .dk, .d (TI r r), .d (TI 1 4), .d (SH r), .d (SH r), .d (SH r), .no, .d (HsT K), .d (LV (A3.Wd K 0) 24 40), .no, .no, .no]) (τb := fun i => [.no, .dk, .d (TI r r), .d (TI 1 4), .d (SH r), .d (SH r), .d (SH r), .no, .d (HsT K), .d (LV (A3.Wd K 0) 24 40), .no, .no, .d (A3.Wd K 0)]) PassesOwn.never rfl sys_r (itt_lst (t_var (i := 9) (t := (LV (A3.Wd K 0) 24 40)) rfl)) (fun i hi => (tgt_name (i := 12) sc_law.nd rfl (by first | exact .inl rfl | exact .inr rfl) (by show 12 < 13; decide))) (fun i hi => ?_) (fun i hlo hhi => sys_r)) ?_
  · refine bt_cons (τ1 := [.no, .dk, .d (TI r r), .d (TI 1 4), .d (SH r), .d (SH r), .d (SH r), .no, .d (HsT K), .d (LV (A3.Wd K 0) 24 40), .no, .no, .d (A3.Wd K 0)]) (st_if (ct_w (ctw_or (ct_not (ct_true (t_call (t := (TQ (.bool true))) (T.told.up (by decide)) hr (by rfl) (wat_cons (WT.sub (u := (TI 1 4)) (t_var (i := 2) (t := (TI r r)) rfl) (sb_I (by omega) (by omega))) (wat_cons (t_var (i := 12) (t := (A3.Wd K 0)) rfl) wat_nil)) (fun _ h => ⟨h, fun _ q => q⟩)))) (ctw_or1 (ct_not (ct_true (t_call (t := (TQ (.bool true))) (T.told.up (by decide)) hr (by rfl) (wat_cons (t_var (i := 3) (t := (TI 1 4)) rfl) (wat_cons (t_var (i := 12) (t := (A3.Wd K 0)) rfl) wat_nil)) (fun _ h => ⟨h, fun _ q => q⟩))))))) ?_ ?_) ?_
    · exact BT.sub bt_nev sys_r (fun _ h => h)
    · exact bt_nil
    exact BT.sub bt_nil sys_r (sys_cons sy_r (sys_cons sy_r (sys_cons sy_r (sys_cons sy_r (sys_cons sy_r (sys_cons sy_r (sys_cons sy_r (sys_cons sy_r (sys_cons sy_r (sys_cons sy_r (sys_cons sy_r (sys_cons sy_r (sys_cons sy_no sys_nil)))))))))))))
  exact bt_ret t_bool
end
end A7
namespace A7
open PySem PySem.W L2 RZ PyProof.Rows DW K9 K4 A3
section
variable {P : Program} {w : World} {K : PySem.W.Frag} {mg : Str → Option Value} {base : Heap} {f : Addr} {fd : FuncData}
/-! the facts -/
abbrev SpLaw (K : PySem.W.Frag) : Sp := fun vs H Q _ => ∃ (a : Addr) (ns : List Int), vs = [.ref a] ∧ SqL K H a (ns.map V.int) ∧ ∀ H', Q (.bl true) H'
theorem es_law_at : ∀ (i : Nat) e, es_law[i]? = some e → e = .no ∨ (i = 1 ∧ e = .dk)
  | 0, _, h => by cases h; exact .inl rfl
  | 1, _, h => by cases h; exact .inr ⟨rfl, rfl⟩
  | i + 2, e, h => by
    have h : (List.replicate 11 Sl.no)[i]? = some e := h
    rw [List.getElem?_replicate] at h
    split at h
    · cases h; exact .inl rfl
    · cases h
theorem ok_law (B : A3.Be mg) (HF : HsF K mg) (F : Fun K "law" "law" s_law f fd) (k0 : KnP P w K mg base "_law_deck" 80 1 ["_law_script"] (SpDeck K)) (T : Defs P w K mg base) : FnG P w K mg base 13 f fd ["_law_script"] (SpLaw K) := by
  refine ok_g F sc_law (fun vs H Q E h => by obtain ⟨_, _, rfl, _⟩ := h; rfl) (fun cdv A outer s H vs Q E hr h => ?_)
  obtain ⟨a, ns, rfl, hS, q⟩ := h
  obtain ⟨f1, fd1, hF, hm, hf, hb⟩ := k0.ex
  refine ⟨_, pss_cons (ps_set (i := 1) sc_law.nd rfl (.inl rfl) (pe_callG (hF.mono (by decide : 1 ≤ 12)) hr rfl hm hf.kp hb (pa_cons (pv 0) pa_nil))) can_b, ?_⟩
  refine ⟨.ref a, rfl, a, ns, rfl, hS, fun d c H' ext hd hc dc dk => ?_⟩
  have kn : ∀ b, (b = d ∨ b = c) → ∃ o, H' b = some o := fun b z => by
    obtain ⟨ms, m, k, h1, h2, _⟩ := id dk
    rcases z with z | z
    · exact ⟨_, by rw [z]; exact h1⟩
    · exact ⟨_, by rw [z]; exact h2⟩
  have sg : Sg (FcD w (fun b => b = d ∨ b = c) H' kn d c ⟨.inl rfl, .inr rfl, dc⟩) H' ((L2.start n_law [.ref a]).set 1 (some (.ref d))) es_law := by
    refine ⟨rfl, ExM.refl, ⟨fun _ _ _ q _ _ => q, dk⟩, fun i x hi => ?_, fun i e hi z => ?_, fun i j e e' l h1 _ z => ?_, fun i hi => ?_, fun i kvs hi => ?_⟩
    · rcases es_law_at i _ hi with h | ⟨_, h⟩ <;> cases h
    · rcases es_law_at i _ hi with h | ⟨_, h⟩ <;> subst h <;> cases z
    · rcases es_law_at i _ h1 with h | ⟨_, h⟩ <;> subst h <;> cases z
    · rcases es_law_at i _ hi with h | ⟨h, _⟩
      · cases h
      · subst h; exact ⟨d, c, rfl, rfl⟩
    · rcases es_law_at i _ hi with h | ⟨_, h⟩ <;> cases h
  have main := law_rest B HF T cdv A outer s H E hr (FcD w (fun b => b = d ∨ b = c) H' kn d c ⟨.inl rfl, .inr rfl, dc⟩)
  refine main _ H' _ sg ⟨fun _ _ _ _ _ z => z.elim, fun v d' H2 x ok t po => ?_, fun _ _ _ _ _ z => z.elim, fun _ _ _ _ _ z => z.elim⟩
  subst po
  rw [t.bl_inv]
  exact q H2
structure Dq (K : PySem.W.Frag) (x : Str) (i : Nat) : Prop where
  ex : ∃ (f : Addr) (oc : Value) (od : Option Addr) (kV doc pm : Value) (an : Option Addr) (cdv ct : Value) (osl : Array (Option Value)), PySem.W.nsIn K mainGlobals x = some (some (.ref f)) ∧
    K.lookup f = some ⟨oc, od, .func (PySem.W.fnOf x x (defArgs (topS i)) (defBody (topS i)) (defScope (topS i)) .none kV doc pm an cdv ct), osl⟩ ∧ PySem.W.codeIn K cdv x = true ∧ PySem.W.keepIn K (.ref f) = true
theorem dq_mk {K : PySem.W.Frag} {x : Str} {i : Nat} {f : Addr} {oc : Value} {od : Option Addr} {kV doc pm : Value} {an : Option Addr} {cdv ct : Value} {osl : Array (Option Value)} (a : PySem.W.nsIn K mainGlobals x = some (some (.ref f)))
    (l : K.lookup f = some ⟨oc, od, .func (PySem.W.fnOf x x (defArgs (topS i)) (defBody (topS i)) (defScope (topS i)) .none kV doc pm an cdv ct), osl⟩) (c : PySem.W.codeIn K cdv x = true) (k : PySem.W.keepIn K (.ref f) = true) : Dq K x i := ⟨f, oc, od, kV, doc, pm, an, cdv, ct, osl, a, l, c, k⟩
theorem kn_of {h : Heap} {x : Str} {i k : Nat} {ps : List Str} {sp : Sp} (D : Dq K x i) (X : K.In h) (G : h.Ns mainGlobals mg) (bd : ∀ f fd, Fun K x x (topS i) f fd → L2.Binds K fd ps []) (ok : ∀ f fd, Fun K x x (topS i) f fd → FnG P w K mg base k f fd ps sp) : KnP P w K mg base x i k ps sp := by
  obtain ⟨f, oc, od, kV, doc, pm, an, cdv, ct, osl, a, l, c, kp⟩ := D.ex
  have F := fun_mk (st := topS i) l c kp
  exact ⟨f, _, ok _ _ F, PySem.W.mg_of X G a, F, bd _ _ F⟩
theorem kit_of {K : PySem.W.Frag} {C : Addr} {n : String} (hk : PySem.W.kitMeta n = true) (h : PySem.W.subIn K (.ref C) (.type n) = some false) : PySem.W.kitOne K (.ref C) (.type n) = some false := by
  show (if (Value.ref C == Value.type n) = true then some true else PySem.W.kitCls K (.ref C) (.type n)) = _
  rw [if_neg (by intro z; exact nomatch (eq_of_beq z))]
  show (if PySem.W.kitMeta n = true then PySem.W.subIn K (.ref C) (.type n) else none) = _
  rw [if_pos hk, h]
structure Hq (K : PySem.W.Frag) : Prop where
  ex : ∃ (C f : Addr) (oc : Value) (od : Option Addr) (kV doc pm : Value) (an : Option Addr) (cdv ct : Value) (osl : Array (Option Value)), PySem.W.nsIn K mainGlobals "House" = some (some (.ref C)) ∧ (PySem.W.findIn K (.ref C) "__init__" = some (some (.ref f)) ∧ PySem.W.isFn K (.ref f) = true) ∧
    K.lookup f = some ⟨oc, od, .func (PySem.W.fnOf "__init__" "House.__init__" (defArgs s_init) (defBody s_init) (defScope s_init) .none kV doc pm an cdv ct), osl⟩ ∧ PySem.W.codeIn K cdv "House.__init__" = true ∧ PySem.W.keepIn K (.ref f) = true ∧
    (PySem.W.makesIn K C = true ∧ PySem.W.keepIn K (.ref C) = true) ∧ InsF K C ∧ NoAttr K C "r" ∧ NoAttr K C "rows" ∧ NoAttr K C "vows" ∧ NoAttr K C "done" ∧ NoAttr K C "undone"
theorem hq_mk {K : PySem.W.Frag} {C f : Addr} {oc : Value} {od : Option Addr} {kV doc pm : Value} {an : Option Addr} {cdv ct : Value} {osl : Array (Option Value)} (a : PySem.W.nsIn K mainGlobals "House" = some (some (.ref C))) (fi : PySem.W.findIn K (.ref C) "__init__" = some (some (.ref f))) (isf : PySem.W.isFn K (.ref f) = true)
    (l : K.lookup f = some ⟨oc, od, .func (PySem.W.fnOf "__init__" "House.__init__" (defArgs s_init) (defBody s_init) (defScope s_init) .none kV doc pm an cdv ct), osl⟩) (c : PySem.W.codeIn K cdv "House.__init__" = true) (k : PySem.W.keepIn K (.ref f) = true)
    (mk : PySem.W.makesIn K C = true) (kc : PySem.W.keepIn K (.ref C) = true) (pg : PySem.W.plainGet K C Str.empty = true) (hd : PySem.W.hasDictIn K C = true) (po : PySem.W.plainOver K C = true) (sa : PySem.W.findIn K (.ref C) "__setattr__" = some (some (.builtin "object.__setattr__")))
    (fc : PySem.W.findIn K (.ref C) "__class__" = some (some (.builtin "object.__class__"))) (fg : PySem.W.specialIn K (.builtin "object.__class__") "__get__" = some (some (.builtin "getset_descriptor.__get__"))) (ft : PySem.W.takesIn K (.builtin "object.__class__") = some true) (fo : PySem.W.mroIn K C (.type "object") = some true)
    (t1 : PySem.W.subIn K (.ref C) (.type "tuple") = some false) (t2 : PySem.W.subIn K (.ref C) (.type "int") = some false) (t3 : PySem.W.subIn K (.ref C) (.type "bool") = some false) (t4 : PySem.W.subIn K (.ref C) (.type "str") = some false)
    (n1 : PySem.W.findIn K (.ref C) "r" = some none) (n2 : PySem.W.findIn K (.ref C) "rows" = some none) (n3 : PySem.W.findIn K (.ref C) "vows" = some none) (n4 : PySem.W.findIn K (.ref C) "done" = some none) (n5 : PySem.W.findIn K (.ref C) "undone" = some none) : Hq K :=
  ⟨C, f, oc, od, kV, doc, pm, an, cdv, ct, osl, a, ⟨fi, isf⟩, l, c, k, ⟨mk, kc⟩, ⟨⟨pg, hd, po, sa⟩, fc, fg, ft, fo, kit_of (by decide) t1, kit_of (by decide) t2, kit_of (by decide) t3, kit_of (by decide) t4⟩, n1, n2, n3, n4, n5⟩
theorem hs_of {h : Heap} (D : Hq K) (X : K.In h) (G : h.Ns mainGlobals mg) : HsF K mg := by
  obtain ⟨C, f, oc, od, kV, doc, pm, an, cdv, ct, osl, a, ⟨fi, isf⟩, l, c, k, ⟨mk, kc⟩, i, n1, n2, n3, n4, n5⟩ := D.ex
  have F := fun_mk (st := s_init) l c k
  exact ⟨C, f, _, PySem.W.mg_of X G a, ⟨mk, fi, isf, kc⟩, F, F.binds (fun _ _ _ _ _ _ us hl => match us, hl with | [_, _], _ => rfl), i, n1, n2, n3, n4, n5⟩
theorem defs_mk {h : Heap} (X : K.In h) (G : h.Ns mainGlobals mg) (B : A3.Be mg) (D11 : Dq K "is_whole" 11) (D13 : Dq K "is_direction" 13) (D21 : Dq K "is_room" 21) (D27 : Dq K "is_passage" 27) (D28 : Dq K "is_triple" 28) (D29 : Dq K "is_show" 29) (D81 : Dq K "_law_draw" 81) (D82 : Dq K "_law_pick" 82) (D83 : Dq K "_law_directions" 83) (D89 : Dq K "_law_step" 89) (D90 : Dq K "_law_undone" 90) (D92 : Dq K "_law_next" 92) (D97 : Dq K "_law_great" 97) (D98 : Dq K "_law_room" 98) (D93 : Dq K "_law_listed" 93) (D91 : Dq K "_law_row" 91) (D94 : Dq K "_law_show" 94) (D99 : Dq K "_law_free" 99) (D80 : Dq K "_law_deck" 80) (D84 : Dq K "_law_any" 84) (D85 : Dq K "_law_odd" 85) (D86 : Dq K "_law_bent" 86) (D87 : Dq K "_law_is_integer" 87) (D88 : Dq K "_law_is_room" 88) (D95 : Dq K "_law_is_show" 95) (D100 : Dq K "_law_spoilt" 100) (D101 : Dq K "_law_turned" 101) (D96 : Dq K "_law_is_small" 96) (D102 : Dq K "_law_is_told" 102) : KnP P w K mg base "_law_deck" 80 1 ["_law_script"] (SpDeck K) ∧ Defs P w K mg base := by
  have k11 : KnP P w K mg base "is_whole" 11 1 ["thing"] (SpW K) := kn_of D11 X G (fun _ _ F => F.binds fun _ _ _ _ _ _ us hl => match us, hl with | [_], _ => rfl) (fun _ _ F => ok_is_whole B F )
  have k13 : KnP P w K mg base "is_direction" 13 2 ["r", "thing"] (SpAny K dirB) := kn_of D13 X G (fun _ _ F => F.binds fun _ _ _ _ _ _ us hl => match us, hl with | [_, _], _ => rfl) (fun _ _ F => ok_is_direction B F k11)
  have k21 : KnP P w K mg base "is_room" 21 2 ["r", "thing"] (SpAny K roomB) := kn_of D21 X G (fun _ _ F => F.binds fun _ _ _ _ _ _ us hl => match us, hl with | [_, _], _ => rfl) (fun _ _ F => ok_is_room B F k11)
  have k27 : KnP P w K mg base "is_passage" 27 3 ["r", "room", "i"] (SpPas K) := kn_of D27 X G (fun _ _ F => F.binds fun _ _ _ _ _ _ us hl => match us, hl with | [_, _, _], _ => rfl) (fun _ _ F => ok_is_passage F k21 k13)
  have k28 : KnP P w K mg base "is_triple" 28 4 ["r", "thing"] (SpAny K tripB) := kn_of D28 X G (fun _ _ F => F.binds fun _ _ _ _ _ _ us hl => match us, hl with | [_, _], _ => rfl) (fun _ _ F => ok_is_triple B F k27 k11)
  have k29 : KnP P w K mg base "is_show" 29 5 ["r", "thing"] (SpAny K showB) := kn_of D29 X G (fun _ _ F => F.binds fun _ _ _ _ _ _ us hl => match us, hl with | [_, _], _ => rfl) (fun _ _ F => ok_is_show B F k28)
  have k81 : KnP P w K mg base "_law_draw" 81 1 ["_law_deck_here", "_law_many"] SpDraw := kn_of D81 X G (fun _ _ F => F.binds fun _ _ _ _ _ _ us hl => match us, hl with | [_, _], _ => rfl) (fun _ _ F => ok_draw B.b F )
  have k82 : KnP P w K mg base "_law_pick" 82 2 ["_law_deck_here", "_law_some"] SpPick := kn_of D82 X G (fun _ _ F => F.binds fun _ _ _ _ _ _ us hl => match us, hl with | [_, _], _ => rfl) (fun _ _ F => ok_l_pick B.b F k81)
  have k83 : KnP P w K mg base "_law_directions" 83 3 ["_law_deck_here"] SpDirs := kn_of D83 X G (fun _ _ F => F.binds fun _ _ _ _ _ _ us hl => match us, hl with | [_], _ => rfl) (fun _ _ F => ok_l_dirs F k82)
  have k89 : KnP P w K mg base "_law_step" 89 2 ["_law_deck_here", "_law_r"] SpStep := kn_of D89 X G (fun _ _ F => F.binds fun _ _ _ _ _ _ us hl => match us, hl with | [_, _], _ => rfl) (fun _ _ F => ok_l_step F k81)
  have k90 : KnP P w K mg base "_law_undone" 90 1 ["_law_row_here"] SpUndone := kn_of D90 X G (fun _ _ F => F.binds fun _ _ _ _ _ _ us hl => match us, hl with | [_], _ => rfl) (fun _ _ F => ok_l_undone B.b F )
  have k92 : KnP P w K mg base "_law_next" 92 1 ["_law_room_here", "_law_step_here"] SpNext := kn_of D92 X G (fun _ _ F => F.binds fun _ _ _ _ _ _ us hl => match us, hl with | [_, _], _ => rfl) (fun _ _ F => ok_l_next B.b F )
  have k97 : KnP P w K mg base "_law_great" 97 3 ["_law_deck_here"] SpGreat := kn_of D97 X G (fun _ _ F => F.binds fun _ _ _ _ _ _ us hl => match us, hl with | [_], _ => rfl) (fun _ _ F => ok_l_great B.b F k81 k82)
  have k98 : KnP P w K mg base "_law_room" 98 4 ["_law_deck_here", "_law_r"] SpRoom := kn_of D98 X G (fun _ _ F => F.binds fun _ _ _ _ _ _ us hl => match us, hl with | [_, _], _ => rfl) (fun _ _ F => ok_l_room B.b F k97)
  have k93 : KnP P w K mg base "_law_listed" 93 1 ["_law_numbers"] (SpListed w) := kn_of D93 X G (fun _ _ F => F.binds fun _ _ _ _ _ _ us hl => match us, hl with | [_], _ => rfl) (fun _ _ F => ok_l_listed B.b F )
  have k91 : KnP P w K mg base "_law_row" 91 3 ["_law_deck_here", "_law_r", "_law_most"] SpRow := kn_of D91 X G (fun _ _ F => F.binds fun _ _ _ _ _ _ us hl => match us, hl with | [_, _, _], _ => rfl) (fun _ _ F => ok_l_row B.b F k81 k89 k90)
  have k94 : KnP P w K mg base "_law_show" 94 2 ["_law_r", "_law_row_here"] SpShow := kn_of D94 X G (fun _ _ F => F.binds fun _ _ _ _ _ _ us hl => match us, hl with | [_, _], _ => rfl) (fun _ _ F => ok_l_show F k92 k93)
  have k99 : KnP P w K mg base "_law_free" 99 5 ["_law_deck_here", "_law_r", "_law_most"] SpFree := kn_of D99 X G (fun _ _ F => F.binds fun _ _ _ _ _ _ us hl => match us, hl with | [_, _, _], _ => rfl) (fun _ _ F => ok_l_free B.b F k81 k91 k94 k98 k97 k93)
  have k80 : KnP P w K mg base "_law_deck" 80 1 ["_law_script"] (SpDeck K) := kn_of D80 X G (fun _ _ F => F.binds fun _ _ _ _ _ _ us hl => match us, hl with | [_], _ => rfl) (fun _ _ F => ok_l_deck B.b F )
  have any0 : KnP P w K mg base "_law_any" 84 3 ["_law_deck_here", "_law_deep"] (Dr (Tup [(TI 0 0)]) (fun _ d => (A3.Wd K 0) d)) := kn_of D84 X G (fun _ _ F => F.binds fun _ _ _ _ _ _ us hl => match us, hl with | [_, _], _ => rfl) (fun _ _ F => ok_any0 B F k81 k82)
  have any1 : KnP P w K mg base "_law_any" 84 4 ["_law_deck_here", "_law_deep"] (Dr (Tup [(TI 0 1)]) (fun _ d => (A3.Wd K 0) d)) := kn_of D84 X G (fun _ _ F => F.binds fun _ _ _ _ _ _ us hl => match us, hl with | [_, _], _ => rfl) (fun _ _ F => ok_any1 B F k81 k82 any0)
  have any2 : KnP P w K mg base "_law_any" 84 5 ["_law_deck_here", "_law_deep"] (Dr (Tup [(TI 0 2)]) (fun _ d => (A3.Wd K 0) d)) := kn_of D84 X G (fun _ _ F => F.binds fun _ _ _ _ _ _ us hl => match us, hl with | [_, _], _ => rfl) (fun _ _ F => ok_any2 B F k81 k82 any1)
  have any3 : KnP P w K mg base "_law_any" 84 6 ["_law_deck_here", "_law_deep"] (Dr (Tup [(TI 0 3)]) (fun _ d => (A3.Wd K 0) d)) := kn_of D84 X G (fun _ _ F => F.binds fun _ _ _ _ _ _ us hl => match us, hl with | [_, _], _ => rfl) (fun _ _ F => ok_any3 B F k81 k82 any2)
  have odd1 : KnP P w K mg base "_law_odd" 85 5 ["_law_deck_here", "_law_thing"] (Dr (Tup [(Ni false)]) (fun _ d => (A3.Wd K 0) d)) := kn_of D85 X G (fun _ _ F => F.binds fun _ _ _ _ _ _ us hl => match us, hl with | [_, _], _ => rfl) (fun _ _ F => ok_odd B F k81 k82 any1)
  have bent0 : KnP P w K mg base "_law_bent" 86 6 ["_law_deck_here", "_law_thing", "_law_deep"] (Dr (Tup [(Ni false), (TI 0 0)]) (fun _ d => (A3.Wd K 0) d)) := kn_of D86 X G (fun _ _ F => F.binds fun _ _ _ _ _ _ us hl => match us, hl with | [_, _, _], _ => rfl) (fun _ _ F => ok_bent0 B F k81 odd1)
  have bent1 : KnP P w K mg base "_law_bent" 86 7 ["_law_deck_here", "_law_thing", "_law_deep"] (Dr (Tup [(Ni false), (TI 0 1)]) (fun _ d => (A3.Wd K 0) d)) := kn_of D86 X G (fun _ _ F => F.binds fun _ _ _ _ _ _ us hl => match us, hl with | [_, _, _], _ => rfl) (fun _ _ F => ok_bent1 B F k81 odd1 bent0)
  have bent2 : KnP P w K mg base "_law_bent" 86 8 ["_law_deck_here", "_law_thing", "_law_deep"] (Dr (Tup [(Ni false), (TI 0 2)]) (fun _ d => (A3.Wd K 0) d)) := kn_of D86 X G (fun _ _ F => F.binds fun _ _ _ _ _ _ us hl => match us, hl with | [_, _, _], _ => rfl) (fun _ _ F => ok_bent2 B F k81 odd1 bent1)
  have bent3 : KnP P w K mg base "_law_bent" 86 9 ["_law_deck_here", "_law_thing", "_law_deep"] (Dr (Tup [(Ni false), (TI 0 3)]) (fun _ d => (A3.Wd K 0) d)) := kn_of D86 X G (fun _ _ F => F.binds fun _ _ _ _ _ _ us hl => match us, hl with | [_, _, _], _ => rfl) (fun _ _ F => ok_bent3 B F k81 odd1 bent2)
  have bent4 : KnP P w K mg base "_law_bent" 86 10 ["_law_deck_here", "_law_thing", "_law_deep"] (Dr (Tup [(Ni false), (TI 0 4)]) (fun _ d => (A3.Wd K 0) d)) := kn_of D86 X G (fun _ _ F => F.binds fun _ _ _ _ _ _ us hl => match us, hl with | [_, _, _], _ => rfl) (fun _ _ F => ok_bent4 B F k81 odd1 bent3)
  have k87 : KnP P w K mg base "_law_is_integer" 87 1 ["_law_thing"] (SpW K) := kn_of D87 X G (fun _ _ F => F.binds fun _ _ _ _ _ _ us hl => match us, hl with | [_], _ => rfl) (fun _ _ F => ok__law_is_integer B F )
  have k88 : KnP P w K mg base "_law_is_room" 88 2 ["_law_r", "_law_thing"] (SpAny K roomB) := kn_of D88 X G (fun _ _ F => F.binds fun _ _ _ _ _ _ us hl => match us, hl with | [_, _], _ => rfl) (fun _ _ F => ok__law_is_room B F k87)
  have k95 : KnP P w K mg base "_law_is_show" 95 3 ["_law_r", "_law_thing"] (SpAny K showB) := kn_of D95 X G (fun _ _ F => F.binds fun _ _ _ _ _ _ us hl => match us, hl with | [_, _], _ => rfl) (fun _ _ F => ok__law_is_show B F k88 k87)
  have k100 : KnP P w K mg base "_law_spoilt" 100 3 ["_law_deck_here", "_law_r", "_law_show_here"] (Dr (Tup [(TI 1 4), (TV (TT [(TV (TI (-10000000000000000000000000000000000000000000000000000000000000000000000000000000000000000000000000000000000000000000000000) 10000000000000000000000000000000000000000000000000000000000000000000000000000000000000000000000000000000000000000000000000) 1 4), (TI 1 4), (TI (-10000000000000000000000000000000000000000000000000000000000000000000000000000000000000000000000000000000000000000000000000) 10000000000000000000000000000000000000000000000000000000000000000000000000000000000000000000000000000000000000000000000000)]) 1 300)]) (fun _ d => (A3.Wd K 0) d)) := kn_of D100 X G (fun _ _ F => F.binds fun _ _ _ _ _ _ us hl => match us, hl with | [_, _, _], _ => rfl) (fun _ _ F => ok_spoilt B F k81 k82)
  have k101 : KnP P w K mg base "_law_turned" 101 3 ["_law_deck_here", "_law_show_here"] (Dr (Tup [(TV (TT [(TV (TI (-10000000000000000000000000000000000000000000000000000000000000000000000000000000000000000000000000000000000000000000000000) 10000000000000000000000000000000000000000000000000000000000000000000000000000000000000000000000000000000000000000000000000) 1 4), (TI 1 4), (TI (-10000000000000000000000000000000000000000000000000000000000000000000000000000000000000000000000000000000000000000000000000) 10000000000000000000000000000000000000000000000000000000000000000000000000000000000000000000000000000000000000000000000000)]) 1 300)]) (fun _ d => (A3.Wd K 0) d)) := kn_of D101 X G (fun _ _ F => F.binds fun _ _ _ _ _ _ us hl => match us, hl with | [_, _], _ => rfl) (fun _ _ F => ok_turned B F k81)
  have k96 : KnP P w K mg base "_law_is_small" 96 1 ["_law_show_here"] (Pu (Tup [(TV (TT [(TV (TI (-100000000000000000000000000000000000000000000000000000000000000000000000000000000000000000000000000000000000000000000000000000000000000000000000000000000000000000000000000000000000000000000000000000000000000000000000000000000000000000000000000000000000000000000000000000000000000000000000000000000000000) 100000000000000000000000000000000000000000000000000000000000000000000000000000000000000000000000000000000000000000000000000000000000000000000000000000000000000000000000000000000000000000000000000000000000000000000000000000000000000000000000000000000000000000000000000000000000000000000000000000000000000) 1 4), (TI 1 4), (TI (-100000000000000000000000000000000000000000000000000000000000000000000000000000000000000000000000000000000000000000000000000000000000000000000000000000000000000000000000000000000000000000000000000000000000000000000000000000000000000000000000000000000000000000000000000000000000000000000000000000000000000) 100000000000000000000000000000000000000000000000000000000000000000000000000000000000000000000000000000000000000000000000000000000000000000000000000000000000000000000000000000000000000000000000000000000000000000000000000000000000000000000000000000000000000000000000000000000000000000000000000000000000000)]) 0 3100)]) (fun _ d => TB d)) := kn_of D96 X G (fun _ _ F => F.binds fun _ _ _ _ _ _ us hl => match us, hl with | [_], _ => rfl) (fun _ _ F => ok_small B F )
  have k102 : KnP P w K mg base "_law_is_told" 102 6 ["_law_r", "_law_thing"] (Pu (Tup [TI 1 4, A3.Wd K 0]) (fun _ d => TQ (.bool true) d)) := kn_of D102 X G (fun _ _ F => F.binds fun _ _ _ _ _ _ us hl => match us, hl with | [_, _], _ => rfl) (fun _ _ F => ok__law_is_told B F k95 k96 k29)
  exact ⟨k80, k81, k82, k83, k99, k91, k94, k29, any3, bent4, k101, k100, k102⟩
theorem all_mk {l : PySem.W.OpenLaw} {h : Heap} {fa : Addr} (X : K.In h) (G : h.Ns mainGlobals mg) (hfa : mg "law" = some (.ref fa)) (D11 : Dq K "is_whole" 11) (D13 : Dq K "is_direction" 13) (D21 : Dq K "is_room" 21) (D27 : Dq K "is_passage" 27) (D28 : Dq K "is_triple" 28) (D29 : Dq K "is_show" 29) (D81 : Dq K "_law_draw" 81) (D82 : Dq K "_law_pick" 82) (D83 : Dq K "_law_directions" 83) (D89 : Dq K "_law_step" 89) (D90 : Dq K "_law_undone" 90) (D92 : Dq K "_law_next" 92) (D97 : Dq K "_law_great" 97) (D98 : Dq K "_law_room" 98) (D93 : Dq K "_law_listed" 93) (D91 : Dq K "_law_row" 91) (D94 : Dq K "_law_show" 94) (D99 : Dq K "_law_free" 99) (D80 : Dq K "_law_deck" 80) (D84 : Dq K "_law_any" 84) (D85 : Dq K "_law_odd" 85) (D86 : Dq K "_law_bent" 86) (D87 : Dq K "_law_is_integer" 87) (D88 : Dq K "_law_is_room" 88) (D95 : Dq K "_law_is_show" 95) (D100 : Dq K "_law_spoilt" 100) (D101 : Dq K "_law_turned" 101) (D96 : Dq K "_law_is_small" 96) (D102 : Dq K "_law_is_told" 102) (HQ : Hq K) (D103 : Dq K "law" 103) (z_isi : PySem.W.nsIn K mainGlobals "isinstance" = some none) (z_int : PySem.W.nsIn K mainGlobals "int" = some none) (z_bool : PySem.W.nsIn K mainGlobals "bool" = some none) (z_tup : PySem.W.nsIn K mainGlobals "tuple" = some none) (z_zip : PySem.W.nsIn K mainGlobals "zip" = some none) (z_all : PySem.W.nsIn K mainGlobals "all" = some none) (z_len : PySem.W.nsIn K mainGlobals "len" = some none) (z_sorted : PySem.W.nsIn K mainGlobals "sorted" = some none) (z_list : PySem.W.nsIn K mainGlobals "list" = some none) (z_max : PySem.W.nsIn K mainGlobals "max" = some none) (z_min : PySem.W.nsIn K mainGlobals "min" = some none) (z_range : PySem.W.nsIn K mainGlobals "range" = some none) (z_abs : PySem.W.nsIn K mainGlobals "abs" = some none) (z_repr : PySem.W.nsIn K mainGlobals "repr" = some none) (z_en : PySem.W.nsIn K mainGlobals "enumerate" = some none) (z_st : PySem.W.nsIn K mainGlobals "str" = some none) :
    ∃ fd : FuncData, (∀ (s : Shared) (u : Value), BindsTo s fd ⟨[u], []⟩ [("_law_script", u)]) ∧ ∀ base : Heap, K.In base → base.Ns mainGlobals mg → FnG l.prog w K mg base 13 fa fd ["_law_script"] (SpLaw K) := by
  obtain ⟨f, oc, od, kV, doc, pm, an, cdv, ct, osl, a, lk, c, kp⟩ := D103.ex
  have e := hfa.symm.trans (PySem.W.mg_of X G a)
  cases e
  have B : A3.Be mg := ⟨⟨PySem.W.mg_none_of X G z_isi, PySem.W.mg_none_of X G z_int, PySem.W.mg_none_of X G z_bool, PySem.W.mg_none_of X G z_tup, PySem.W.mg_none_of X G z_zip, PySem.W.mg_none_of X G z_all, PySem.W.mg_none_of X G z_len, PySem.W.mg_none_of X G z_sorted, PySem.W.mg_none_of X G z_list, PySem.W.mg_none_of X G z_max, PySem.W.mg_none_of X G z_min, PySem.W.mg_none_of X G z_range, PySem.W.mg_none_of X G z_abs, PySem.W.mg_none_of X G z_repr⟩, PySem.W.mg_none_of X G z_en, PySem.W.mg_none_of X G z_st⟩
  exact ⟨_, fun s v => .of_eq rfl, fun base _ _ => ok_law B (hs_of HQ X G) (fun_mk (st := topS 103) lk c kp) (defs_mk X G B D11 D13 D21 D27 D28 D29 D81 D82 D83 D89 D90 D92 D97 D98 D93 D91 D94 D99 D80 D84 D85 D86 D87 D88 D95 D100 D101 D96 D102).1 (defs_mk X G B D11 D13 D21 D27 D28 D29 D81 D82 D83 D89 D90 D92 D97 D98 D93 D91 D94 D99 D80 D84 D85 D86 D87 D88 D95 D100 D101 D96 D102).2⟩
end
end A7
namespace A7
open PySem PySem.Spec PyProof.Rows L2 DW
theorem dq_at {K : PySem.W.Frag} {x : Str} {i j j' : Nat} (c : DW.SaysX hfa hfn hg K) (h : hfn[j]? = some (dd x i)) (h' : hfa[j']? = some (.glo x)) : Dq K x i := by
  obtain ⟨fd, F⟩ := c.1.def_ j h
  obtain ⟨oc, od, dV, kV, doc, pm, an, cdv, ct, osl, rfl, lk, hcd, hd, _⟩ := F.ex
  cases DW.dfl_none hd
  exact ⟨_, oc, od, kV, doc, pm, an, cdv, ct, osl, He.eqO_ok (c.1.fact j' h'), lk, hcd, F.kp⟩
theorem z_at {K : PySem.W.Frag} {x : Str} {j : Nat} (c : DW.SaysX hfa hfn hg K) (h : hfa[j]? = some (.free x)) : PySem.W.nsIn K mainGlobals x = some none := He.eqO_ok (c.1.fact j h)
theorem n_at {K : PySem.W.Frag} {x : Str} {j : Nat} (c : DW.SaysX hfa hfn hg K) (h : hfa[j]? = some (.noat "House" x)) : PySem.W.findIn K (.ref (He.ga K "House")) x = some none := He.eqO_ok (c.1.fact j h)
theorem hq_at {K : PySem.W.Frag} (c : DW.SaysX hfa hfn hg K) : Hq K := by
  obtain ⟨fd, F⟩ := c.1.def_ 30 (d := dI) rfl
  obtain ⟨oc, od, dV, kV, doc, pm, an, cdv, ct, osl, rfl, lk, hcd, hd, _⟩ := F.ex
  cases DW.dfl_none hd
  obtain ⟨mk, fi, isf, kc⟩ := He.mkr_ok (c.1.fact 47 (f := .mkr "House") rfl)
  have z := c.2
  obtain ⟨pg, z⟩ := He.ba z
  obtain ⟨hd, z⟩ := He.ba z
  obtain ⟨po, z⟩ := He.ba z
  obtain ⟨sa, z⟩ := He.ba z
  obtain ⟨fc, z⟩ := He.ba z
  obtain ⟨fg, z⟩ := He.ba z
  obtain ⟨ft, z⟩ := He.ba z
  obtain ⟨fo, z⟩ := He.ba z
  obtain ⟨t1, z⟩ := He.ba z
  obtain ⟨t2, z⟩ := He.ba z
  obtain ⟨t3, t4⟩ := He.ba z
  exact hq_mk (He.eqO_ok (c.1.fact 46 (f := .glo "House") rfl)) fi isf lk hcd F.kp mk kc pg hd po (of_decide_eq_true sa) (of_decide_eq_true fc) (of_decide_eq_true fg) (of_decide_eq_true ft) (of_decide_eq_true fo) (of_decide_eq_true t1) (of_decide_eq_true t2) (of_decide_eq_true t3) (of_decide_eq_true t4) (n_at c (j := 48) rfl) (n_at c (j := 49) rfl) (n_at c (j := 50) rfl) (n_at c (j := 51) rfl) (n_at c (j := 52) rfl)
end A7
open PySem PySem.W PySem.Calls PyProof.Rows
set_option maxHeartbeats 0 in
theorem PySem.Challenge.cw_stilewalks_k07_shows_among_any_values_holds : PySem.Challenge.rw_stilewalks_k07_shows_among_any_values.Holds := by
  w_on; o_law
  refine HandSHeadRun.head_imp (r := OpenLaw.row PySem.Challenge.rw_stilewalks_k07_shows_among_any_values) (q := A7.hq) (H := A7.hk) (ob := A7.hob) (M := 60000) (loose := A7.hnm) (d := HandSHeadRun.topDef (OpenLaw.row PySem.Challenge.rw_stilewalks_k07_shows_among_any_values).prog 103) (kwd := []) A7.hob_eq
    A7.hrun (by kernel_rfl) (by kernel_rfl) (by kernel_rfl) (by rfl) (by first | assumption | decide +kernel) (by decide +kernel) ⟨rfl, rfl, rfl, rfl, rfl, by decide +kernel⟩ ?hw ?hc
  case hw => w_witness2
  case hc =>
    refine DW.walk_gE (l := PySem.Challenge.rw_stilewalks_k07_shows_among_any_values) (n := 63) (k := 13) (x := "_law_script") rfl (by decide) (by kernel_rfl) ⟨⟨rfl, by decide, by decide⟩, rfl⟩ ?F
    intro w mg fa h Y G hmg0
    obtain ⟨K, KX, c⟩ := Y
    have hmg : mg ("law" : PySem.Str) = some (.ref fa) := by
      have e : (HandSHeadRun.topDef (OpenLaw.row PySem.Challenge.rw_stilewalks_k07_shows_among_any_values).prog 103).name = ("law" : PySem.Str) := by kernel_rfl
      rw [← e]
      exact hmg0
    obtain ⟨fd, hb, hF⟩ := A7.all_mk (l := PySem.Challenge.rw_stilewalks_k07_shows_among_any_values) (w := w) KX G hmg (A7.dq_at c (j := 0) (j' := 0) rfl rfl) (A7.dq_at c (j := 1) (j' := 1) rfl rfl) (A7.dq_at c (j := 2) (j' := 2) rfl rfl) (A7.dq_at c (j := 3) (j' := 3) rfl rfl) (A7.dq_at c (j := 4) (j' := 4) rfl rfl) (A7.dq_at c (j := 5) (j' := 5) rfl rfl) (A7.dq_at c (j := 6) (j' := 6) rfl rfl) (A7.dq_at c (j := 7) (j' := 7) rfl rfl) (A7.dq_at c (j := 8) (j' := 8) rfl rfl) (A7.dq_at c (j := 9) (j' := 9) rfl rfl) (A7.dq_at c (j := 10) (j' := 10) rfl rfl) (A7.dq_at c (j := 11) (j' := 11) rfl rfl) (A7.dq_at c (j := 12) (j' := 12) rfl rfl) (A7.dq_at c (j := 13) (j' := 13) rfl rfl) (A7.dq_at c (j := 14) (j' := 14) rfl rfl) (A7.dq_at c (j := 15) (j' := 15) rfl rfl) (A7.dq_at c (j := 16) (j' := 16) rfl rfl) (A7.dq_at c (j := 17) (j' := 17) rfl rfl) (A7.dq_at c (j := 18) (j' := 18) rfl rfl) (A7.dq_at c (j := 19) (j' := 19) rfl rfl) (A7.dq_at c (j := 20) (j' := 20) rfl rfl) (A7.dq_at c (j := 21) (j' := 21) rfl rfl) (A7.dq_at c (j := 22) (j' := 22) rfl rfl) (A7.dq_at c (j := 23) (j' := 23) rfl rfl) (A7.dq_at c (j := 24) (j' := 24) rfl rfl) (A7.dq_at c (j := 25) (j' := 25) rfl rfl) (A7.dq_at c (j := 26) (j' := 26) rfl rfl) (A7.dq_at c (j := 27) (j' := 27) rfl rfl) (A7.dq_at c (j := 28) (j' := 28) rfl rfl) (A7.hq_at c) (A7.dq_at c (j := 29) (j' := 29) rfl rfl) (A7.z_at c (j := 30) rfl) (A7.z_at c (j := 31) rfl) (A7.z_at c (j := 32) rfl) (A7.z_at c (j := 33) rfl) (A7.z_at c (j := 34) rfl) (A7.z_at c (j := 35) rfl) (A7.z_at c (j := 36) rfl) (A7.z_at c (j := 37) rfl) (A7.z_at c (j := 38) rfl) (A7.z_at c (j := 39) rfl) (A7.z_at c (j := 40) rfl) (A7.z_at c (j := 41) rfl) (A7.z_at c (j := 42) rfl) (A7.z_at c (j := 43) rfl) (A7.z_at c (j := 44) rfl) (A7.z_at c (j := 45) rfl)
    exact ⟨K, fd, A7.SpLaw K, KX, hb, fun H a ns hl _ hS => ⟨a, ns, rfl, hS, fun _ => rfl⟩, hF⟩
