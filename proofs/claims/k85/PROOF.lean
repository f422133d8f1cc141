import PyProof.Rows.All
import Wide.All
import OpenK.AllK
import Wide.FinOn
import HandS.Head0
import HandS.Head1
import HandS.Head2
import HandS.Head3
import HandS.HeadEnd
import HandS.HeadHook1
import HandS.HeadHook2
import HandS.HeadHook3
import HandS.Words
import HandS.More
import HandS.Call
import KE.KStateDown
import HandS.ForMost
import HandS.Wide
import HandS.IsInst
import HandS.FStr
import HandS.NoneIn
import HandS.Conv
import HandS.Zip
import KE.KIndexOf
import HandS.ForExc
import HandS.ExcIs
import KE.KIsAll
import PyProof.ReprBulk
import PyProof.ReprRoads
import PyProof.StrBlockL
import HandS.Walk
import HandS.Defaults
import HandS.ReplaceLit
import PyProof.StrLawsReplace
import HandS.Set
import HandS.Text
import HandS.ExcValue
import PyProof.CollectStr
import PyProof.Rows.SortStr
import HandS.DictComp
import KE.GoesZip
import HandS.ExcOwn
import HandS.HotCalls
import HandS.TryOnly
import HandS.CallLocal
import PySem.Challenge.RW_blockrooms_k85_whole_a_long_day_undone
set_option Elab.async false
set_option linter.all false
set_option maxRecDepth 100000
set_option maxHeartbeats 4000000
namespace Bk
open PySem PySem.Spec PyProof.Rows L2
def hTop (i : Nat) : Stmt := PySem.Challenge.pw_blockrooms_k85_whole_a_long_day_undone.main.body.getD i (.Pass ⟨0, 0, 0, 0⟩)
/-! ### the head: what the end leans on, told by names -/
def hFa0 : List He.Fa := [.glo "is_whole", .glo "is_listed", .glo "is_below", .glo "is_order", .glo "is_turn", .glo "contrary", .glo "space_of", .glo "_block_of", .glo "_joining_of", .glo "_goes_both_ways", .glo "_is_face", .glo "_put", .glo "joined", .glo "parted", .glo "beside", .glo "_block_behind", .glo "space_text", .glo "_line_of", .glo "word_of_texts", .glo "is_joining_word"]
def hFa1 : List He.Fa := [.glo "is_number_word", .glo "_read", .glo "_word_read", .glo "_number_read", .glo "_joining_read", .glo "_block", .glo "_join", .glo "_part", .glo "_show", .glo "_on_one_line", .glo "_law_reel", .glo "_law_draw", .glo "_law_cell", .glo "_law_way", .glo "_law_row", .glo "_law_shown", .glo "_law_nothing_left", .glo "law", .glo "FORMS", .glo "CHANGES_desk"]
def hFa2 : List He.Fa := [.glo "QUESTIONS", .glo "ALONE", .glo "Desk", .glo "NoneYet", .free "abs", .free "all", .free "bool", .free "int", .free "isinstance", .free "len", .free "list", .free "max", .free "min", .free "range", .free "sorted", .free "str", .free "tuple", .free "zip", .int "MOST_FIGURES" 30, .str "FIGURES" "0123456789"]
def hFa3 : List He.Fa := [.keep "is_whole", .keep "is_listed", .keep "is_below", .keep "is_order", .keep "is_turn", .keep "contrary", .keep "space_of", .keep "_block_of", .keep "_joining_of", .keep "_goes_both_ways", .keep "_is_face", .keep "_put", .keep "joined", .keep "parted", .keep "beside", .keep "_block_behind", .keep "space_text", .keep "_line_of", .keep "word_of_texts", .keep "is_joining_word"]
def hFa4 : List He.Fa := [.keep "is_number_word", .keep "_read", .keep "_word_read", .keep "_number_read", .keep "_joining_read", .keep "_block", .keep "_join", .keep "_part", .keep "_show", .keep "_on_one_line", .keep "_law_reel", .keep "_law_draw", .keep "_law_cell", .keep "_law_way", .keep "_law_row", .keep "_law_shown", .keep "_law_nothing_left", .keep "law", .cls "Desk", .mkr "Desk"]
def hFa5 : List He.Fa := [.noat "Desk" "space", .noat "Desk" "before", .meth "Desk" "__init__", .meth "Desk" "say", .meth "Desk" "_undo", .exc "NoneYet", .exm "NoneYet" "NoneYet" true]
def hFa : List He.Fa := hFa0 ++ (hFa1 ++ (hFa2 ++ (hFa3 ++ (hFa4 ++ (hFa5)))))
def hFn0 : List He.FnD := [⟨("is_whole", none), "is_whole", "is_whole", defArgs (hTop 20), defBody (hTop 20), defScope (hTop 20)⟩, ⟨("is_listed", none), "is_listed", "is_listed", defArgs (hTop 21), defBody (hTop 21), defScope (hTop 21)⟩, ⟨("is_below", none), "is_below", "is_below", defArgs (hTop 22), defBody (hTop 22), defScope (hTop 22)⟩, ⟨("is_order", none), "is_order", "is_order", defArgs (hTop 23), defBody (hTop 23), defScope (hTop 23)⟩, ⟨("is_turn", none), "is_turn", "is_turn", defArgs (hTop 24), defBody (hTop 24), defScope (hTop 24)⟩, ⟨("contrary", none), "contrary", "contrary", defArgs (hTop 25), defBody (hTop 25), defScope (hTop 25)⟩, ⟨("space_of", none), "space_of", "space_of", defArgs (hTop 27), defBody (hTop 27), defScope (hTop 27)⟩, ⟨("_block_of", none), "_block_of", "_block_of", defArgs (hTop 28), defBody (hTop 28), defScope (hTop 28)⟩, ⟨("_joining_of", none), "_joining_of", "_joining_of", defArgs (hTop 29), defBody (hTop 29), defScope (hTop 29)⟩, ⟨("_goes_both_ways", none), "_goes_both_ways", "_goes_both_ways", defArgs (hTop 30), defBody (hTop 30), defScope (hTop 30)⟩, ⟨("_is_face", none), "_is_face", "_is_face", defArgs (hTop 31), defBody (hTop 31), defScope (hTop 31)⟩, ⟨("_put", none), "_put", "_put", defArgs (hTop 32), defBody (hTop 32), defScope (hTop 32)⟩, ⟨("joined", none), "joined", "joined", defArgs (hTop 33), defBody (hTop 33), defScope (hTop 33)⟩, ⟨("parted", none), "parted", "parted", defArgs (hTop 34), defBody (hTop 34), defScope (hTop 34)⟩, ⟨("beside", none), "beside", "beside", defArgs (hTop 35), defBody (hTop 35), defScope (hTop 35)⟩, ⟨("_block_behind", none), "_block_behind", "_block_behind", defArgs (hTop 36), defBody (hTop 36), defScope (hTop 36)⟩, ⟨("space_text", none), "space_text", "space_text", defArgs (hTop 134), defBody (hTop 134), defScope (hTop 134)⟩, ⟨("_line_of", none), "_line_of", "_line_of", defArgs (hTop 135), defBody (hTop 135), defScope (hTop 135)⟩, ⟨("word_of_texts", none), "_word_of", "_word_of", defArgs (hTop 136), defBody (hTop 136), defScope (hTop 136)⟩, ⟨("is_joining_word", none), "is_joining_word", "is_joining_word", defArgs (hTop 138), defBody (hTop 138), defScope (hTop 138)⟩]
def hFn1 : List He.FnD := [⟨("is_number_word", none), "is_number_word", "is_number_word", defArgs (hTop 139), defBody (hTop 139), defScope (hTop 139)⟩, ⟨("_read", none), "_read", "_read", defArgs (hTop 145), defBody (hTop 145), defScope (hTop 145)⟩, ⟨("_word_read", none), "_word_read", "_word_read", defArgs (hTop 146), defBody (hTop 146), defScope (hTop 146)⟩, ⟨("_number_read", none), "_number_read", "_number_read", defArgs (hTop 147), defBody (hTop 147), defScope (hTop 147)⟩, ⟨("_joining_read", none), "_joining_read", "_joining_read", defArgs (hTop 148), defBody (hTop 148), defScope (hTop 148)⟩, ⟨("_block", none), "_block", "_block", defArgs (hTop 149), defBody (hTop 149), defScope (hTop 149)⟩, ⟨("_join", none), "_join", "_join", defArgs (hTop 150), defBody (hTop 150), defScope (hTop 150)⟩, ⟨("_part", none), "_part", "_part", defArgs (hTop 151), defBody (hTop 151), defScope (hTop 151)⟩, ⟨("_show", none), "_show", "_show", defArgs (hTop 153), defBody (hTop 153), defScope (hTop 153)⟩, ⟨("_on_one_line", none), "_on_one_line", "_on_one_line", defArgs (hTop 166), defBody (hTop 166), defScope (hTop 166)⟩, ⟨("_law_reel", none), "_law_reel", "_law_reel", defArgs (hTop 170), defBody (hTop 170), defScope (hTop 170)⟩, ⟨("_law_draw", none), "_law_draw", "_law_draw", defArgs (hTop 171), defBody (hTop 171), defScope (hTop 171)⟩, ⟨("_law_cell", none), "_law_cell", "_law_cell", defArgs (hTop 172), defBody (hTop 172), defScope (hTop 172)⟩, ⟨("_law_way", none), "_law_way", "_law_way", defArgs (hTop 173), defBody (hTop 173), defScope (hTop 173)⟩, ⟨("_law_row", none), "_law_row", "_law_row", defArgs (hTop 174), defBody (hTop 174), defScope (hTop 174)⟩, ⟨("_law_shown", none), "_law_shown", "_law_shown", defArgs (hTop 175), defBody (hTop 175), defScope (hTop 175)⟩, ⟨("_law_nothing_left", none), "_law_nothing_left", "_law_nothing_left", defArgs (hTop 176), defBody (hTop 176), defScope (hTop 176)⟩, ⟨("law", none), "law", "law", defArgs (hTop 177), defBody (hTop 177), defScope (hTop 177)⟩, ⟨("Desk", some "__init__"), "__init__", "Desk.__init__", defArgs (inClass (hTop 144) 0), defBody (inClass (hTop 144) 0), defScope (inClass (hTop 144) 0)⟩, ⟨("Desk", some "say"), "say", "Desk.say", defArgs (inClass (hTop 144) 1), defBody (inClass (hTop 144) 1), defScope (inClass (hTop 144) 1)⟩]
def hFn2 : List He.FnD := [⟨("Desk", some "_undo"), "_undo", "Desk._undo", defArgs (inClass (hTop 144) 2), defBody (inClass (hTop 144) 2), defScope (inClass (hTop 144) 2)⟩]
def hFn : List He.FnD := hFn0 ++ (hFn1 ++ (hFn2))
def hLoose0 : List Str := [Str.ofString "links_of", Str.ofString "places_of", Str.ofString "rows_of", Str.ofString "_reached", Str.ofString "signs_of", Str.ofString "_spread", Str.ofString "RoomError", Str.ofString "NoSpace", Str.ofString "NoFace", Str.ofString "NoTurn", Str.ofString "NoNumbers", Str.ofString "NoSurface", Str.ofString "NoMove", Str.ofString "NoForm", Str.ofString "NoneYet", Str.ofString "is_whole", Str.ofString "is_listed", Str.ofString "is_below", Str.ofString "is_order", Str.ofString "is_turn", Str.ofString "contrary", Str.ofString "is_odd", Str.ofString "space_of", Str.ofString "_block_of"]
def hLoose1 : List Str := [Str.ofString "_joining_of", Str.ofString "_goes_both_ways", Str.ofString "_is_face", Str.ofString "_put", Str.ofString "joined", Str.ofString "parted", Str.ofString "beside", Str.ofString "_block_behind", Str.ofString "met_at", Str.ofString "meetings_of", Str.ofString "turn_sign", Str.ofString "corners_of", Str.ofString "edges_of", Str.ofString "is_bent", Str.ofString "faces_of", Str.ofString "_faces_met", Str.ofString "counted", Str.ofString "border", Str.ofString "parts_of", Str.ofString "turning", Str.ofString "FREE", Str.ofString "least_name", Str.ofString "_joining_behind", Str.ofString "_least_of_part"]
def hLoose2 : List Str := [Str.ofString "_lesser", Str.ofString "_next_row", Str.ofString "_told_around", Str.ofString "_points_of", Str.ofString "_sides_of", Str.ofString "_sides_met", Str.ofString "_ties_of", Str.ofString "_ties_at", Str.ofString "_count_borders", Str.ofString "corner_words", Str.ofString "_word_of", Str.ofString "word_of_around", Str.ofString "is_sound", Str.ofString "SORTS", Str.ofString "QUADS", Str.ofString "are_numbers", Str.ofString "are_numbers_of", Str.ofString "_check_numbers", Str.ofString "arcs_at", Str.ofString "quad_sort", Str.ofString "is_with_corner_0", Str.ofString "fits", Str.ofString "is_surface", Str.ofString "quads_agree"]
def hLoose3 : List Str := [Str.ofString "_sorts_of_quads", Str.ofString "surface_of", Str.ofString "least_surfaces", Str.ofString "_least_of", Str.ofString "_least_that_meet", Str.ofString "_is_put_together", Str.ofString "CORNERS", Str.ofString "MORE", Str.ofString "SIZES", Str.ofString "moves_of", Str.ofString "moves_in", Str.ofString "_names", Str.ofString "moved", Str.ofString "done", Str.ofString "_has_form", Str.ofString "_move_back", Str.ofString "blocks_going", Str.ofString "_blocks_changed", Str.ofString "_split", Str.ofString "_fuse", Str.ofString "_fill", Str.ofString "_drain", Str.ofString "CHANGES_moves", Str.ofString "_others"]
def hLoose4 : List Str := [Str.ofString "_marks_across", Str.ofString "_marks_around", Str.ofString "_are_all_but_one", Str.ofString "_meet_by_marks", Str.ofString "_by_marks", Str.ofString "_marks_of", Str.ofString "_joining_between", Str.ofString "_changed", Str.ofString "_new_spots", Str.ofString "rooms_of", Str.ofString "_region_links", Str.ofString "_regions_in", Str.ofString "_tips_at", Str.ofString "_layers_of", Str.ofString "_sort_of_quads", Str.ofString "_regions_from", Str.ofString "taken_off", Str.ofString "_may_be_taken_off", Str.ofString "_order_from", Str.ofString "_is_alone", Str.ofString "_joined_faces", Str.ofString "_may_be_taken", Str.ofString "_is_one_edge", Str.ofString "FIGURES"]
def hLoose5 : List Str := [Str.ofString "space_text", Str.ofString "_line_of", Str.ofString "word_of_texts", Str.ofString "is_joining_word", Str.ofString "is_number_word", Str.ofString "ALONE", Str.ofString "MOST_FIGURES", Str.ofString "FORMS", Str.ofString "Desk", Str.ofString "_read", Str.ofString "_word_read", Str.ofString "_number_read", Str.ofString "_joining_read", Str.ofString "_block", Str.ofString "_join", Str.ofString "_part", Str.ofString "_move", Str.ofString "_show", Str.ofString "_count", Str.ofString "_border", Str.ofString "_moves", Str.ofString "_name", Str.ofString "_corners", Str.ofString "_sound"]
def hLoose6 : List Str := [Str.ofString "_turning", Str.ofString "_least", Str.ofString "_rooms", Str.ofString "_off", Str.ofString "CHANGES_desk", Str.ofString "QUESTIONS", Str.ofString "_on_one_line", Str.ofString "_things", Str.ofString "_rows", Str.ofString "_law_reel", Str.ofString "_law_draw", Str.ofString "_law_cell", Str.ofString "_law_way", Str.ofString "_law_row", Str.ofString "_law_shown", Str.ofString "_law_nothing_left"]
def hLoose : List Str := hLoose0 ++ (hLoose1 ++ (hLoose2 ++ (hLoose3 ++ (hLoose4 ++ (hLoose5 ++ (hLoose6))))))
def hTabs : List (Str × List Str) := [("FORMS", ["block", "join", "part", "split", "fuse", "fill", "drain", "undo", "show", "count", "border", "moves", "name", "corners", "sound", "turning", "least", "rooms", "off"]), ("CHANGES_desk", ["block", "join", "part", "split", "fuse", "fill", "drain"]), ("QUESTIONS", ["show", "count", "border", "moves", "name", "corners", "sound", "turning", "least", "rooms", "off"])]
def hPick0 : List Str := [Str.ofString "is_whole", Str.ofString "is_listed", Str.ofString "is_below", Str.ofString "is_order", Str.ofString "is_turn", Str.ofString "contrary", Str.ofString "space_of", Str.ofString "_block_of", Str.ofString "_joining_of", Str.ofString "_goes_both_ways", Str.ofString "_is_face", Str.ofString "_put", Str.ofString "joined", Str.ofString "parted", Str.ofString "beside", Str.ofString "_block_behind", Str.ofString "space_text", Str.ofString "_line_of", Str.ofString "word_of_texts", Str.ofString "is_joining_word", Str.ofString "is_number_word", Str.ofString "_read", Str.ofString "_word_read", Str.ofString "_number_read"]
def hPick1 : List Str := [Str.ofString "_joining_read", Str.ofString "_block", Str.ofString "_join", Str.ofString "_part", Str.ofString "_show", Str.ofString "_on_one_line", Str.ofString "_law_reel", Str.ofString "_law_draw", Str.ofString "_law_cell", Str.ofString "_law_way", Str.ofString "_law_row", Str.ofString "_law_shown", Str.ofString "_law_nothing_left", Str.ofString "law", Str.ofString "FORMS", Str.ofString "CHANGES_desk", Str.ofString "QUESTIONS", Str.ofString "ALONE", Str.ofString "Desk", Str.ofString "NoneYet", Str.ofString "MOST_FIGURES", Str.ofString "FIGURES"]
def hPick : List Str := hPick0 ++ (hPick1)
/-- a written tuple at an address -/
def tupA (K : PySem.W.Frag) (a : Addr) (vs : List V) : Bool := match K.lookup a with
  | none => false
  | some o => decide (o.cls = .type "tuple") && (match o.data with
    | .seq its _ => decide (its.size ≤ 1000) && He.relAll vs its.toList
    | _ => false)
def fstA (K : PySem.W.Frag) (a : Addr) : Addr := match K.lookup a with
  | some ⟨_, _, .seq its _, _⟩ => (match its.toList with
    | .ref b :: _ => b
    | _ => 0)
  | _ => 0
def valA (K : PySem.W.Frag) (d : Addr) (x : Str) : Addr := match PySem.W.nsIn K d x with
  | some (some (.ref a)) => a
  | _ => 0
def formB (K : PySem.W.Frag) (x : Str) (ks : List Str) : Bool := He.eqO (PySem.W.nsIn K (He.ga K "FORMS") x) (some (some (.ref (valA K (He.ga K "FORMS") x)))) && tupA K (valA K (He.ga K "FORMS") x) (ks.map V.str)
def goesB (K : PySem.W.Frag) (d x g : Str) : Bool := He.eqO (PySem.W.nsIn K (He.ga K d) x) (some (some (.ref (He.ga K g))))
def bitX (K : PySem.W.Frag) : Bool :=
  (tupA K (He.ga K "ALONE") [.ref (fstA K (He.ga K "ALONE"))] && tupA K (fstA K (He.ga K "ALONE")) [.non, .non, .non, .non]) &&
  ((formB K "block" [] && (formB K "part" ["number", "number"] && (formB K "join" ["number", "number", "joining"] && (formB K "show" [] && formB K "undo" [])))) &&
  ((goesB K "CHANGES_desk" "block" "_block" && (goesB K "CHANGES_desk" "join" "_join" && goesB K "CHANGES_desk" "part" "_part")) &&
  (goesB K "QUESTIONS" "show" "_show" && He.eqO (PySem.W.nsIn K (He.ga K "CHANGES_desk") "show") (some none))))
/-- what the end looks at: the module's names that it leans on, and what they reach -/
def kin (o : Obj) : List Addr := match o.data with
  | .fields _ => []
  | _ => He.refsO o
def addNew : List Addr → List Addr → List Addr
  | [], old => old
  | a :: r, old => addNew r (match old.any (fun b => Nat.beq a b) with | true => old | false => a :: old)
def reach (g : Addr → Option Obj) : Nat → List Addr → List Addr → List Addr
  | 0, _, old => old
  | n + 1, front, old =>
    let next := front.flatMap fun a => match g a with
      | some o => kin o
      | none => []
    reach g n next (addNew next old)
def firsts (g : Addr → Option Obj) : List Addr := match g mainGlobals with
  | some ⟨_, _, .dict es _, _⟩ => es.toList.flatMap fun e => match e.key with
    | .str x _ => (match hPick.any (fun y => decide (x = y)) with | true => He.refV e.val | false => [])
    | _ => []
  | _ => []
def pickG (g : Addr → Option Obj) : List Addr := reach g 5 (firsts g) (mainGlobals :: firsts g)
def obsX (K : PySem.W.Frag) : He.Al × List (Option (List (Option (Str × Int)))) × Bool := (He.obsE hFa hFn K, hTabs.map (fun t => He.dicW K (He.ga K t.1)), bitX K)
def valX (w : World) : He.Al × List (Option (List (Option (Str × Int)))) × Bool := (He.valE hFn, hTabs.map (fun t => some (He.keysIn w.params t.2)), true)
def hookX : PySem.W.Hook where
  α := He.Al × List (Option (List (Option (Str × Int)))) × Bool
  obs := fun s => obsX (He.frG s.heap.get? (pickG s.heap.get?))
  val := valX
  says := fun w h => ∃ K : PySem.W.Frag, K.In h ∧ obsX K = valX w
  of := fun _ _ e => ⟨_, He.frG_in, e⟩
  keeps := fun _ _ _ z k => z.elim fun K q => ⟨K, PySem.W.Frag.In.keeps q.1 k, q.2⟩
def obX (s : PySem.W.SharedT) : He.Al × List (Option (List (Option (Str × Int)))) × Bool := obsX (He.frG (HandSHeadRun.getT s) (pickG (HandSHeadRun.getT s)))
theorem obX_eq (s : PySem.W.SharedT) : obX s = hookX.obs s.abs := by
  have e : HandSHeadRun.getT s = s.abs.heap.get? := funext fun a => HandSHeadRun.getT_eq s a
  unfold obX
  rw [e]
  all_goals rfl
abbrev Rw : PySem.W.OpenRow := PySem.W.OpenLaw.row PySem.Challenge.rw_blockrooms_k85_whole_a_long_day_undone
abbrev Vw : Program := PySem.W.view Rw.prog [0, 1, 177]
noncomputable abbrev Wh (w : World) : Option (Shared × PySem.W.SharedT) := HandSHeadRun.wholeF (fun p => HandSHeadRun.stepQ (HandSHeadRun.denQ HandSHeadRun.tabQ) p w) HandSHeadRun.fenceQ 9000 Rw.prog
open PySem.W PySem.Calls in
noncomputable def see (s : Shared) := HandSHeadRun.seenQ Vw hLoose (importedModules Rw.prog.main.body) (fun s => xlAt Vw [] s && recOk Rw.toRowW.records s) s
open PySem.W PySem.Calls in
abbrev Ps (w : World) : Prop := (Wh w).map (fun x => staticsOk (importedModules Rw.prog.main.body) x.1.heap x.2.abs.heap) = some true
set_option maxHeartbeats 0 in
theorem runs_false (w : World) : Ps (w.withFollow "special-get-raises" false) := by
  unfold Ps Wh; kernel_rfl
set_option maxHeartbeats 0 in
theorem runs_true (w : World) : Ps (w.withFollow "special-get-raises" true) := by
  unfold Ps Wh; kernel_rfl
theorem runs (w : World) : Ps w := PySem.W.byRow2 "special-get-raises" (P := Ps) runs_false runs_true w
open PySem.W PySem.Calls in
abbrev Pn (w : World) : Prop := (Wh w).map (fun x => namesBound Rw.prog x.2.abs.heap) = some true
set_option maxHeartbeats 0 in
theorem runn_false (w : World) : Pn (w.withFollow "special-get-raises" false) := by
  unfold Pn Wh; kernel_rfl
set_option maxHeartbeats 0 in
theorem runn_true (w : World) : Pn (w.withFollow "special-get-raises" true) := by
  unfold Pn Wh; kernel_rfl
theorem runn (w : World) : Pn w := PySem.W.byRow2 "special-get-raises" (P := Pn) runn_false runn_true w
open PySem.W PySem.Calls in
abbrev Pg (w : World) : Prop := (Wh w).map (fun x => (gensDone x.2.abs && laidKept x.1.heap x.2.abs.heap)) = some true
set_option maxHeartbeats 0 in
theorem rung_false (w : World) : Pg (w.withFollow "special-get-raises" false) := by
  unfold Pg Wh; kernel_rfl
set_option maxHeartbeats 0 in
theorem rung_true (w : World) : Pg (w.withFollow "special-get-raises" true) := by
  unfold Pg Wh; kernel_rfl
theorem rung (w : World) : Pg w := PySem.W.byRow2 "special-get-raises" (P := Pg) rung_false rung_true w
open PySem.W PySem.Calls in
abbrev Pb (w : World) : Prop := (Wh w).map (fun x => see x.2.abs) = some (PySem.W.openGood Vw hLoose)
set_option maxHeartbeats 0 in
theorem runb_false (w : World) : Pb (w.withFollow "special-get-raises" false) := by
  unfold Pb Wh; kernel_rfl
set_option maxHeartbeats 0 in
theorem runb_true (w : World) : Pb (w.withFollow "special-get-raises" true) := by
  unfold Pb Wh; kernel_rfl
theorem runb (w : World) : Pb w := PySem.W.byRow2 "special-get-raises" (P := Pb) runb_false runb_true w
open PySem.W PySem.Calls in
abbrev Pc (w : World) : Prop := (Wh w).map (fun x => obX x.2) = some (valX w)
set_option maxHeartbeats 0 in
theorem runc_false (w : World) : Pc (w.withFollow "special-get-raises" false) := by
  unfold Pc Wh; kernel_rfl
set_option maxHeartbeats 0 in
theorem runc_true (w : World) : Pc (w.withFollow "special-get-raises" true) := by
  unfold Pc Wh; kernel_rfl
theorem runc (w : World) : Pc w := PySem.W.byRow2 "special-get-raises" (P := Pc) runc_false runc_true w
theorem mapB {α : Type} {o : Option α} {s n g k : α → Bool} (h : ∀ t, s t = true → n t = true → g t = true → k t = true) (x : o.map s = some true) (y : o.map n = some true) (z : o.map g = some true) : o.map k = some true := by
  cases o with
  | none => cases x
  | some t => exact congrArg some (h t (Option.some.inj x) (Option.some.inj y) (Option.some.inj z))
theorem runa (w : World) : (Wh w).map (fun x => HandSHeadRun.looksF Rw.prog x.1.heap x.2.abs) = some true := mapB (fun t h1 h2 h3 => by
  obtain ⟨h4, h5⟩ := Bool.and_eq_true_iff.mp h3
  exact Bool.and_eq_true_iff.mpr ⟨Bool.and_eq_true_iff.mpr ⟨Bool.and_eq_true_iff.mpr ⟨h1, h2⟩, h4⟩, h5⟩) (runs w) (runn w) (rung w)
theorem map3 {α β γ δ : Type} {o : Option α} {f : α → β} {g : α → γ} {h : α → δ} {a : β} {b : γ} {c : δ} (x : o.map f = some a) (y : o.map g = some b) (z : o.map h = some c) : o.map (fun t => (f t, g t, h t)) = some (a, b, c) := by
  cases o with
  | none => cases x
  | some t =>
    obtain rfl := Option.some.inj x
    obtain rfl := Option.some.inj y
    obtain rfl := Option.some.inj z
    rfl
theorem runX (w : World) : HandSHeadRun.RunEqI Rw Vw hookX obX 9000 hLoose w := map3 (runa w) (runb w) (runc w)
end Bk

/-! Common to all laws: what stays, the reel, turns and blocks as plain Lean, and as they stand in the heap. -/
namespace Bk
open PySem PySem.Spec PyProof.Rows L2

/-! ### what stays -/
/-- all that was tracked but R is as it was -/
def Keep (R : Addr) (H H' : Hp) : Prop := ∀ b o, H b = some o → b ≠ R → H' b = some o
theorem Keep.refl (R : Addr) (H : Hp) : Keep R H H := fun _ _ h _ => h
theorem Keep.trans {R : Addr} {H H1 H2 : Hp} (a : Keep R H H1) (b : Keep R H1 H2) : Keep R H H2 := fun c o h n => b c o (a c o h n) n
theorem Keep.of {R : Addr} {H H' : Hp} (a : Same H H') : Keep R H H' := fun c o h _ => a c o h
theorem Keep.same {R : Addr} {H H1 H2 : Hp} (a : Keep R H H1) (b : Same H1 H2) : Keep R H H2 := a.trans (.of b)
theorem _root_.L2.Same.keep {R : Addr} {H H1 H2 : Hp} (a : Same H H1) (b : Keep R H1 H2) : Keep R H H2 := (Keep.of a).trans b
theorem same_new {H : Hp} {p : Addr} {o : HO} (h : H p = none) : Same H (upd H p o) := fun b x e => by
  rw [upd_ne (ne_of_none e h)]
  exact e
theorem keep_set {H : Hp} {p : Addr} {o : HO} : Keep p H (upd H p o) := fun b x e n => by
  rw [upd_ne n]
  exact e
/-- a list that a loop or comprehension fills, made since -/
theorem same_fill {H H1 : Hp} {D : Addr} {o : HO} (a : Same H H1) (h : H D = none) : Same H (upd H1 D o) := fun b x e => by
  rw [upd_ne (ne_of_none e h)]
  exact a b x e
theorem keep_fill {R : Addr} {H H1 : Hp} {D : Addr} {o : HO} (a : Keep R H H1) (h : H D = none) : Keep R H (upd H1 D o) := fun b x e n => by
  rw [upd_ne (ne_of_none e h)]
  exact a b x e n
theorem Keep.free {R : Addr} {H H' : Hp} (a : Keep R H H') {l : Addr} (h : H' l = none) (n : l ≠ R) : H l = none := by
  cases q : H l with
  | none => rfl
  | some o =>
    rw [a l o q n] at h
    cases h
theorem _root_.L2.Same.sqt {K : PySem.W.Frag} {H H' : Hp} {a : Addr} {xs : List V} (e : Same H H') (h : SqT K H a xs) : SqT K H' a xs := by
  rcases h with (h | ⟨o, h⟩) | h
  · exact .inl (.inl (e _ _ h))
  · exact .inl (.inr ⟨o, e _ _ h⟩)
  · exact .inr h
theorem lst_inj {H : Hp} {p : Addr} {xs ys : List V} (a : H p = some (.lst xs)) (b : H p = some (.lst ys)) : xs = ys := by
  rw [a] at b
  injection b with b
  injection b with b

/-! ### the reel -/
/-- the reel's four: great, cells, turned, stirred -/
structure Reel (R g c : Addr) (gs cs : List Int) (n st : Int) (H : Hp) : Prop where
  r : H R = some (.lst [.ref g, .ref c, .int n, .int st])
  g : H g = some (.lst (gs.map V.int))
  c : H c = some (.lst (cs.map V.int))
  gl : gs.length ≤ 63
  cl : cs.length ≤ 64
  g0 : ∀ x ∈ gs, 0 ≤ x
  c0 : ∀ x ∈ cs, 0 ≤ x ∧ x < 1000003
  ne : cs ≠ []
  s0 : 0 ≤ st
  s1 : st.natAbs < 2 ^ 127
def ReelOk (R : Addr) (H : Hp) : Prop := ∃ g c gs cs n st, Reel R g c gs cs n st H
theorem ReelOk.same {R : Addr} {H H' : Hp} (h : ReelOk R H) (s : Same H H') : ReelOk R H' := by
  obtain ⟨g, c, gs, cs, n, st, r⟩ := h
  exact ⟨g, c, gs, cs, n, st, ⟨s _ _ r.r, s _ _ r.g, s _ _ r.c, r.gl, r.cl, r.g0, r.c0, r.ne, r.s0, r.s1⟩⟩
/-- a list that is none of the reel's -/
def NotReel (xs : List V) : Prop := ∃ x r, xs = x :: r ∧ (∀ i : Int, x ≠ .int i) ∧ ∀ v ∈ xs, ∀ i : Int, v ≠ .int i
theorem ReelOk.set {R p : Addr} {H : Hp} {xs : List V} {o : HO} (h : ReelOk R H) (hp : H p = some (.lst xs)) (n : NotReel xs) : ReelOk R (upd H p o) ∧ p ≠ R := by
  obtain ⟨g, c, gs, cs, m, st, r⟩ := h
  obtain ⟨x, l, e, hx, hv⟩ := n
  have n1 : p ≠ R := fun z => by
    subst z
    have q := lst_inj hp r.r
    exact hv (.int m) (by rw [q]; simp) m rfl
  have nI : ∀ {q : Addr} {ns : List Int}, H q = some (.lst (ns.map V.int)) → p ≠ q := fun {q ns} hq z => by
    subst z
    have q := lst_inj hp hq
    rw [e] at q
    cases ns with
    | nil => cases q
    | cons y t =>
      injection q with q _
      exact hx y q
  have n2 := nI r.g
  have n3 := nI r.c
  exact ⟨⟨g, c, gs, cs, m, st, ⟨by rw [upd_ne n1.symm]; exact r.r, by rw [upd_ne n2.symm]; exact r.g, by rw [upd_ne n3.symm]; exact r.c, r.gl, r.cl, r.g0, r.c0, r.ne, r.s0, r.s1⟩⟩, n1⟩
/-- D is none of the reel's three lists -/
def Away (R D : Addr) (H : Hp) : Prop := ∃ g c gs cs n st, Reel R g c gs cs n st H ∧ D ≠ R ∧ D ≠ g ∧ D ≠ c
theorem Away.ok {R D : Addr} {H : Hp} (h : Away R D H) : ReelOk R H := by
  obtain ⟨g, c, gs, cs, n, st, r, _⟩ := h
  exact ⟨g, c, gs, cs, n, st, r⟩
theorem Away.ne {R D : Addr} {H : Hp} (h : Away R D H) : D ≠ R := by
  obtain ⟨g, c, gs, cs, n, st, r, h, _⟩ := h
  exact h
theorem Away.same {R D : Addr} {H H' : Hp} (h : Away R D H) (s : Same H H') : Away R D H' := by
  obtain ⟨g, c, gs, cs, n, st, r, q⟩ := h
  exact ⟨g, c, gs, cs, n, st, ⟨s _ _ r.r, s _ _ r.g, s _ _ r.c, r.gl, r.cl, r.g0, r.c0, r.ne, r.s0, r.s1⟩, q⟩
theorem Away.fill {R D : Addr} {H : Hp} {o : HO} (h : Away R D H) : Away R D (upd H D o) := by
  obtain ⟨g, c, gs, cs, n, st, r, h1, h2, h3⟩ := h
  exact ⟨g, c, gs, cs, n, st, ⟨by rw [upd_ne h1.symm]; exact r.r, by rw [upd_ne h2.symm]; exact r.g, by rw [upd_ne h3.symm]; exact r.c, r.gl, r.cl, r.g0, r.c0, r.ne, r.s0, r.s1⟩, h1, h2, h3⟩
theorem Away.fill' {R D D' : Addr} {H : Hp} {o : HO} (h : Away R D' H) (a : Away R D H) : Away R D' (upd H D o) := by
  obtain ⟨g, c, gs, cs, n, st, r, h1, h2, h3⟩ := a
  obtain ⟨g', c', _, _, _, _, r', z⟩ := h
  have e := r.r.symm.trans r'.r
  injection e with e
  injection e with e
  injection e with e1 e
  injection e with e2 e
  injection e1 with e1
  injection e2 with e2
  subst e1 e2
  exact ⟨g, c, _, _, _, _, ⟨by rw [upd_ne h1.symm]; exact r'.r, by rw [upd_ne h2.symm]; exact r'.g, by rw [upd_ne h3.symm]; exact r'.c, r'.gl, r'.cl, r'.g0, r'.c0, r'.ne, r'.s0, r'.s1⟩, z⟩
theorem ReelOk.away {R D : Addr} {H : Hp} {o : HO} (h : ReelOk R H) (hD : H D = none) : Away R D (upd H D o) := by
  obtain ⟨g, c, gs, cs, n, st, r⟩ := h
  have h1 : R ≠ D := ne_of_none r.r hD
  have h2 : g ≠ D := ne_of_none r.g hD
  have h3 : c ≠ D := ne_of_none r.c hD
  exact ⟨g, c, gs, cs, n, st, ⟨by rw [upd_ne h1]; exact r.r, by rw [upd_ne h2]; exact r.g, by rw [upd_ne h3]; exact r.c, r.gl, r.cl, r.g0, r.c0, r.ne, r.s0, r.s1⟩, h1.symm, h2.symm, h3.symm⟩
theorem Away.set {R D p : Addr} {H : Hp} {xs : List V} {o : HO} (h : Away R D H) (hp : H p = some (.lst xs)) (n : NotReel xs) : Away R D (upd H p o) ∧ p ≠ R := by
  obtain ⟨g, c, gs, cs, m, st, r, q⟩ := h
  obtain ⟨x, l, e, hx, hv⟩ := n
  have n1 : p ≠ R := fun z => by
    subst z
    have q := lst_inj hp r.r
    exact hv (.int m) (by rw [q]; simp) m rfl
  have nI : ∀ {q : Addr} {ns : List Int}, H q = some (.lst (ns.map V.int)) → p ≠ q := fun {q ns} hq z => by
    subst z
    have q := lst_inj hp hq
    rw [e] at q
    cases ns with
    | nil => cases q
    | cons y t =>
      injection q with q _
      exact hx y q
  exact ⟨⟨g, c, gs, cs, m, st, ⟨by rw [upd_ne n1.symm]; exact r.r, by rw [upd_ne (nI r.g).symm]; exact r.g, by rw [upd_ne (nI r.c).symm]; exact r.c, r.gl, r.cl, r.g0, r.c0, r.ne, r.s0, r.s1⟩, q⟩, n1⟩
/-- R's list is known by its third -/
theorem ReelOk.isR {R p : Addr} {H : Hp} {xs : List V} (h : ReelOk R H) (hp : H p = some (.lst xs)) (hx : ∀ v ∈ xs, ∀ i : Int, v ≠ .int i) : p ≠ R := fun z => by
  obtain ⟨g, c, gs, cs, m, st, r⟩ := h
  subst z
  have q := lst_inj hp r.r
  exact hx (.int m) (by rw [q]; simp) m rfl
theorem ReelOk.isT {R p : Addr} {H : Hp} {o : Obj} {u : HO} (h : ReelOk R H) (hp : H p = some (.frz o u)) : p ≠ R := fun z => by
  obtain ⟨g, c, gs, cs, m, st, r⟩ := h
  subst z
  rw [r.r] at hp
  cases hp
theorem Keep.tup {R p : Addr} {H H' : Hp} {o : Obj} {u : HO} (k : Keep R H H') (h : ReelOk R H) (hp : H p = some (.frz o u)) : H' p = some (.frz o u) := k _ _ hp (h.isT hp)

/-! ### lists of values -/
theorem small16 {n : Nat} (h : n ≤ 4000) : n < sizeLine := Nat.lt_of_le_of_lt h (by decide)
theorem get_map_int {ns : List Int} {i : Nat} {x : V} (h : (ns.map V.int)[i]? = some x) : ∃ k, x = .int k ∧ ns[i]? = some k := by
  rw [List.getElem?_map] at h
  cases e : ns[i]? with
  | none => rw [e] at h; cases h
  | some k =>
    rw [e] at h
    injection h with h
    exact ⟨k, h.symm, rfl⟩
theorem cut_to (xs : List V) (n : Nat) : cutV xs none (some (n : Int)) = xs.take n := by
  unfold cutV
  rw [HT.sIx_none, show HT.sIx xs.length xs.length (some (n : Int)) = min n xs.length from HT.sIx_nat xs.length xs.length n]
  show List.take (min n xs.length - 0) (xs.drop 0) = xs.take n
  rw [List.drop_zero, Nat.sub_zero]
  by_cases h : n ≤ xs.length
  · rw [Nat.min_eq_left h]
  · rw [Nat.min_eq_right (by omega), List.take_length, List.take_of_length_le (by omega)]
theorem cut_from1 (xs : List V) : cutV xs (some 1) none = xs.drop 1 := by
  unfold cutV
  rw [show HT.sIx xs.length 0 (some 1) = min 1 xs.length from HT.sIx_nat xs.length 0 1, HT.sIx_none]
  cases xs with
  | nil => rfl
  | cons x r =>
    rw [show min 1 (x :: r).length = 1 by
      rw [List.length_cons]
      omega]
    show (List.take ((x :: r).length - 1) r) = r
    rw [List.length_cons, Nat.add_sub_cancel]
    exact List.take_length
theorem fmod_pos {a b : Int} (h : 0 < b) : 0 ≤ a.fmod b ∧ a.fmod b < b := ⟨Int.fmod_nonneg_of_pos a h, Int.fmod_lt_of_pos a h⟩
theorem take_succ_map {α β : Type} {f : α → β} {xs : List α} {i : Nat} {x : α} (h : xs[i]? = some x) : (xs.take (i + 1)).map f = (xs.take i).map f ++ [f x] := by
  rw [List.take_add_one, h, List.map_append]
  rfl

/-! ### turns -/
abbrev Trn := List Nat
def turnsAB (a b : Nat) : List Trn := ((List.range 4).filter fun c => !(a == c || b == c)).map fun c => [a, b, c, 6 - a - b - c]
def bsOf (a : Nat) : List Nat := (List.range 4).filter fun b => !(b == a)
def turnsA (a : Nat) : List Trn := (bsOf a).flatMap (turnsAB a)
def turnsTo (n : Nat) : List Trn := (List.range n).flatMap turnsA
def allTurns : List Trn := turnsTo 4
def back (t : Trn) : Trn := (List.range 4).map fun c => t.idxOf c
def intV (n : Nat) : V := .int (n : Int)
def trnV (t : Trn) : List V := t.map intV
theorem turnsTo_succ (n : Nat) : turnsTo (n + 1) = turnsTo n ++ turnsA n := by
  unfold turnsTo
  rw [List.range_succ, List.flatMap_append]
  simp
theorem turns_len : allTurns.length = 24 := by decide +kernel
theorem turns4 : ∀ t ∈ allTurns, t.length = 4 ∧ (∀ x ∈ t, x < 4) ∧ back t ∈ allTurns ∧ (∀ x < 4, t[t.idxOf x]? = some x) ∧ t.Nodup := by decide +kernel
theorem turns_face : ∀ f < 4, ∀ a < 4, (allTurns.filter fun t => t[f]? == some a).length = 6 := by decide +kernel
theorem range_filter_succ (p : Nat → Bool) (n : Nat) : (List.range (n + 1)).filter p = (List.range n).filter p ++ (if p n then [n] else []) := by
  rw [List.range_succ, List.filter_append]
  by_cases h : p n
  · rw [if_pos h]
    simp [h]
  · rw [if_neg h]
    simp [h]

/-! ### as they stand -/
/-- a tuple stands at p, as the object o, that has no dict of its own -/
def FT (H : Hp) (p : Addr) (xs : List V) : Prop := ∃ o : Obj, o.dict = none ∧ H p = some (.frz o (.tup xs))
theorem FT.sqt {K : PySem.W.Frag} {H : Hp} {p : Addr} {xs : List V} (h : FT H p xs) : SqT K H p xs := by
  obtain ⟨o, _, h⟩ := h
  exact .inl (.inr ⟨o, h⟩)
/-- every such tuple stands -/
def Tups (H H' : Hp) : Prop := ∀ b o xs, H b = some (.frz o (.tup xs)) → H' b = some (.frz o (.tup xs))
theorem Tups.refl (H : Hp) : Tups H H := fun _ _ _ h => h
theorem Tups.trans {H H1 H2 : Hp} (a : Tups H H1) (b : Tups H1 H2) : Tups H H2 := fun c o xs h => b c o xs (a c o xs h)
theorem _root_.L2.Same.tups {H H' : Hp} (a : Same H H') : Tups H H' := fun b o xs h => a b _ h
theorem Keep.tups {R : Addr} {H H' : Hp} (k : Keep R H H') (h : ReelOk R H) : Tups H H' := fun b o xs e => k.tup h e
theorem tups_set {H : Hp} {p : Addr} {xs : List V} {o : HO} (h : H p = some (.lst xs)) : Tups H (upd H p o) := fun b _ ys e => by
  rw [upd_ne (ne_of e h (by intro z; cases z))]
  exact e
theorem FT.mono {H H' : Hp} {p : Addr} {xs : List V} (h : FT H p xs) (m : Tups H H') : FT H' p xs := by
  obtain ⟨o, d, h⟩ := h
  exact ⟨o, d, m _ _ _ h⟩
theorem FT.ne {H : Hp} {p q : Addr} {xs ys : List V} (h : FT H p xs) (k : H q = some (.lst ys)) : p ≠ q := by
  obtain ⟨o, d, h⟩ := h
  exact ne_of h k (by intro z; cases z)
theorem FT.new {H : Hp} {p : Addr} {xs : List V} {o : Obj} (d : o.dict = none) : FT (upd H p (.frz o (.tup xs))) p xs := ⟨o, d, upd_same⟩
theorem FT.inj {H : Hp} {p : Addr} {xs ys : List V} (h : FT H p xs) (k : FT H p ys) : xs = ys := by
  obtain ⟨o, d, h⟩ := h
  obtain ⟨o', d', k⟩ := k
  rw [h] at k
  injection k with k
  injection k with _ k
  injection k with k
def TAt (H : Hp) (v : V) (t : Trn) : Prop := ∃ p, v = .ref p ∧ FT H p (trnV t)
theorem TAt.mono {H H' : Hp} {v : V} {t : Trn} (h : TAt H v t) (m : Tups H H') : TAt H' v t := by
  obtain ⟨p, e, h⟩ := h
  exact ⟨p, e, h.mono m⟩
theorem pmono {α β : Type} {F G : α → β → Prop} {xs : List α} {ys : List β} (h : Paired F xs ys) (m : ∀ a b, F a b → G a b) : Paired G xs ys := Paired.mapP h m
theorem papp {α β : Type} {F : α → β → Prop} : ∀ {xs xs' : List α} {ys ys' : List β}, Paired F xs ys → Paired F xs' ys' → Paired F (xs ++ xs') (ys ++ ys')
  | _, _, _, _, .nil, h => h
  | _, _, _, _, .cons a t, h => .cons a (papp t h)
theorem plen {α β : Type} {F : α → β → Prop} {xs : List α} {ys : List β} (h : Paired F xs ys) : xs.length = ys.length := h.length
theorem pget {α β : Type} {F : α → β → Prop} : ∀ {xs : List α} {ys : List β} {i : Nat} {y : β}, Paired F xs ys → ys[i]? = some y → ∃ x, xs[i]? = some x ∧ F x y
  | _, _, _, _, .nil, e => by simp at e
  | _, _, 0, _, .cons r _, e => ⟨_, rfl, by simp at e; subst e; exact r⟩
  | _, _, i + 1, _, .cons _ t, e => by
    obtain ⟨x, h1, h2⟩ := pget (i := i) t (by simpa using e)
    exact ⟨x, by simpa using h1, h2⟩
theorem pget' {α β : Type} {F : α → β → Prop} : ∀ {xs : List α} {ys : List β} {i : Nat} {x : α}, Paired F xs ys → xs[i]? = some x → ∃ y, ys[i]? = some y ∧ F x y
  | _, _, _, _, .nil, e => by simp at e
  | _, _, 0, _, .cons r _, e => ⟨_, rfl, by simp at e; subst e; exact r⟩
  | _, _, i + 1, _, .cons _ t, e => by
    obtain ⟨x, h1, h2⟩ := pget' (i := i) t (by simpa using e)
    exact ⟨x, by simpa using h1, h2⟩

/-! ### rules with the written part K by name (a comprehension's own context has it, but not by that name) -/
section
variable {X : Cx} (K : PySem.W.Frag)
theorem kIxL (h : X.K = K) : IxR X (rIxL K) := h ▸ ix_list
theorem kIxT (h : X.K = K) : IxR X (rIxT K) := h ▸ ix_tup
theorem kSlL (h : X.K = K) : SlR X (rSlL K) := h ▸ sl_list
theorem kIn (h : X.K = K) : OpR X (compareOp .In) (rIn K false) := h ▸ op_in_seq
theorem kNotIn (h : X.K = K) : OpR X (compareOp .NotIn) (rIn K true) := h ▸ op_notIn_seq
theorem kEqD (h : X.K = K) (hu : X.A.units + 64 < cLine) : OpR X (compareOp .Eq) (rEqD K) := h ▸ op_eqD hu
theorem kNeD (h : X.K = K) (hu : X.A.units + 64 < cLine) : OpR X (compareOp .NotEq) (rNeD K) := h ▸ op_neD hu
def rLen (K : PySem.W.Frag) : List V → Hp → VK → Prop := fun xs H Q => ∃ p ys, xs = [.ref p] ∧ (SqL K H p ys ∨ SqT K H p ys) ∧ Q (.int ys.length) H
theorem kLen (h : X.K = K) : CallR X (.builtin "len") (rLen K) := h ▸ call_len_seq
def rListOf (K : PySem.W.Frag) : List V → Hp → VK → Prop := fun xs H Q => ∃ p ys, xs = [.ref p] ∧ (SqL K H p ys ∨ SqT K H p ys) ∧ ∀ l, H l = none → Q (.ref l) (upd H l (.lst ys))
theorem kList (h : X.K = K) : CallR X (.type "list") (rListOf K) := h ▸ call_list_of
def rTupleOf (K : PySem.W.Frag) : List V → Hp → VK → Prop := fun xs H Q => ∃ p ys, xs = [.ref p] ∧ ((SqL K H p ys ∧ ∀ l, H l = none → Q (.ref l) (upd H l (.tup ys))) ∨ (SqT K H p ys ∧ Q (.ref p) H))
theorem kTuple (h : X.K = K) : CallR X (.type "tuple") (rTupleOf K) := h ▸ call_tuple_of
theorem kIsi (h : X.K = K) : CallR X (.builtin "isinstance") (rIsi K) := h ▸ call_isi
theorem kIsiT (h : X.K = K) : CallR X (.builtin "isinstance") (rIsiT K) := h ▸ call_isiT
theorem kIndex (h : X.K = K) : MtR X "list.index" (rIndex K) := h ▸ mt_index
theorem kBM {e : Expr} {T : String} {r : V → List V → Hp → VK → Prop} {to : TE} {t : TA} (h : X.K = K) (x : PE X e (tBM X.K T r to t)) : PE X e (tBM K T r to t) := h ▸ x
theorem kBM0 {e : Expr} {T : String} {r : V → List V → Hp → VK → Prop} {to : TE} (h : X.K = K) (x : PE X e (tBM0 X.K T r to)) : PE X e (tBM0 K T r to) := h ▸ x
theorem kPiL {tg l : Expr} {tl : TE} (h : X.K = K) (x : PI X tg l (iList X.K tl)) : PI X tg l (iList K tl) := h ▸ x
theorem kPiT {tg l : Expr} {tl : TE} (h : X.K = K) (x : PI X tg l (iTup X.K tl)) : PI X tg l (iTup K tl) := h ▸ x
theorem kPgT {tg : Expr} {n : Nat} {t : TGs} (h : X.K = K) (x : PG X tg (gTup X.K n t)) : PG X tg (gTup K n t) := h ▸ x
def rJoin (K : PySem.W.Frag) : V → List V → Hp → VK → Prop := fun x xs H Q => ∃ a p, ∃ ys : List Str, x = .str a ∧ xs = [.ref p] ∧ (SqL K H p (ys.map V.str) ∨ SqT K H p (ys.map V.str)) ∧ (ys.map (·.length)).sum + ys.length * a.length ≤ 16777216 ∧ Q (.str (Txt.join a ys)) H
theorem kJoin {e : Expr} {to te : TE} (h : X.K = K) (x : PE X e (tM1 (rJoin X.K) to te)) : PE X e (tM1 (rJoin K) to te) := h ▸ x
theorem kAll (h : X.K = K) (hc : X.calm = true) : CallR X (.builtin "all") (rAll K) := h ▸ cr_all hc
/-- (a, b, ..), told as the object that it is -/
def tTupF (t : TA) : TE := fun σ H Q => t σ H fun xs H1 => xs.length ≤ sizeLine ∧ ∀ p o, H1 p = none → o.dict = none → Q (.ref p) (upd H1 p (.frz o (.tup xs)))
theorem pe_tupF {es : List Expr} {t : TA} {pos : Pos} {x1} (h : PA X es t) : PE X (.Tuple es x1 pos) (tTupF t) := by
  refine ⟨fun pins s σ H Q I hw => wpAny_Tuple_spliced (thn (h.run pos pins s σ H _ I hw) fun us s1 hv => ?_)⟩
  obtain ⟨xs, H1, J, r, z, q⟩ := hv
  refine ⟨by rw [← r.length]; exact z, .ref s1.heap.objs.size, upd H1 s1.heap.objs.size (.frz { cls := .type "tuple", data := .seq us.toArray } (.tup xs)), ?_, rfl, q _ _ (J.hok.fresh (Nat.le_refl _)) rfl⟩
  have g : (s1.heap.push { cls := .type "tuple", data := .seq us.toArray }).get? s1.heap.objs.size = some { cls := .type "tuple", data := .seq us.toArray } := Heap.get?_push_size _ rfl
  exact J.laid (t' := s1.toks) (fun _ _ e => Heap.get?_push_of_some _ e) (Nat.le_refl _) ⟨g, z, us, r, ⟨_, g, rfl, _, rfl⟩⟩
/-- tuple(x), likewise -/
def rTupleF (K : PySem.W.Frag) : List V → Hp → VK → Prop := fun xs H Q => ∃ p ys, xs = [.ref p] ∧ ((SqL K H p ys ∧ ∀ l o, H l = none → o.dict = none → Q (.ref l) (upd H l (.frz o (.tup ys)))) ∨ (SqT K H p ys ∧ Q (.ref p) H))
theorem kTupleF (h : X.K = K) : CallR X (.type "tuple") (rTupleF K) := by
  subst h
  rintro pins s σ H _ us Q I r ⟨p, ys, rfl, hw⟩
  obtain ⟨u, rfl, rx⟩ := vals1 r
  cases rx
  rcases hw with ⟨hq, q⟩ | ⟨hq, q⟩
  · obtain ⟨its, rv, pl, hz⟩ := I.list hq
    have hlen := rv.length
    refine call_tuple_list pl.isList (fun h' kp => ?_) (by simp only [List.size_toArray] <;> omega)
    have J : Inv X pins σ H { s with heap := h' } := I.kept (t' := s.toks) kp
    have g : (h'.push { cls := .type "tuple", data := .seq its.toArray }).get? h'.objs.size = some { cls := .type "tuple", data := .seq its.toArray } := Heap.get?_push_size _ rfl
    exact ⟨.ref h'.objs.size, _, J.laid (t' := s.toks) (fun _ _ e => Heap.get?_push_of_some _ e) (Nat.le_refl _) (show ObjOk X.prog X.w _ _ _ (.frz _ (.tup ys)) from ⟨g, hz, its, rv, ⟨_, g, rfl, _, rfl⟩⟩), rfl, q _ _ (J.hok.fresh (Nat.le_refl _)) rfl⟩
  · obtain ⟨its, _, pl, _⟩ := I.tuple hq
    exact call_tuple_same pl ⟨.ref p, H, I, rfl, q⟩
/-- t.m(e, ..), t such a tuple -/
def tBMF (r : V → List V → Hp → VK → Prop) (to : TE) (t : TA) : TE := fun σ H Q => to σ H fun x H1 => (∃ p xs, x = .ref p ∧ FT H1 p xs) ∧ t σ H1 fun vs H2 => r x vs H2 Q
theorem pe_bmF {o e : Expr} {es : List Expr} {to : TE} {t : TA} {name : Str} {apos cpos : Pos} {id : String} {r : V → List V → Hp → VK → Prop} (pa : PlainAttrs "tuple") (slot : Slot "tuple" name id) (hty : typeOf (.builtin id) = pure (.type "method_descriptor")) (hm : MtR X id r)
    (ho : PE X o to) (ha : PA X (e :: es) t) (h1 : attributeBase o name X.env (eval o X.env) = eval o X.env := by rfl)
    (h2 : ((backTo cpos (starEach (e :: es) X.env)).all (fun x => !x.1) && (backToKw cpos (keywordEach [] X.env)).all (fun x => x.1.isSome) && decide ((e :: es).length + ([] : List Keyword).length + (if ([] : List Keyword).isEmpty then 0 else 1) < 30)) = true := by rfl)
    (h3 : (apos.endLine == cpos.line) = true := by rfl) (h4 : starEach (e :: es) X.env = (false, eval e X.env) :: starEach es X.env := by rfl) (h5 : (backTo cpos (starEach es X.env)).any (·.1) = false := by rfl) :
    PE X (.Call (.Attribute o name apos) (e :: es) [] cpos) (tBMF r to t) := by
  refine ⟨fun pins s σ H Q I hw => wpAny_Call_method_late h1 h2 h3 rfl (thn (ho.run pins s σ H _ I hw) fun v s1 hv => ?_)⟩
  obtain ⟨x, H1, J, rx, ⟨p, xs, rfl, ob, dn, hp⟩, q⟩ := hv
  cases rx
  obtain ⟨g, _, its, _, ob', g', hc, _⟩ := J.hok p _ hp
  have eo : ob = ob' := Option.some.inj (g.symm.trans g')
  subst eo
  refine ⟨"tuple", id, pa, slot, hty, ⟨ob, g, hc⟩, fun a ea => ?_, ?_⟩
  · cases ea
    exact ⟨ob, g, dn⟩
  have hA := ha.run cpos pins s1 σ H1 _ J q
  rw [h4] at hA ⊢
  refine Calls.callWith_builtin (by show (false || (backTo cpos (starEach es X.env)).any (·.1)) = false; rw [h5] <;> rfl) (Calls.evalArgs_plain (thn hA fun us s2 hv => ?_))
  obtain ⟨vs, H2, J2, r2, q2⟩ := hv
  exact hm pins s2 σ H2 (.ref p) vs _ us Q J2 rfl r2 q2
/-- a walk over the list or the tuple at a, and what it leans on -/
inductive SeqIt (K : PySem.W.Frag) (a : Addr) : It → (Hp → List V → Prop) → Prop
  | l : SeqIt K a (Itl K a) fun H xs => SqL K H a xs
  | t : SeqIt K a (Itt K a) fun H xs => SqT K H a xs
theorem SeqIt.mono {a : Addr} {J : It} {C : Hp → List V → Prop} (h : SeqIt K a J C) {H H' : Hp} {xs : List V} (m : ∀ o, H a = some o → H' a = some o) (c : C H xs) : C H' xs := by
  cases h with
  | l =>
    rcases c with (c | ⟨o, c⟩) | c
    · exact .inl (.inl (m _ c))
    · exact .inl (.inr ⟨o, m _ c⟩)
    · exact .inr c
  | t =>
    rcases c with (c | ⟨o, c⟩) | c
    · exact .inl (.inl (m _ c))
    · exact .inl (.inr ⟨o, m _ c⟩)
    · exact .inr c
/-- a list or a tuple is walked -/
def iSeq (K : PySem.W.Frag) (tl : TE) : TI := fun σ H R => tl σ H fun x H1 => ∃ a xs, x = .ref a ∧ (SqL K H1 a xs ∨ SqT K H1 a xs) ∧ ∀ J C, SeqIt K a J C → C H1 xs → R J H1
theorem kPiS {tg l : Expr} {tl : TE} (h : X.K = K) (hl : PE X l tl) : PI X tg l (iSeq K tl) := by
  subst h
  refine ⟨fun pins s σ H R I hw => thn (hl.run pins s σ H _ I hw) fun v s1 hv => ?_⟩
  obtain ⟨x, H1, J, rx, a, xs, rfl, hq, q⟩ := hv
  cases rx
  have new : ∀ b ∈ [s1.heap.objs.size], FpOk X pins H1 b := fun b hb => by
    rw [List.mem_singleton.mp hb]
    exact J.fpOk (Nat.le_refl _) (J.hok.fresh (Nat.le_refl _))
  rcases hq with hq | hq
  · obtain ⟨its, _, pl, _⟩ := J.list hq
    exact wpAny_pyIter_list pl.isList ⟨_, _, _, _, H1, rfl, J.kept (t' := s1.toks) fun _ _ z => Heap.get?_push_of_some _ z, turn_list a _, ⟨_, Heap.get?_push_size _ rfl, rfl, rfl⟩, new, q _ _ .l hq⟩
  · obtain ⟨its, _, pt, _⟩ := J.tuple hq
    exact wpAny_pyIter_tuple (show s1.heap.IsTuple a its.toArray from pt) ⟨_, _, _, _, H1, rfl, J.kept (t' := s1.toks) fun _ _ z => Heap.get?_push_of_some _ z, turn_tuple a _, ⟨_, Heap.get?_push_size _ rfl, rfl, rfl⟩, new, q _ _ .t hq⟩
variable {K}
/-- what a comprehension's walk asks, and a loop's -/
def LcEnd (J : It) (g : TG) (tt : TT) (te : TE) (vs : List Nat) (σ : L2.St) (H1 : Hp) (D : Addr) (Qd : Hp → Prop) : Prop :=
  ∃ W : Nat → Nat → Hp → Prop, (∃ m, W 0 m (upd H1 D (.lst []))) ∧
    ∀ i m H, W i m H →
      (J.stop i H ∧ Qd H) ∨
      (J.go i H ∧ ∃ Nx : Hp → Prop, (∀ H', Nx H' → ∃ m', m' < m ∧ W (i + 1) m' H') ∧
        ∀ x H', J.yld i H x H' →
          g x (wipe σ vs) H' fun σ2 H2 => wipe σ2 vs = wipe σ vs ∧
            tt σ2 H2 fun b H3 => if b = true then te σ2 H3 fun y H4 =>
              ∃ acc, H4 D = some (.lst acc) ∧ acc.length < sizeLine ∧ Nx (upd H4 D (.lst (acc ++ [y])))
            else Nx H3)
theorem lc_seq {a : Addr} {J : It} {C : Hp → List V → Prop} {xs : List V} {g : TG} {tt : TT} {te : TE} {vs : List Nat} {σ : L2.St} {H1 : Hp} {D : Addr} {Qd : Hp → Prop} (hJ : SeqIt K a J C) (Pv : Nat → Hp → Prop) (h0 : Pv 0 (upd H1 D (.lst [])))
    (hl : ∀ i H, Pv i H → C H xs)
    (hs : ∀ i x H, xs[i]? = some x → Pv i H → g x (wipe σ vs) H fun σ2 H2 => wipe σ2 vs = wipe σ vs ∧ tt σ2 H2 fun b H3 =>
      if b = true then te σ2 H3 fun y H4 => ∃ acc, H4 D = some (.lst acc) ∧ acc.length < sizeLine ∧ Pv (i + 1) (upd H4 D (.lst (acc ++ [y]))) else Pv (i + 1) H3)
    (hd : ∀ H, Pv xs.length H → Qd H) : LcEnd J g tt te vs σ H1 D Qd := by
  cases hJ with
  | l => exact lc_list (xs := xs) Pv h0 (fun i H _ p => hl i H p) hs hd
  | t => exact lc_tup (xs := xs) Pv h0 (fun i H _ p => hl i H p) hs hd
def ForEnd (J : It) (g : TG) (tb : TS) (D : Ends) (σ : L2.St) (H1 : Hp) : Prop :=
  ∃ W : Nat → Nat → L2.St → Hp → Prop, (∃ m, W 0 m σ H1) ∧
    ∀ i m σ H, W i m σ H →
      (J.stop i H ∧ D.nx σ H) ∨
      (J.go i H ∧ ∃ N : L2.St → Hp → Prop, (∀ σ' H', N σ' H' → ∃ m', m' < m ∧ W (i + 1) m' σ' H') ∧
        ∀ x H', J.yld i H x H' → g x σ H' fun σ2 H2 => tb { D with nx := N, ct := N, bk := D.nx } σ2 H2)
/-- a loop over such a walk -/
theorem for_seq {a : Addr} {J : It} {C : Hp → List V → Prop} {xs : List V} {g : TG} {tb : TS} {D : Ends} {σ : L2.St} {H1 : Hp} (hJ : SeqIt K a J C) (Pv : Nat → L2.St → Hp → Prop) (h0 : Pv 0 σ H1)
    (hl : ∀ i σ H, Pv i σ H → C H xs)
    (hs : ∀ i x σ H, xs[i]? = some x → Pv i σ H → g x σ H fun σ2 H2 => tb { D with nx := Pv (i + 1), ct := Pv (i + 1), bk := D.nx } σ2 H2)
    (hd : ∀ σ H, Pv xs.length σ H → D.nx σ H) : ForEnd J g tb D σ H1 := by
  cases hJ with
  | l => exact for_list (xs := xs) Pv h0 (fun i σ H _ p => hl i σ H p) hs hd
  | t => exact for_tup (xs := xs) Pv h0 (fun i σ H _ p => hl i σ H p) hs hd
variable (K)
/-- (a, b, ..) = a list or a tuple of that length -/
def gSeq (K : PySem.W.Frag) (n : Nat) (t : TGs) : TG := fun v σ H Q => ∃ a xs, v = .ref a ∧ (SqL K H a xs ∨ SqT K H a xs) ∧ xs.length = n ∧ t xs σ H Q
theorem kPgS {tg : Expr} {n : Nat} {t : TGs} (h : X.K = K) (x : PG X tg (gTup X.K n t)) (y : PG X tg (gUnl X.K n t)) : PG X tg (gSeq K n t) := by
  subst h
  refine ⟨fun pins s σ H v u Q I r hw => ?_⟩
  obtain ⟨a, xs, e, hq | hq, hl, hw⟩ := hw
  · exact y.run pins s σ H v u Q I r ⟨a, xs, e, hq, hl, hw⟩
  · exact x.run pins s σ H v u Q I r ⟨a, xs, e, hq, hl, hw⟩
theorem kTupIx (h : X.K = K) : MtR X "tuple.index" (fun x xs H Q => ∃ p, ∃ ns : List Int, ∃ k : Int, x = .ref p ∧ xs = [.int k] ∧ SqT K H p (ns.map V.int) ∧ k ∈ ns ∧ Q (.int (ns.idxOf k : Nat)) H) := by
  subst h
  rintro pins s σ H x xs v us Q I rx rs ⟨p, ns, k, rfl, rfl, hq, hk, q⟩
  cases rx
  obtain ⟨u, rfl, ru⟩ := rs.one
  obtain ⟨t, rfl⟩ := ru
  obtain ⟨its, r, pl, _⟩ := I.tuple hq
  exact SeqAt.tuple_index_ints pl (intsAre_of r) hk ⟨.int _, H, I.tok _, ⟨_, rfl⟩, q⟩
end

/-! ### spaces -/
abbrev Jn := Option (Nat × Trn)
abbrev Blk := List Jn
abbrev Spc := List Blk
def free4 : Blk := [none, none, none, none]
/-- what stands at a face: none where there is no such face -/
def getJ (s : Spc) (b f : Nat) : Option Jn := s[b]?.bind fun l => l[f]?
def setJ (s : Spc) (b f : Nat) (j : Jn) : Spc := s.modify b fun l => l.set f j
def tf (t : Trn) (f : Nat) : Nat := t[f]?.getD 0
def joinJ (s : Spc) (b f n : Nat) (t : Trn) : Spc := setJ (setJ s b f (some (n, t))) n (tf t f) (some (b, back t))
theorem setJ_len (s : Spc) (b f : Nat) (j : Jn) : (setJ s b f j).length = s.length := List.length_modify ..
theorem joinJ_len (s : Spc) (b f n : Nat) (t : Trn) : (joinJ s b f n t).length = s.length := by
  unfold joinJ
  rw [setJ_len, setJ_len]
theorem getJ_set (s : Spc) (b f b' f' : Nat) (j : Jn) : getJ (setJ s b f j) b' f' = if b' = b ∧ f' = f then (getJ s b' f').map fun _ => j else getJ s b' f' := by
  unfold getJ setJ
  rw [List.getElem?_modify]
  cases h : s[b']? with
  | none => simp
  | some l =>
    show ((fun a => if b = b' then List.set a f j else a) l)[f']? = _
    by_cases hb : b = b'
    · subst hb
      show (if b = b then List.set l f j else l)[f']? = if b = b ∧ f' = f then (l[f']?).map fun _ => j else l[f']?
      rw [if_pos rfl, List.getElem?_set]
      by_cases hf : f = f'
      · subst hf
        rw [if_pos (show f = f from rfl), if_pos (show b = b ∧ f = f from ⟨rfl, rfl⟩)]
        by_cases hl : f < l.length
        · rw [if_pos hl, List.getElem?_eq_getElem hl]
          rfl
        · rw [if_neg hl, List.getElem?_eq_none (Nat.le_of_not_lt hl)]
          rfl
      · rw [if_neg hf, if_neg (fun z => hf z.2.symm)]
    · show (if b = b' then List.set l f j else l)[f']? = _
      rw [if_neg hb, if_neg (fun z => hb z.1.symm)]
      rfl
def L4 (s : Spc) : Prop := ∀ b ∈ s, b.length = 4
theorem L4.get {s : Spc} (h : L4 s) {b : Nat} (hb : b < s.length) {f : Nat} (hf : f < 4) : ∃ j, getJ s b f = some j := by
  unfold getJ
  rw [List.getElem?_eq_getElem hb]
  have := h _ (List.getElem_mem hb)
  exact ⟨_, List.getElem?_eq_getElem (by omega)⟩
theorem L4.of {s : Spc} (h : L4 s) {b f : Nat} {j : Jn} (e : getJ s b f = some j) : b < s.length ∧ f < 4 := by
  unfold getJ at e
  cases hs : s[b]? with
  | none =>
    rw [hs] at e
    cases e
  | some l =>
    rw [hs] at e
    have h1 := (List.getElem?_eq_some_iff.mp hs).1
    have h2 := (List.getElem?_eq_some_iff.mp (show l[f]? = some j from e)).1
    exact ⟨h1, by rw [h l (List.mem_of_getElem? hs)] at h2; exact h2⟩
theorem L4.set {s : Spc} (h : L4 s) (b f : Nat) (j : Jn) : L4 (setJ s b f j) := fun l hl => by
  obtain ⟨i, hi⟩ := List.mem_iff_getElem?.mp hl
  unfold setJ at hi
  rw [List.getElem?_modify] at hi
  cases hs : s[i]? with
  | none =>
    rw [hs] at hi
    simp at hi
  | some m =>
    rw [hs] at hi
    have hm := h m (List.mem_of_getElem? hs)
    simp at hi
    rw [← hi]
    split
    · rw [List.length_set]
      exact hm
    · exact hm
theorem L4.join {s : Spc} (h : L4 s) (b f n : Nat) (t : Trn) : L4 (joinJ s b f n t) := (h.set _ _ _).set _ _ _
/-- joinings go both ways -/
def Both (s : Spc) : Prop := ∀ b f n t, getJ s b f = some (some (n, t)) → t ∈ allTurns ∧ (n, tf t f) ≠ (b, f) ∧ getJ s n (tf t f) = some (some (b, back t))
structure Good (s : Spc) : Prop where
  l4 : L4 s
  both : Both s
theorem back_back : ∀ t ∈ allTurns, back (back t) = t := by decide +kernel
theorem tf_back : ∀ t ∈ allTurns, ∀ f < 4, tf (back t) (tf t f) = f := by decide +kernel
theorem tf_lt : ∀ t ∈ allTurns, ∀ f < 4, tf t f < 4 ∧ t[f]? = some (tf t f) := by decide +kernel
theorem back_mem {t : Trn} (h : t ∈ allTurns) : back t ∈ allTurns := (turns4 t h).2.2.1
theorem Good.lt {s : Spc} (h : Good s) {b f n : Nat} {t : Trn} (e : getJ s b f = some (some (n, t))) : n < s.length := (h.l4.of (h.both b f n t e).2.2).1
theorem Good.join {s : Spc} (h : Good s) {b f n : Nat} {t : Trn} (ht : t ∈ allTurns) (h1 : getJ s b f = some none) (h2 : getJ s n (tf t f) = some none) (hne : (n, tf t f) ≠ (b, f)) : Good (joinJ s b f n t) := by
  refine ⟨L4.join h.l4 b f n t, fun b' f' n' t' e => ?_⟩
  have hf := (h.l4.of h1).2
  have G : ∀ x y, getJ (joinJ s b f n t) x y = if x = n ∧ y = tf t f then some (some (b, back t)) else if x = b ∧ y = f then some (some (n, t)) else getJ s x y := fun x y => by
    unfold joinJ
    rw [getJ_set, getJ_set]
    by_cases c1 : x = n ∧ y = tf t f
    · rw [if_pos c1, if_pos c1, c1.1, c1.2]
      rw [if_neg (fun z => hne (Prod.ext z.1 z.2)), h2]
      rfl
    · rw [if_neg c1, if_neg c1]
      by_cases c2 : x = b ∧ y = f
      · rw [if_pos c2, if_pos c2, c2.1, c2.2, h1]
        rfl
      · rw [if_neg c2, if_neg c2]
  rw [G] at e ⊢
  by_cases c1 : b' = n ∧ f' = tf t f
  · rw [if_pos c1] at e
    obtain ⟨rfl, rfl⟩ := c1
    cases e
    refine ⟨back_mem ht, ?_, ?_⟩
    · rw [tf_back t ht f hf]
      exact fun z => hne z.symm
    · rw [tf_back t ht f hf, if_neg (fun z => hne (Prod.ext z.1.symm z.2.symm)), if_pos ⟨rfl, rfl⟩, back_back t ht]
  · rw [if_neg c1] at e
    by_cases c2 : b' = b ∧ f' = f
    · rw [if_pos c2] at e
      obtain ⟨rfl, rfl⟩ := c2
      cases e
      refine ⟨ht, hne, ?_⟩
      rw [if_pos ⟨rfl, rfl⟩]
    · rw [if_neg c2] at e
      obtain ⟨q1, q2, q3⟩ := h.both _ _ _ _ e
      refine ⟨q1, q2, ?_⟩
      rw [if_neg, if_neg]
      · exact q3
      · rintro ⟨rfl, hz⟩
        rw [hz, h1] at q3
        cases q3
      · rintro ⟨rfl, hz⟩
        rw [hz, h2] at q3
        cases q3
theorem getJ_join {s : Spc} {b f n : Nat} {t : Trn} {x y : Nat} (n1 : ¬ (x = b ∧ y = f)) (n2 : ¬ (x = n ∧ y = tf t f)) : getJ (joinJ s b f n t) x y = getJ s x y := by
  unfold joinJ
  rw [getJ_set, if_neg n2, getJ_set, if_neg n1]

/-! ### spaces as they stand -/
def JAt (H : Hp) (v : V) : Jn → Prop
  | none => v = .non
  | some (n, t) => ∃ p q, v = .ref p ∧ FT H p [intV n, .ref q] ∧ FT H q (trnV t)
theorem JAt.mono {H H' : Hp} {v : V} {j : Jn} (h : JAt H v j) (m : Tups H H') : JAt H' v j := by
  cases j with
  | none => exact h
  | some k =>
    obtain ⟨p, q, e, h1, h2⟩ := h
    exact ⟨p, q, e, h1.mono m, h2.mono m⟩
theorem JAt.kind {H : Hp} {v : V} {j : Jn} (h : JAt H v j) : v = .non ∨ ∃ p xs, v = .ref p ∧ FT H p xs := by
  cases j with
  | none => exact .inl h
  | some k =>
    obtain ⟨p, q, e, h1, h2⟩ := h
    exact .inr ⟨p, _, e, h1⟩
def BAt (H : Hp) (v : V) (b : Blk) : Prop := ∃ p vs, v = .ref p ∧ H p = some (.lst vs) ∧ Paired (JAt H) vs b
theorem BAt.mono {H H' : Hp} {v : V} {b : Blk} (h : BAt H v b) (m : Tups H H') (k : ∀ p xs, v = .ref p → H p = some (.lst xs) → H' p = some (.lst xs)) : BAt H' v b := by
  obtain ⟨p, vs, e, h1, h2⟩ := h
  exact ⟨p, vs, e, k p vs e h1, pmono h2 fun _ _ x => x.mono m⟩
structure SpAt (H : Hp) (l : Addr) (rs : List V) (s : Spc) : Prop where
  l : H l = some (.lst rs)
  b : Paired (BAt H) rs s
  nd : rs.Nodup
theorem notReel_blk {H : Hp} {vs : List V} {b : Blk} (h : Paired (JAt H) vs b) (hb : b ≠ []) : NotReel vs := by
  have hv : ∀ v ∈ vs, ∀ i : Int, v ≠ .int i := fun v hv i e => by
    obtain ⟨k, hk⟩ := List.mem_iff_getElem?.mp hv
    obtain ⟨j, _, hj⟩ := pget' h hk
    rcases hj.kind with z | ⟨p, xs, z, _⟩
    · rw [e] at z
      cases z
    · rw [e] at z
      cases z
  cases h with
  | nil => exact absurd rfl hb
  | cons a t => exact ⟨_, _, rfl, hv _ List.mem_cons_self, hv⟩
theorem notReel_refs {ps : List V} (hne : ps ≠ []) (h : ∀ v ∈ ps, ∃ p, v = .ref p) : NotReel ps := by
  have hv : ∀ v ∈ ps, ∀ i : Int, v ≠ .int i := fun v hv i e => by
    obtain ⟨p, z⟩ := h v hv
    rw [e] at z
    cases z
  cases ps with
  | nil => exact absurd rfl hne
  | cons a t => exact ⟨_, _, rfl, hv _ List.mem_cons_self, hv⟩
theorem bat_ref {H : Hp} {rs : List V} {s : Spc} (h : Paired (BAt H) rs s) : ∀ v ∈ rs, ∃ p, v = .ref p := fun v hv => by
  obtain ⟨k, hk⟩ := List.mem_iff_getElem?.mp hv
  obtain ⟨b, _, p, vs, e, _⟩ := pget' h hk
  exact ⟨p, e⟩
/-- what changes are inner lists of rs alone -/
def KeepB (rs : List V) (H H' : Hp) : Prop := ∀ b o, H b = some o → V.ref b ∉ rs → H' b = some o
theorem KeepB.trans {rs : List V} {H H1 H2 : Hp} (a : KeepB rs H H1) (b : KeepB rs H1 H2) : KeepB rs H H2 := fun c o h n => b c o (a c o h n) n
theorem KeepB.of {rs : List V} {H H' : Hp} (a : Same H H') : KeepB rs H H' := fun c o h _ => a c o h
theorem KeepB.tups {rs : List V} {H H' : Hp} {s : Spc} (k : KeepB rs H H') (h : Paired (BAt H) rs s) : Tups H H' := fun b o xs e => k b _ e fun z => by
  obtain ⟨i, hi⟩ := List.mem_iff_getElem?.mp z
  obtain ⟨y, _, p, vs, e1, e2, _⟩ := pget' h hi
  injection e1 with e1
  rw [e1, e2] at e
  cases e
/-- the outer list is none of its inner ones -/
theorem SpAt.out {H : Hp} {l : Addr} {rs : List V} {s : Spc} (h : SpAt H l rs s) : V.ref l ∉ rs := fun z => by
  obtain ⟨i, hi⟩ := List.mem_iff_getElem?.mp z
  obtain ⟨y, _, p, vs, e1, e2, e3⟩ := pget' h.b hi
  injection e1 with e1
  subst e1
  have q := lst_inj e2 h.l
  subst q
  obtain ⟨j, _, hj⟩ := pget' e3 hi
  rcases hj.kind with z | ⟨p, xs, z, hp⟩
  · cases z
  · injection z with z
    subst z
    exact hp.ne e2 rfl
theorem ReelOk.keepB {R : Addr} {rs : List V} {H H' : Hp} {s : Spc} (h : ReelOk R H) (k : KeepB rs H H') (hb : Paired (BAt H) rs s) (h4 : L4 s) : ReelOk R H' ∧ V.ref R ∉ rs := by
  obtain ⟨g, c, gs, cs, m, st, r⟩ := h
  have no : ∀ {a : Addr} {xs : List V}, H a = some (.lst xs) → (∀ x l, xs = x :: l → ∃ v ∈ xs, ∃ i : Int, v = .int i) → V.ref a ∉ rs := fun {a xs} ha hx z => by
    obtain ⟨i, hi⟩ := List.mem_iff_getElem?.mp z
    obtain ⟨y, hy, p, vs, e1, e2, e3⟩ := pget' hb hi
    injection e1 with e1
    subst e1
    have q := lst_inj ha e2
    subst q
    obtain ⟨x, l, e, _, hv⟩ := notReel_blk e3 (by
      intro z
      have := h4 y (List.mem_of_getElem? hy)
      rw [z] at this
      cases this)
    obtain ⟨v, hv1, j, hj⟩ := hx x l e
    exact hv v hv1 j hj
  have nI : ∀ {a : Addr} {ns : List Int}, H a = some (.lst (ns.map V.int)) → V.ref a ∉ rs := fun {a ns} ha => no ha fun x l e => by
    cases ns with
    | nil => cases e
    | cons n t => exact ⟨_, List.mem_cons_self, n, rfl⟩
  have nR := no r.r fun _ _ _ => ⟨.int m, by simp, m, rfl⟩
  exact ⟨⟨g, c, gs, cs, m, st, ⟨k _ _ r.r nR, k _ _ r.g (nI r.g), k _ _ r.c (nI r.c), r.gl, r.cl, r.g0, r.c0, r.ne, r.s0, r.s1⟩⟩, nR⟩

/-- the inner lists have come since H -/
def Fresh (H : Hp) (rs : List V) : Prop := ∀ p, V.ref p ∈ rs → H p = none
theorem Keep.inner {R : Addr} {rs : List V} {H H1 H2 : Hp} (k : Keep R H H1) (b : KeepB rs H1 H2) (f : Fresh H rs) : Keep R H H2 := fun c o h n => b c o (k c o h n) fun z => by
  rw [f c z] at h
  cases h
theorem _root_.L2.Same.inner {rs : List V} {H H1 H2 : Hp} (k : Same H H1) (b : KeepB rs H1 H2) (f : Fresh H rs) : Same H H2 := fun c o h => b c o (k c o h) fun z => by
  rw [f c z] at h
  cases h
def FcAt (H : Hp) (v : V) (x : Nat × Nat) : Prop := ∃ p, v = .ref p ∧ FT H p [intV x.1, intV x.2]
theorem FcAt.mono {H H' : Hp} {v : V} {x : Nat × Nat} (h : FcAt H v x) (m : Tups H H') : FcAt H' v x := by
  obtain ⟨p, e, h⟩ := h
  exact ⟨p, e, h.mono m⟩
def facesTo (n : Nat) : List (Nat × Nat) := (List.range n).map fun k => (k / 4, k % 4)
theorem facesTo_succ (n : Nat) : facesTo (n + 1) = facesTo n ++ [(n / 4, n % 4)] := by
  unfold facesTo
  rw [List.range_succ, List.map_append]
  rfl
theorem facesTo_nd (n : Nat) : (facesTo n).Nodup := by
  unfold facesTo
  refine List.Pairwise.map _ (fun a b h => ?_) (List.nodup_range (n := n))
  intro e
  injection e with e1 e2
  exact h (by omega)
theorem facesTo_mem {n : Nat} {x : Nat × Nat} (h : x ∈ facesTo (4 * n)) : x.1 < n ∧ x.2 < 4 := by
  unfold facesTo at h
  rw [List.mem_map] at h
  obtain ⟨k, hk, rfl⟩ := h
  rw [List.mem_range] at hk
  show k / 4 < n ∧ k % 4 < 4
  omega
theorem pperm_erase {α : Type} {l : List α} {i : Nat} {x : α} (h : l[i]? = some x) : (x :: l.eraseIdx i).Perm l := by
  induction l generalizing i with
  | nil => simp at h
  | cons y r ih =>
    cases i with
    | zero =>
      have e : y = x := by simpa using h
      subst e
      exact .refl _
    | succ i => exact (List.Perm.swap y x _).trans ((ih (by simpa using h)).cons y)
theorem perase {α β : Type} {F : α → β → Prop} : ∀ {xs : List α} {ys : List β} (i : Nat), Paired F xs ys → Paired F (xs.eraseIdx i) (ys.eraseIdx i)
  | _, _, _, .nil => .nil
  | _, _, 0, .cons _ t => t
  | _, _, i + 1, .cons r t => .cons r (perase i t)
def freeS (n : Nat) : Spc := List.replicate n free4
theorem freeS_get {n b f : Nat} {j : Jn} (h : getJ (freeS n) b f = some j) : j = none := by
  unfold getJ freeS at h
  cases e : (List.replicate n free4)[b]? with
  | none =>
    rw [e] at h
    cases h
  | some l =>
    rw [e] at h
    have el := List.eq_of_mem_replicate (List.mem_of_getElem? e)
    subst el
    have hm := List.mem_of_getElem? (show free4[f]? = some j from h)
    simpa [free4] using hm
theorem freeS_good (n : Nat) : Good (freeS n) := ⟨fun b hb => by rw [List.eq_of_mem_replicate hb]; rfl, fun b f m t e => by
  have := freeS_get e
  cases this⟩
theorem pmonoM {α β : Type} {F G : α → β → Prop} : ∀ {xs : List α} {ys : List β}, Paired F xs ys → (∀ a ∈ xs, ∀ b, F a b → G a b) → Paired G xs ys
  | _, _, .nil, _ => .nil
  | _, _, .cons r t, m => .cons (m _ List.mem_cons_self _ r) (pmonoM t fun a ha => m a (List.mem_cons_of_mem _ ha))
theorem SpAt.fresh {H : Hp} {l p : Addr} {rs : List V} {s : Spc} (h : SpAt H l rs s) (n : H p = none) : V.ref p ∉ rs := fun z => by
  obtain ⟨i, hi⟩ := List.mem_iff_getElem?.mp z
  obtain ⟨y, _, p', vs, e1, e2, _⟩ := pget' h.b hi
  injection e1 with e1
  rw [← e1, n] at e2
  cases e2
theorem SpAt.push {H1 H2 : Hp} {D p : Addr} {rs : List V} {S : Spc} {b : Blk} (h : SpAt H1 D rs S) (s : Same H1 H2) (n : H1 p = none) (hb : BAt H2 (.ref p) b) :
    SpAt (upd H2 D (.lst (rs ++ [.ref p]))) D (rs ++ [.ref p]) (S ++ [b]) := by
  have hD := s _ _ h.l
  have out := h.out
  refine ⟨upd_same, papp (pmonoM h.b fun v hv b z => z.mono (s.tups.trans (tups_set hD)) fun q xs e1 e2 => ?_) (.cons (hb.mono (tups_set hD) fun q xs e1 e2 => ?_) .nil), ?_⟩
  · rw [upd_ne (show q ≠ D from fun z => out (by rw [← z, ← e1]; exact hv))]
    exact s _ _ e2
  · injection e1 with e1
    subst e1
    rw [upd_ne (show p ≠ D from fun z => by rw [z, h.l] at n; cases n)]
    exact e2
  · rw [List.nodup_append]
    refine ⟨h.nd, by simp, fun a ha c hc e => ?_⟩
    rw [List.mem_singleton.mp hc] at e
    rw [e] at ha
    exact h.fresh n ha
theorem Fresh.push {H H1 : Hp} {rs : List V} {p : Addr} (h : Fresh H rs) (s : ∀ o, H p = some o → H1 p = some o) (n : H1 p = none) : Fresh H (rs ++ [.ref p]) := fun q z => by
  rcases List.mem_append.mp z with z | z
  · exact h q z
  · have e := List.mem_singleton.mp z
    injection e with e
    subst e
    cases hq : H q with
    | none => rfl
    | some o =>
      rw [s o hq] at n
      cases n
theorem fdiv_nat (a b : Nat) : (a : Int).fdiv (b : Int) = ((a / b : Nat) : Int) := by
  rw [Int.fdiv_eq_ediv_of_nonneg _ (by omega)]
  rfl
theorem fmod_nat (a b : Nat) : (a : Int).fmod (b : Int) = ((a % b : Nat) : Int) := by
  rw [Int.fmod_eq_emod_of_nonneg _ (by omega)]
  rfl
theorem seqIx_nat {n k : Nat} (h : k < n) : seqIndex? (k : Int) n = some k := by
  show (if (decide ((0 : Int) ≤ if (k : Int) < 0 then (k : Int) + n else k) && decide ((if (k : Int) < 0 then (k : Int) + n else k) < n)) = true then some (if (k : Int) < 0 then (k : Int) + n else k).toNat else none) = some k
  rw [if_neg (show ¬ (k : Int) < 0 by omega), decide_eq_true (show (0 : Int) ≤ k by omega), decide_eq_true (show (k : Int) < n by omega)]
  rfl
/-- a store into another list -/
theorem SpAt.other {H : Hp} {l p : Addr} {rs : List V} {s : Spc} {xs : List V} {o : HO} (h : SpAt H l rs s) (hp : H p = some (.lst xs)) (n1 : p ≠ l) (n2 : V.ref p ∉ rs) : SpAt (upd H p o) l rs s :=
  ⟨by rw [upd_ne n1.symm]; exact h.l, pmonoM h.b fun v hv b z => z.mono (tups_set hp) fun q xs e1 e2 => by
    rw [upd_ne (show q ≠ p from fun z => n2 (by rw [← z, ← e1]; exact hv))]
    exact e2, h.nd⟩
theorem refs_no_int {F : Hp → V → (Nat × Nat) → Prop} {H : Hp} {xs : List V} {fs : List (Nat × Nat)} (h : Paired (F H) xs fs) (hF : ∀ v x, F H v x → ∃ p, v = .ref p) : ∀ v ∈ xs, ∃ p, v = .ref p := fun v hv => by
  obtain ⟨k, hk⟩ := List.mem_iff_getElem?.mp hv
  obtain ⟨y, _, hy⟩ := pget' h hk
  exact hF v y hy
theorem fc_refs {H : Hp} {xs : List V} {fs : List (Nat × Nat)} (h : Paired (FcAt H) xs fs) : ∀ v ∈ xs, ∃ p, v = .ref p := refs_no_int (F := FcAt) h fun v x z => by
  obtain ⟨p, e, _⟩ := z
  exact ⟨p, e⟩
theorem no_int {xs : List V} (h : ∀ v ∈ xs, ∃ p, v = .ref p) : ∀ v ∈ xs, ∀ i : Int, v ≠ .int i := fun v hv i e => by
  obtain ⟨p, z⟩ := h v hv
  rw [e] at z
  cases z
theorem turns_face6 : ∀ f < 4, ∀ a < 4, (allTurns.filter fun t => tf t f == a).length = 6 := by decide +kernel
theorem filter_take_succ {α : Type} {l : List α} {i : Nat} {x : α} {p : α → Bool} (h : l[i]? = some x) : (l.take (i + 1)).filter p = (l.take i).filter p ++ (if p x then [x] else []) := by
  rw [List.take_add_one, h, List.filter_append]
  by_cases hp : p x
  · rw [if_pos hp]
    simp [hp]
  · rw [if_neg hp]
    simp [hp]
theorem tat_refs {H : Hp} {xs : List V} {ts : List Trn} (h : Paired (TAt H) xs ts) : ∀ v ∈ xs, ∃ p, v = .ref p := fun v hv => by
  obtain ⟨k, hk⟩ := List.mem_iff_getElem?.mp hv
  obtain ⟨y, _, p, e, _⟩ := pget' h hk
  exact ⟨p, e⟩
theorem dec_nat (a b : Nat) : decide ((intV a) = (intV b)) = (a == b) := by
  by_cases h : a = b
  · subst h
    simp
  · rw [beq_eq_false_iff_ne.mpr h]
    exact decide_eq_false (fun z => h (by injection z with z; omega))
theorem nodup_ne {α : Type} {l : List α} (h : l.Nodup) {i j : Nat} {x y : α} (hi : l[i]? = some x) (hj : l[j]? = some y) (n : i ≠ j) : x ≠ y := fun e => by
  subst e
  exact n (nd_ix h hi hj)
theorem ReelOk.isNot {R p : Addr} {H H' : Hp} {o : HO} (_ : ReelOk R H) (_ : H p = some o) (n : H' p = none) (h' : ReelOk R H') : p ≠ R := fun z => by
  obtain ⟨g, c, gs, cs, m, st, r⟩ := h'
  rw [z, r.r] at n
  cases n
/-- what was none of the reel's lists is none -/
def Aw (R : Addr) (H H' : Hp) : Prop := ∀ D, H D ≠ none → Away R D H → Away R D H'
theorem _root_.L2.Same.aw {R : Addr} {H H' : Hp} (s : Same H H') : Aw R H H' := fun _ _ z => z.same s
theorem Aw.trans {R : Addr} {H H1 H2 : Hp} (a : Aw R H H1) (k : Keep R H H1) (b : Aw R H1 H2) : Aw R H H2 := fun D n z => b D (fun y => n (k.free y z.ne)) (a D n z)
theorem Aw.set {R p : Addr} {H : Hp} {xs : List V} {o : HO} (hp : H p = some (.lst xs)) (n : NotReel xs) : Aw R H (upd H p o) := fun _ _ z => (z.set hp n).1
theorem Aw.fill {R L : Addr} {H : Hp} {o : HO} (a : Away R L H) : Aw R H (upd H L o) := fun _ _ z => z.fill' a
theorem Aw.keepB {R : Addr} {rs : List V} {H H' : Hp} {s : Spc} (k : KeepB rs H H') (hb : Paired (BAt H) rs s) (h4 : L4 s) : Aw R H H' := fun D _ z => by
  obtain ⟨g, c, gs, cs, m, st, r, q⟩ := z
  have no : ∀ {a : Addr} {xs : List V}, H a = some (.lst xs) → (∀ x l, xs = x :: l → ∃ v ∈ xs, ∃ i : Int, v = .int i) → V.ref a ∉ rs := fun {a xs} ha hx z => by
    obtain ⟨i, hi⟩ := List.mem_iff_getElem?.mp z
    obtain ⟨y, hy, p, vs, e1, e2, e3⟩ := pget' hb hi
    injection e1 with e1
    subst e1
    have q := lst_inj ha e2
    subst q
    obtain ⟨x, l, e, _, hv⟩ := notReel_blk e3 (by
      intro z
      have := h4 y (List.mem_of_getElem? hy)
      rw [z] at this
      cases this)
    obtain ⟨v, hv1, j, hj⟩ := hx x l e
    exact hv v hv1 j hj
  have nI : ∀ {a : Addr} {ns : List Int}, H a = some (.lst (ns.map V.int)) → V.ref a ∉ rs := fun {a ns} ha => no ha fun x l e => by
    cases ns with
    | nil => cases e
    | cons n t => exact ⟨_, List.mem_cons_self, n, rfl⟩
  have nR := no r.r fun _ _ _ => ⟨.int m, by simp, m, rfl⟩
  exact ⟨g, c, gs, cs, m, st, ⟨k _ _ r.r nR, k _ _ r.g (nI r.g), k _ _ r.c (nI r.c), r.gl, r.cl, r.g0, r.c0, r.ne, r.s0, r.s1⟩, q⟩
end Bk

/-! An error that a try keeps as a value: try: .. except X as e: caught = e; and isinstance of it behind the try. -/
namespace Bk
open PySem PySem.Spec PyProof.Rows L2
/-- an error that was caught, held as a value: its class and its own dict -/
def CaO (cls : Value) (d : Option Addr) (a : Addr) : HO := .ext fun h => ∃ (ob : Obj) (fs : Array Value), h.get? a = some ob ∧ Zc cls d ob ∧ ob.data = .fields fs
theorem caO_ok {P : Program} {w : World} {H : Hp} {h : Heap} {a : Addr} {cls : Value} {d : Option Addr} {ob : Obj} {fs : Array Value} (e : h.get? a = some ob) (z : Zc cls d ob) (q : ob.data = .fields fs) : ObjOk P w H h a (CaO cls d a) :=
  ⟨⟨ob, fs, e, z, q⟩, ⟨ob, e⟩, fun _ _ ⟨u, v, k, r⟩ m => ⟨u, v, m u k, r⟩⟩
section
variable {X : Cx} {pins : List (Addr × Obj)} {σ : L2.St} {H : Hp} {s0 s : Shared} {B : Heap}
theorem landedX (I : Inv X pins σ H s0) (nb : ∀ b o, s0.heap.get? b = some o → b ∉ frs X.stack → B.get? b = some o) (stays : B.StaysIn s.heap) (slots : s0.heap.UpToSlots s.heap) (eo : s.os = s0.os) (bare : AllBare s.gens)
    {a : Addr} {cls : Value} {d : Option Addr} {ob : Obj} {fs : Array Value} (ha : s.heap.get? a = some ob) (hz : Zc cls d ob) (hd : ob.data = .fields fs) (fresh : s0.heap.get? a = none) (na : H a = none) : Inv X pins σ (upd H a (CaO cls d a)) s := by
  have other : ∀ b o, s0.heap.get? b = some o → b ≠ a := fun b o e z => by
    rw [z, fresh] at e
    cases e
  have frm : ∀ b o, b ∈ frs X.stack → s0.heap.get? b = some o → ∃ sl, s.heap.get? b = some { o with slots := sl } := fun b o hb e => by
    obtain ⟨_, o2, e2, nofields⟩ := I.stack.mem hb
    obtain rfl : o = o2 := Option.some.inj (e.symm.trans e2)
    exact slots b o e nofields
  have still : ∀ b o, b ∉ frs X.stack → s0.heap.get? b = some o → s.heap.get? b = some o := fun b o hb e => stays b o (nb b o e hb)
  have old : HOk X.prog X.w H s.heap := (I.inGround nb).kept stays
  have up : ∀ {b : Addr} {u : HO}, H b = some u → (upd H a (CaO cls d a)) b = some u := fun {b u} e => by
    rw [upd_ne (ne_of_none e na)]
    exact e
  refine I.call' (ch := []) eo ⟨fun b o e _ hb _ => still b o hb e, fun b o e _ hb _ => frm b o hb e, fun b o e n _ => ?_, fun b o e _ => ?_, fun b xs e => up e, fun b o u e => up e, fun b ps e => ⟨#[], by rw [up e]; simp⟩⟩ (fun b u e => ?_) bare (fun _ z => nomatch z)
  · rw [upd_ne (other b o e)]
    exact n
  · by_cases hb : b ∈ frs X.stack
    · obtain ⟨sl, e2⟩ := frm b o hb e
      exact ⟨_, e2⟩
    · exact ⟨o, still b o hb e⟩
  · by_cases hb : b = a
    · subst hb
      rw [upd_same] at e
      cases e
      exact caO_ok ha hz hd
    · rw [upd_ne hb] at e
      exact (old b u e).stay (fun _ _ _ q => q) (fun _ q => up q) fun _ _ q => up q
theorem suiteX (I : Inv X pins σ H s) (a : Addr) : Inv (X.suite a (X.pn ++ pins)) [] σ H s :=
  ⟨I.ok.suite _ _, I.os, I.bare, I.base, I.loc, I.cell, I.free, I.freeC, fun p hp => I.pin p ((List.append_nil _).subst (motive := fun l => p ∈ l) hp), I.hok, I.len⟩
theorem unsuiteX {a : Addr} {pn : List (Addr × Obj)} (I : Inv (X.suite a (X.pn ++ pins)) pn σ H s) (ok : X.Ok) : Inv X pins σ H s :=
  ⟨ok, I.os, I.bare, I.base, I.loc, I.cell, I.free, I.freeC, fun p hp => I.pin p (List.mem_append.mpr (.inl hp)), I.hok, I.len⟩
end
/-- what the clause «except x as n: m = n» wishes of an error of the body: it is of x, and goes on with it in m's slot -/
def wKeep (K : PySem.W.Frag) (c : Value) (i j : Nat) (D : Ends) : WX := fun cls d σ H =>
  PySem.W.exmOne K cls c = some true ∧ ∀ a, H a = none → D.nx (((σ.set i (some (.ref a))).set j (some (.ref a))).set i none) (upd H a (CaO cls d a))
section
variable {X : Cx} {x n m : Str} {c : Value} {i j : Nat} {body : List Stmt} {np p1 p2 p3 pos pos' : Pos} {tb : WX → TS}
theorem ps_try_keep (hs : X.stack = X.env :: X.outer) (hf : X.env.frame = some X.env.locals) (hN : X.N.Nodup) (hi : X.N[i]? = some n) (hj : X.N[j]? = some m) (hij : i ≠ j) (hln : X.env.kindOf n = some .local) (hlm : X.env.scope.names.lookup m = some .local)
    (hvn : Vis X.env.scope n) (hsw : swapsWith (.Name n p2) (some (.Name m p1)) p3.line X.env = pure false) (hc : Names X x c) (hlen : ∀ {pins : List (Addr × Obj)} {σ : L2.St} {H : Hp} {s : Shared}, Inv X pins σ H s → i < σ.length) (hd1 : (n == ("__debug__" : Str)) = false) (hd2 : (n == ("__classdict__" : Str)) = false)
    (hb : ∀ (W : WX) (pn : List (Addr × Obj)) (xe : Value → Shared → Prop), Takes (X.tr pn xe) W → PassesOwn (model X.prog X.w) X.A X.env xe → PSs (X.tr pn xe) body (tb W)) :
    PS X (.Try body [.ExceptHandler (some (.Name x np)) (some n) [.Assign [.Name m p1] (.Name n p2) p3] pos'] [] [] pos) (fun D σ H => tb (wKeep X.K c i j D) D σ H) := by
  refine ⟨fun pins s σ H D I h => ?_⟩
  have ok := I.ok
  have frames : X.A.frames = some (X.env :: X.outer) := ok.frames.trans (congrArg some hs)
  let caught := [ExceptHandler.ExceptHandler (some (.Name x np)) (some n) [.Assign [.Name m p1] (.Name n p2) p3] pos']
  refine wpAny_Try_except ?_
  refine wpAny_mono ((hb (wKeep X.K c i j D) (X.pn ++ pins) (fun e s1 => wpAny (model X.prog X.w) X.A (noteFrame e X.env) (fun _ s2 => wpAny (model X.prog X.w) X.A (setFlight e none) (fun _ s3 =>
    wpAny (model X.prog X.w) X.A (handleBy e X.env caught) (SP X pins D) X.xe s3) X.xe s2) X.xe s1) (fun u s' thrown => ?_) PassesOwn.looking).run [] s σ H D (I.toTry _) h) (fun f s1 done => ?_) (fun _ _ z => z)
  · obtain ⟨a, B, s0, pn0, σ0, H0, cls, d, rfl, J0, nb, slots, sky, na, eo, bare, hx, goes⟩ := thrown
    have J : Inv X pins σ0 H0 s0 := J0.ofTry ok
    show wpAny (model X.prog X.w) X.A (noteFrame (.ref a) X.env) _ _ _
    refine Sky.land Zc.steady frames hf (hs ▸ (show Sky B X.stack a (Zc cls d) X.env.locals s'.heap from sky)) fun h3 fly3 slots3 => ?_
    obtain ⟨o3, v3, e3, z3, d3⟩ := fly3.there
    have notStack : a ∉ frs (X.env :: X.outer) := fun hm => by
      obtain ⟨_, o, e, nofields⟩ := fly3.2.2.1.mem hm
      obtain rfl : o3 = o := Option.some.inj (e3.symm.trans e)
      exact nofields v3 d3
    have fresh : s0.heap.get? a = none := by
      cases e : s0.heap.get? a with
      | none => rfl
      | some o =>
        have := nb a o e (by rw [hs]; exact notStack)
        rw [fly3.2.1] at this
        cases this
    have J3 : Inv X pins σ0 (upd H0 a (CaO cls d a)) { s' with heap := h3 } := landedX (s := { s' with heap := h3 }) J nb fly3.1 (slots.trans slots3) eo bare e3 z3 d3 fresh na
    refine wpAny_handleBy_cons (codeAny_handlers_test ?_) nofun
    have isOf : PySem.W.Looks (model X.prog X.w) h3 (typeOf (.ref a)) cls := fun A Q E s k q => wpAny_typeOf_ref (k _ _ e3) (z3.1 ▸ q)
    have meets := PySem.W.exm_one (M := model X.prog X.w) J3.kIn isOf hx
    have named : ∀ {Q : Value → Shared → Prop} {E : Value → Shared → Prop}, Q c { s' with heap := h3 } → wpAny (model X.prog X.w) (X.A.mark (some (.ref a))) (eval (.Name x np) X.env) Q E { s' with heap := h3 } := fun {Q E} q => by
      obtain ⟨glob, nodebug, known | ⟨none, boot, notName⟩⟩ := hc
      · exact ld_glob (X := X.suite a (X.pn ++ pins)) (suiteX J3 a) glob known q nodebug
      · exact ld_blt (X := X.suite a (X.pn ++ pins)) (suiteX J3 a) glob none boot q notName nodebug
    refine named (meets.here ?_)
    refine codeAny_handlers_suite_as ?_
    refine HandSPX.lands_againZ fly3 fun h4 fly4 slots4 => ?_
    obtain ⟨o4, v4, e4, z4, d4⟩ := fly4.there
    have J4 : Inv X pins σ0 (upd H0 a (CaO cls d a)) { s' with heap := h4 } := landedX (s := { s' with heap := h4 }) J nb fly4.1 ((slots.trans slots3).trans slots4) eo bare e4 z4 d4 fresh na
    have long := hlen J4
    refine store_ok (X := X.suite a (X.pn ++ pins)) (v := .ref a) (suiteX J4 a) hN hi (.inl hln) rfl (fun s5 S5 => ?_) (.inr hln)
    have run := (pss_one (ps_set (X := X.suite a (X.pn ++ pins)) (i := j) (pos := p3) hN hj (.inl hlm) (pe_var (X := X.suite a (X.pn ++ pins)) (i := i) (pos := p2) hi hvn (hd := hd1) (hcd := hd2)) hsw (.inr hlm))).run [] s5 _ _
      { nx := fun σ1 H1 => σ1 = ((σ0.set i (some (.ref a))).set j (some (.ref a))) ∧ H1 = upd H0 a (CaO cls d a), rt := fun _ _ => False, bk := fun _ _ => False, ct := fun _ _ => False } S5 ⟨.ref a, List.getElem?_set_self long, rfl, rfl⟩
    refine wpAny_mono run (fun f s6 done => ?_) (fun _ _ z => False.elim z)
    cases f with
    | next =>
      obtain ⟨σ6, H6, S6, rfl, rfl⟩ := done
      exact gone_ok (unsuiteX S6 ok) hN hi hln fun s7 J7 => ⟨_, _, J7, goes a na⟩
    | brk =>
      obtain ⟨_, _, _, z⟩ := done
      exact z.elim
    | cont =>
      obtain ⟨_, _, _, z⟩ := done
      exact z.elim
    | ret u =>
      obtain ⟨_, _, _, _, _, z⟩ := done
      exact z.elim
  · cases f with
    | next =>
      obtain ⟨σ1, H1, J1, q⟩ := done
      exact wpAny_execs_nil ⟨σ1, H1, Inv.ofTry J1 ok, q⟩
    | brk =>
      obtain ⟨σ1, H1, J1, q⟩ := done
      exact ⟨σ1, H1, Inv.ofTry J1 ok, q⟩
    | cont =>
      obtain ⟨σ1, H1, J1, q⟩ := done
      exact ⟨σ1, H1, Inv.ofTry J1 ok, q⟩
    | ret u =>
      obtain ⟨v1, σ1, H1, J1, r, q⟩ := done
      exact ⟨v1, σ1, H1, Inv.ofTry J1 ok, r, q⟩
end
end Bk

namespace Bk
open PySem PySem.Spec PyProof.Rows L2
theorem cpow {i j : Int} (a : 0 ≤ j := by decide) (b : j ≤ 1000000 := by decide) (c : i.natAbs < 2 ^ 64 := by decide) : CPow i j := ⟨a, b, c⟩
theorem wideM : CMulW ((2 : Int) ^ (64 : Int).toNat) ((2 : Int) ^ (63 : Int).toNat) := wide_mul (a := 65) (b := 64) (by decide +kernel) (by decide +kernel) (by decide) (by decide) (by decide)
theorem M0 : (0 : Int) < 2 ^ (64 : Int).toNat * 2 ^ (63 : Int).toNat - 1 := by decide +kernel
local macro_rules | `(tactic| walk_at "g") => `(tactic| (repeat first | refine ⟨_, rfl, ?_⟩ | refine ⟨cpow, ?_⟩ | refine ⟨wideM, ?_⟩ | refine ⟨_, _, rfl, rfl, ?_⟩ | refine ⟨rfl, ?_⟩))
def topS (i : Nat) : Stmt := PySem.Challenge.pw_blockrooms_k85_whole_a_long_day_undone.main.body.getD i (.Pass ⟨0, 0, 0, 0⟩)
section
variable {P : Program} {w : World} {K : PySem.W.Frag} {mg : Str → Option Value} {base : Heap}
/-! ### _law_reel -/
theorem natAbs_M {x : Int} (h0 : 0 ≤ x) (h1 : x < 2 ^ (64 : Int).toNat * 2 ^ (63 : Int).toNat - 1) : x.natAbs < 2 ^ 127 := by
  have e : (2 : Int) ^ (64 : Int).toNat * 2 ^ (63 : Int).toNat - 1 = 170141183460469231731687303715884105727 := by decide +kernel
  have e2 : (2 : Nat) ^ 127 = 170141183460469231731687303715884105728 := by decide +kernel
  rw [e] at h1
  rw [e2]
  omega
def spReel (K : PySem.W.Frag) : Sp := fun vs H Q _ => ∃ (a : Addr) (ns : List Int), vs = [.ref a] ∧ SqL K H a (ns.map V.int) ∧ ns.length ≤ 63 ∧
  ∀ H' R, Same H H' → H R = none → ReelOk R H' → Q (.ref R) H'
/-! ### _law_draw -/
theorem dp_ints {H : Hp} : ∀ ns : List Int, DpAll K H (ns.map V.int) (ns.map PyData.int)
  | [] => .nil
  | n :: ns => .cons (.int n) (dp_ints ns)
theorem ints_lay : ∀ ns : List Int, PyData.canLayAll0 (ns.map PyData.int) = true ∧ PyData.depthAll (ns.map PyData.int) ≤ 1
  | [] => by simp [PyData.canLayAll0, PyData.depthAll]
  | n :: ns => by
    have h := ints_lay ns
    simp only [List.map_cons, PyData.canLayAll0, PyData.depthAll, PyData.canLay0, PyData.depth, Bool.true_and]
    exact ⟨h.1, by omega⟩
theorem ints_shaped (ns : List Int) : SeqAt.shaped (.list (ns.map PyData.int)) = true := by
  have h := ints_lay ns
  have h2 : PyData.depth (.list (ns.map PyData.int)) ≤ 64 := by
    simp only [PyData.depth]
    omega
  show (PyData.canLay0 (.list (ns.map PyData.int)) && decide (PyData.depth (.list (ns.map PyData.int)) ≤ 64)) = true
  rw [Bool.and_eq_true]
  exact ⟨by simp only [PyData.canLay0]; exact h.1, decide_eq_true h2⟩
def spDraw : Sp := fun vs H Q _ => ∃ (R : Addr) (m : Int), vs = [.ref R, .int m] ∧ 0 < m ∧ m ≤ 1000 ∧ ReelOk R H ∧
  ∀ H' r, Keep R H H' → ReelOk R H' → (∀ D, H D ≠ none → Away R D H → Away R D H') → 0 ≤ r → r < m → Q (.int r) H'
end
end Bk

namespace Bk
open PySem PySem.Spec PyProof.Rows L2
local macro_rules | `(tactic| walk_at "g") => `(tactic| (repeat first | refine ⟨_, rfl, ?_⟩ | refine ⟨cpow, ?_⟩ | refine ⟨wideM, ?_⟩ | refine ⟨_, _, rfl, rfl, ?_⟩ | refine ⟨rfl, ?_⟩))
section
variable {P : Program} {w : World} {K : PySem.W.Frag} {mg : Str → Option Value} {base : Heap}
/-! ### _law_turns -/
def TsAt (H : Hp) (p : Addr) (ts : List Trn) : Prop := ∃ rs, H p = some (.lst rs) ∧ Paired (TAt H) rs ts
def spTurns : Sp := fun vs H Q _ => vs = [] ∧ ∀ H' p, Same H H' → H p = none → TsAt H' p allTurns → Q (.ref p) H'
theorem intV_eq (a b : Nat) : eqV (intV a) (intV b) = (a == b) := by
  show ((a : Int) == (b : Int)) = (a == b)
  by_cases h : a = b
  · subst h
    simp
  · rw [beq_eq_false_iff_ne.mpr h]
    exact beq_eq_false_iff_ne.mpr (by omega)
theorem ne_int (a b : Nat) : (!decide ((V.int (a : Int)) = V.int (b : Int))) = !(a == b) := by
  by_cases h : a = b
  · subst h
    simp
  · rw [beq_eq_false_iff_ne.mpr h]
    rw [decide_eq_false (fun z => h (by injection z with z; omega))]
theorem six_sub {a b c : Nat} (h : (c < 4) ∧ a < 4 ∧ b < 4) (hb : (b == a) = false) (hc : (a == c || b == c) = false) : (6 : Int) - a - b - c = ((6 - a - b - c : Nat) : Int) := by
  simp at hb hc
  omega
theorem bs_lt {a b : Nat} (h : b ∈ bsOf a) : b < 4 ∧ (b == a) = false := by
  unfold bsOf at h
  rw [List.mem_filter, List.mem_range] at h
  exact ⟨h.1, by simpa using h.2⟩
theorem turns_few : ∀ a < 4, ∀ j < 5, (turnsTo a ++ ((bsOf a).take j).flatMap (turnsAB a)).length ≤ 24 := by decide +kernel
theorem bs_len (a : Nat) : (bsOf a).length ≤ 4 := by
  have := List.length_filter_le (fun b => !(b == a)) (List.range 4)
  rw [List.length_range] at this
  exact this
end
end Bk

namespace Bk
open PySem PySem.Spec PyProof.Rows L2
local macro_rules | `(tactic| walk_at "g") => `(tactic| (repeat first | refine ⟨_, rfl, ?_⟩ | refine ⟨cpow, ?_⟩ | refine ⟨wideM, ?_⟩ | refine ⟨_, _, rfl, rfl, ?_⟩ | refine ⟨rfl, ?_⟩))
section
variable {P : Program} {w : World} {K : PySem.W.Frag} {mg : Str → Option Value} {base : Heap}
/-! ### _law_back -/
def spBack : Sp := fun vs H Q _ => ∃ v t, vs = [v] ∧ TAt H v t ∧ t ∈ allTurns ∧ ∀ H' p, Same H H' → H p = none → TAt H' (.ref p) (back t) → Q (.ref p) H'
theorem idx_int {t : Trn} {x : Nat} : (t.map fun c : Nat => (c : Int)).idxOf (x : Int) = t.idxOf x := by
  induction t with
  | nil => rfl
  | cons y r ih =>
    rw [List.map_cons, List.idxOf_cons, List.idxOf_cons, ih]
    by_cases h : y = x
    · subst h
      simp
    · rw [beq_eq_false_iff_ne.mpr h, beq_eq_false_iff_ne.mpr (show (y : Int) ≠ x by omega)]
/-! ### _law_set -/
def spSet : Sp := fun vs H Q _ => ∃ (l : Addr) (rs : List V) (s : Spc) (b f n : Nat) (v : V) (t : Trn), vs = [.ref l, intV b, intV f, intV n, v] ∧ SpAt H l rs s ∧ L4 s ∧ TAt H v t ∧ t ∈ allTurns ∧ b < s.length ∧ f < 4 ∧ n < s.length ∧ s.length ≤ 1000 ∧
  ∀ H', KeepB rs H H' → SpAt H' l rs (joinJ s b f n t) → Q .non H'
theorem plen' {α β : Type} {F : α → β → Prop} {xs : List α} {ys : List β} (h : Paired F xs ys) {i : Nat} (hi : i < ys.length) : ∃ x y, xs[i]? = some x ∧ ys[i]? = some y ∧ F x y := by
  obtain ⟨x, h1, h2⟩ := pget h (List.getElem?_eq_getElem hi)
  exact ⟨x, _, h1, List.getElem?_eq_getElem hi, h2⟩
theorem pset {α β : Type} {F : α → β → Prop} {a : α} {b : β} (r : F a b) : ∀ {xs : List α} {ys : List β} (i : Nat), Paired F xs ys → Paired F (xs.set i a) (ys.set i b)
  | _, _, _, .nil => .nil
  | _, _, 0, .cons _ t => .cons r t
  | _, _, i + 1, .cons q t => .cons q (pset r i t)
/-- a store into one block: the others stand -/
theorem SpAt.set {H : Hp} {l : Addr} {rs : List V} {s : Spc} (h : SpAt H l rs s) {b f : Nat} {p : Addr} {vs : List V} {v : V} {j : Jn} (hb : rs[b]? = some (.ref p)) (hp : H p = some (.lst vs)) (hj : JAt H v j) :
    SpAt (upd H p (.lst (vs.set f v))) l rs (setJ s b f j) ∧ KeepB rs H (upd H p (.lst (vs.set f v))) := by
  have hm := List.mem_of_getElem? hb
  have hpl : l ≠ p := fun z => h.out (by rw [z]; exact hm)
  have tp := tups_set (o := .lst (vs.set f v)) hp
  refine ⟨⟨by rw [upd_ne hpl]; exact h.l, ?_, h.nd⟩, fun c o e n => ?_⟩
  · have hB := h.b
    have hN := h.nd
    have key : ∀ (xs : List V) (ys : Spc) (i : Nat), Paired (BAt H) xs ys → xs.Nodup → (xs[i]? = some (.ref p)) → Paired (BAt (upd H p (.lst (vs.set f v)))) xs (ys.modify i fun l => l.set f j) := by
      intro xs ys i hP
      induction hP generalizing i with
      | nil => intro _ hi; simp at hi
      | @cons a y xs ys r t ih =>
        intro nd hi
        rw [List.nodup_cons] at nd
        cases i with
        | zero =>
          have ea : a = .ref p := by simpa using hi
          subst ea
          rw [List.modify_zero_cons]
          refine .cons ?_ ?_
          · obtain ⟨p', vs', e1, e2, e3⟩ := r
            injection e1 with e1
            subst e1
            have := lst_inj hp e2
            subst this
            exact ⟨p, _, rfl, upd_same, pset (hj.mono tp) f (pmono e3 fun _ _ z => z.mono tp)⟩
          · clear ih
            have nm := nd.1
            have go : ∀ (xs : List V) (ys : Spc), Paired (BAt H) xs ys → V.ref p ∉ xs → Paired (BAt (upd H p (.lst (vs.set f v)))) xs ys := by
              intro xs ys hQ
              induction hQ with
              | nil => intro _; exact .nil
              | cons r t ih =>
                intro hn
                refine .cons (r.mono tp fun q xs e1 e2 => ?_) (ih fun z => hn (List.mem_cons_of_mem _ z))
                rw [upd_ne (fun z => hn (by rw [e1, z]; exact List.mem_cons_self))]
                exact e2
            exact go _ _ t nm
        | succ i =>
          rw [List.modify_succ_cons]
          refine .cons (r.mono tp fun q xs e1 e2 => ?_) (ih i nd.2 (by simpa using hi))
          rw [upd_ne (fun z => nd.1 (by rw [e1, z]; exact List.mem_of_getElem? (show _ = some (V.ref p) by simpa using hi)))]
          exact e2
    exact key rs s b hB hN hb
  · rw [upd_ne (fun z => n (by rw [z]; exact hm))]
    exact e
theorem SpAt.same {H H' : Hp} {l : Addr} {rs : List V} {s : Spc} (h : SpAt H l rs s) (m : Same H H') : SpAt H' l rs s :=
  ⟨m _ _ h.l, pmono h.b fun _ _ z => z.mono m.tups fun _ _ _ e => m _ _ e, h.nd⟩
theorem SpAt.keep {R : Addr} {H H' : Hp} {l : Addr} {rs : List V} {s : Spc} (h : SpAt H l rs s) (m : Keep R H H') (r : ReelOk R H) (h4 : L4 s) (hl : l ≠ R) : SpAt H' l rs s := by
  have nR := (r.keepB (KeepB.of (Same.refl H)) h.b h4).2
  have tp := m.tups r
  refine ⟨m _ _ h.l hl, ?_, h.nd⟩
  have hb := h.b
  have go : ∀ (xs : List V) (ys : Spc), Paired (BAt H) xs ys → V.ref R ∉ xs → Paired (BAt H') xs ys := by
    intro xs ys hQ
    induction hQ with
    | nil => intro _; exact .nil
    | cons r t ih =>
      intro hn
      refine .cons (r.mono tp fun q xs e1 e2 => m _ _ e2 fun z => hn (by rw [e1, z]; exact List.mem_cons_self)) (ih fun z => hn (List.mem_cons_of_mem _ z))
  exact go _ _ hb nR
theorem SpAt.at {H : Hp} {l : Addr} {rs : List V} {s : Spc} (h : SpAt H l rs s) {b : Nat} (hb : b < s.length) : ∃ p vs, rs[b]? = some (.ref p) ∧ H p = some (.lst vs) ∧ Paired (JAt H) vs (s[b]?.getD []) := by
  obtain ⟨x, y, h1, h2, p, vs, rfl, h3, h4⟩ := plen' h.b hb
  exact ⟨p, vs, h1, h3, by rw [h2]; exact h4⟩
theorem blk_len {s : Spc} (h : L4 s) {b : Nat} (hb : b < s.length) : (s[b]?.getD []).length = 4 := by
  rw [List.getElem?_eq_getElem hb]
  exact h _ (List.getElem_mem hb)
theorem ixN_lt {n k : Nat} (h : k < n) : ixN n (k : Int) = some k := by
  unfold ixN
  rw [if_pos (by omega), if_pos (by omega)]
  rfl
end
end Bk

namespace Bk
open PySem PySem.Spec PyProof.Rows L2
local macro_rules | `(tactic| walk_at "g") => `(tactic| (repeat first | refine ⟨_, rfl, ?_⟩ | refine ⟨cpow, ?_⟩ | refine ⟨wideM, ?_⟩ | refine ⟨_, _, rfl, rfl, ?_⟩ | refine ⟨rfl, ?_⟩))
section
variable {P : Program} {w : World} {K : PySem.W.Frag} {mg : Str → Option Value} {base : Heap}
/-! ### _law_any -/
/-- what a maker of spaces tells: a new one -/
def MadeS (R : Addr) (H : Hp) (many : Nat) (Q : VK) : Prop := ∀ H' l rs S, Keep R H H' → ReelOk R H' → Aw R H H' → H l = none → SpAt H' l rs S → Fresh H rs → Good S → S.length = many → Q (.ref l) H'
def spAny : Sp := fun vs H Q _ => ∃ (R : Addr) (many : Nat), vs = [.ref R, intV many] ∧ 1 ≤ many ∧ many ≤ 20 ∧ ReelOk R H ∧ MadeS R H many Q
theorem flat4 : (List.replicate (4 : Int).toNat [V.non]).flatten = [V.non, .non, .non, .non] := rfl
end
end Bk

namespace Bk
open PySem PySem.Spec PyProof.Rows L2
local macro_rules | `(tactic| walk_at "g") => `(tactic| (repeat first | refine ⟨_, rfl, ?_⟩ | refine ⟨cpow, ?_⟩ | refine ⟨wideM, ?_⟩ | refine ⟨_, _, rfl, rfl, ?_⟩ | refine ⟨rfl, ?_⟩))
section
variable {P : Program} {w : World} {K : PySem.W.Frag} {mg : Str → Option Value} {base : Heap}
/-! ### _law_ball -/
theorem JAt.isN {H : Hp} {v : V} {j : Jn} (h : JAt H v j) : decide (v = .non) = j.isNone := by
  cases j with
  | none =>
    rw [show v = .non from h]
    rfl
  | some k =>
    obtain ⟨p, q, e, _⟩ := h
    rw [e]
    exact decide_eq_false (fun z => by cases z)
/-- what stands at a face, as it stands -/
theorem SpAt.face {H : Hp} {l : Addr} {rs : List V} {s : Spc} (h : SpAt H l rs s) {b f : Nat} {j : Jn} (e : getJ s b f = some j) : ∃ p vs v, rs[b]? = some (.ref p) ∧ H p = some (.lst vs) ∧ vs[f]? = some v ∧ JAt H v j := by
  unfold getJ at e
  cases hs : s[b]? with
  | none =>
    rw [hs] at e
    cases e
  | some y =>
    rw [hs] at e
    obtain ⟨x, h1, p, vs, rfl, h3, h4⟩ := pget h.b hs
    obtain ⟨v, h5, h6⟩ := pget h4 (show y[f]? = some j from e)
    exact ⟨p, vs, v, h1, h3, h5, h6⟩
def isFr (s : Spc) (k : Nat) : Bool := (getJ s (k / 4) (k % 4)) == some none
theorem getJ_push {s : Spc} {b : Blk} {x f : Nat} (h : x < s.length) : getJ (s ++ [b]) x f = getJ s x f := by
  unfold getJ
  rw [List.getElem?_append_left h]
theorem getJ_last {s : Spc} {b : Blk} {f : Nat} : getJ (s ++ [b]) s.length f = b[f]? := by
  unfold getJ
  rw [List.getElem?_append_right (Nat.le_refl _), Nat.sub_self]
  rfl
theorem Good.push {s : Spc} (h : Good s) : Good (s ++ [free4]) := by
  have l4 : L4 (s ++ [free4]) := fun b hb => by
    rcases List.mem_append.mp hb with z | z
    · exact h.l4 b z
    · rw [List.mem_singleton.mp z]
      rfl
  refine ⟨l4, fun b f n t e => ?_⟩
  by_cases hb : b < s.length
  · rw [getJ_push hb] at e
    obtain ⟨q1, q2, q3⟩ := h.both b f n t e
    exact ⟨q1, q2, by rw [getJ_push (h.lt e)]; exact q3⟩
  · have hl := (l4.of e).1
    rw [List.length_append] at hl
    have eb : b = s.length := by
      have : b < s.length + 1 := hl
      omega
    rw [eb, getJ_last] at e
    have hm := List.mem_of_getElem? e
    simp [free4] at hm
theorem free4_get {f : Nat} (h : f < 4) : free4[f]? = some none := by
  match f, h with
  | 0, _ => rfl
  | 1, _ => rfl
  | 2, _ => rfl
  | 3, _ => rfl
end
end Bk

namespace Bk
open PySem PySem.Spec PyProof.Rows L2
local macro_rules | `(tactic| walk_at "g") => `(tactic| (repeat first | refine ⟨_, rfl, ?_⟩ | refine ⟨cpow, ?_⟩ | refine ⟨wideM, ?_⟩ | refine ⟨_, _, rfl, rfl, ?_⟩ | refine ⟨rfl, ?_⟩))
section
variable {P : Program} {w : World} {K : PySem.W.Frag} {mg : Str → Option Value} {base : Heap}
/-! ### _law_doubled -/
def shJ (m : Nat) : Jn → Jn
  | none => none
  | some (n, t) => some (n + m, t)
def shB (m : Nat) (b : Blk) : Blk := b.map (shJ m)
def shS (m : Nat) (s : Spc) : Spc := s.map (shB m)
theorem getJ_sh {m : Nat} {s : Spc} {b f : Nat} : getJ (shS m s) b f = (getJ s b f).map (shJ m) := by
  unfold getJ shS
  rw [List.getElem?_map]
  cases s[b]? with
  | none => rfl
  | some l =>
    show (shB m l)[f]? = (l[f]?).map (shJ m)
    exact List.getElem?_map
theorem getJ_left {s u : Spc} {b f : Nat} (h : b < s.length) : getJ (s ++ u) b f = getJ s b f := by
  unfold getJ
  rw [List.getElem?_append_left h]
theorem getJ_right {s u : Spc} {b f : Nat} : getJ (s ++ u) (s.length + b) f = getJ u b f := by
  unfold getJ
  rw [List.getElem?_append_right (Nat.le_add_right _ _), Nat.add_sub_cancel_left]
theorem Good.twice {s : Spc} (h : Good s) {u : Spc} (hu : Good u) : Good (s ++ shS s.length u) := by
  have l4 : L4 (s ++ shS s.length u) := fun b hb => by
    rcases List.mem_append.mp hb with z | z
    · exact h.l4 b z
    · obtain ⟨c, hc, rfl⟩ := List.mem_map.mp z
      unfold shB
      rw [List.length_map]
      exact hu.l4 c hc
  refine ⟨l4, fun b f n t e => ?_⟩
  by_cases hb : b < s.length
  · rw [getJ_left hb] at e
    obtain ⟨q1, q2, q3⟩ := h.both b f n t e
    exact ⟨q1, q2, by rw [getJ_left (h.lt e)]; exact q3⟩
  · obtain ⟨c, rfl⟩ : ∃ c, b = s.length + c := ⟨b - s.length, by omega⟩
    rw [getJ_right, getJ_sh] at e
    cases hj : getJ u c f with
    | none =>
      rw [hj] at e
      cases e
    | some j =>
      rw [hj] at e
      cases j with
      | none => cases e
      | some k =>
        obtain ⟨n', t'⟩ := k
        have e1 : (n' + s.length, t') = (n, t) := Option.some.inj (Option.some.inj e)
        injection e1 with e1 e2
        subst e2
        obtain ⟨q1, q2, q3⟩ := hu.both c f n' t' hj
        refine ⟨q1, fun z => ?_, ?_⟩
        · injection z with z1 z2
          exact q2 (Prod.ext (by show n' = c; omega) z2)
        · rw [← e1, Nat.add_comm n', getJ_right, getJ_sh, q3]
          show some (some (c + s.length, back t')) = _
          rw [Nat.add_comm c]
theorem JAt.sh {H : Hp} {m : Nat} {n : Nat} {t : Trn} {p q : Addr} (h1 : FT H p [intV (n + m), .ref q]) (h2 : FT H q (trnV t)) : JAt H (.ref p) (shJ m (some (n, t))) := ⟨p, q, rfl, h1, h2⟩
abbrev id4 : Trn := [0, 1, 2, 3]
theorem id4_mem : id4 ∈ allTurns := by decide +kernel
theorem tf_id4 {f : Nat} (h : f < 4) : tf id4 f = f := by
  match f, h with
  | 0, _ => rfl
  | 1, _ => rfl
  | 2, _ => rfl
  | 3, _ => rfl
def spDoubled : Sp := fun vs H Q _ => ∃ (l : Addr) (rs : List V) (S : Spc), vs = [.ref l] ∧ SpAt H l rs S ∧ Good S ∧ S.length ≤ 20 ∧
  ∀ H' l' rs' S', Same H H' → H l' = none → SpAt H' l' rs' S' → Fresh H rs' → Good S' → S'.length = 2 * S.length → Q (.ref l') H'
end
end Bk

namespace Bk
open PySem PySem.Spec PyProof.Rows L2
/-! ### data: lists and tuples as they stand, apart from the reel -/
mutual
inductive Dq (N : Addr → Prop) (H : Hp) : V → PyData → Prop
  | non : Dq N H .non .none
  | bl (b : Bool) : Dq N H (.bl b) (.bool b)
  | int (i : Int) : Dq N H (.int i) (.int i)
  | str (x : Str) : Dq N H (.str x) (.str x)
  | lst {a : Addr} {xs : List V} {ds : List PyData} : H a = some (.lst xs) → ¬ N a → Dqs N H xs ds → Dq N H (.ref a) (.list ds)
  | tup {a : Addr} {xs : List V} {ds : List PyData} : FT H a xs → Dqs N H xs ds → Dq N H (.ref a) (.tuple ds)
inductive Dqs (N : Addr → Prop) (H : Hp) : List V → List PyData → Prop
  | nil : Dqs N H [] []
  | cons {v : V} {vs : List V} {d : PyData} {ds : List PyData} : Dq N H v d → Dqs N H vs ds → Dqs N H (v :: vs) (d :: ds)
end
mutual
theorem Dq.mono {N N' : Addr → Prop} {H H' : Hp} (m : Tups H H') (n : ∀ a, N' a → N a) (k : ∀ a xs, H a = some (.lst xs) → ¬ N a → H' a = some (.lst xs)) : ∀ {d : PyData} {v : V}, Dq N H v d → Dq N' H' v d
  | .none, _, h => by
    cases h
    exact .non
  | .bool b, _, h => by
    cases h
    exact .bl b
  | .int i, _, h => by
    cases h
    exact .int i
  | .str x, _, h => by
    cases h
    exact .str x
  | .list ds, _, h => by
    cases h with
    | lst h1 h2 h3 => exact .lst (k _ _ h1 h2) (fun z => h2 (n _ z)) (Dqs.mono m n k h3)
  | .tuple ds, _, h => by
    cases h with
    | tup h1 h2 => exact .tup (h1.mono m) (Dqs.mono m n k h2)
  | .dict _, _, h => by cases h
theorem Dqs.mono {N N' : Addr → Prop} {H H' : Hp} (m : Tups H H') (n : ∀ a, N' a → N a) (k : ∀ a xs, H a = some (.lst xs) → ¬ N a → H' a = some (.lst xs)) : ∀ {ds : List PyData} {vs : List V}, Dqs N H vs ds → Dqs N' H' vs ds
  | [], _, h => by
    cases h
    exact .nil
  | d :: ds, _, h => by
    cases h with
    | cons h1 h2 => exact .cons (Dq.mono m n k h1) (Dqs.mono m n k h2)
end
theorem Dq.weak {N N' : Addr → Prop} {H : Hp} {v : V} {d : PyData} (h : Dq N H v d) (n : ∀ a, N' a → N a) : Dq N' H v d := h.mono (Tups.refl _) n fun _ _ e _ => e
theorem Dqs.weak {N N' : Addr → Prop} {H : Hp} {v : List V} {d : List PyData} (h : Dqs N H v d) (n : ∀ a, N' a → N a) : Dqs N' H v d := h.mono (Tups.refl _) n fun _ _ e _ => e
theorem Dq.same {N : Addr → Prop} {H H' : Hp} {v : V} {d : PyData} (h : Dq N H v d) (s : Same H H') : Dq N H' v d := h.mono s.tups (fun _ z => z) fun a xs e _ => s a _ e
theorem Dqs.same {N : Addr → Prop} {H H' : Hp} {v : List V} {d : List PyData} (h : Dqs N H v d) (s : Same H H') : Dqs N H' v d := h.mono s.tups (fun _ z => z) fun a xs e _ => s a _ e
theorem Dq.keep {N : Addr → Prop} {R : Addr} {H H' : Hp} {v : V} {d : PyData} (h : Dq N H v d) (k : Keep R H H') (r : ReelOk R H) (n : N R) : Dq N H' v d := h.mono (k.tups r) (fun _ z => z) fun a xs e m => k a _ e fun z => m (by rw [z]; exact n)
theorem Dqs.keep {N : Addr → Prop} {R : Addr} {H H' : Hp} {v : List V} {d : List PyData} (h : Dqs N H v d) (k : Keep R H H') (r : ReelOk R H) (n : N R) : Dqs N H' v d := h.mono (k.tups r) (fun _ z => z) fun a xs e m => k a _ e fun z => m (by rw [z]; exact n)
/-- a list that they avoid is filled -/
theorem Dqs.fill {N : Addr → Prop} {H : Hp} {D : Addr} {xs : List V} {o : HO} {v : List V} {d : List PyData} (h : Dqs N H v d) (hD : H D = some (.lst xs)) (n : N D) : Dqs N (upd H D o) v d := h.mono (tups_set hD) (fun _ z => z) fun a ys e m => by
  rw [upd_ne (show a ≠ D from fun z => m (by rw [z]; exact n))]
  exact e
theorem Dq.fill {N : Addr → Prop} {H : Hp} {D : Addr} {xs : List V} {o : HO} {v : V} {d : PyData} (h : Dq N H v d) (hD : H D = some (.lst xs)) (n : N D) : Dq N (upd H D o) v d := h.mono (tups_set hD) (fun _ z => z) fun a ys e m => by
  rw [upd_ne (show a ≠ D from fun z => m (by rw [z]; exact n))]
  exact e
mutual
theorem Dq.dp {K : PySem.W.Frag} {N : Addr → Prop} {H : Hp} : ∀ {d : PyData} {v : V}, Dq N H v d → Dp K H v d
  | .none, _, h => by
    cases h
    exact .non
  | .bool b, _, h => by
    cases h
    exact .bl b
  | .int i, _, h => by
    cases h
    exact .int i
  | .str x, _, h => by
    cases h
    exact .str x
  | .list ds, _, h => by
    cases h with
    | lst h1 h2 h3 => exact .lst (.inl (.inl h1)) (Dqs.dp h3)
  | .tuple ds, _, h => by
    cases h with
    | tup h1 h2 => exact .tup h1.sqt (Dqs.dp h2)
  | .dict _, _, h => by cases h
theorem Dqs.dp {K : PySem.W.Frag} {N : Addr → Prop} {H : Hp} : ∀ {ds : List PyData} {vs : List V}, Dqs N H vs ds → DpAll K H vs ds
  | [], _, h => by
    cases h
    exact .nil
  | d :: ds, _, h => by
    cases h with
    | cons h1 h2 => exact .cons (Dq.dp h1) (Dqs.dp h2)
end
theorem Dqs.len {N : Addr → Prop} {H : Hp} : ∀ {ds : List PyData} {vs : List V}, Dqs N H vs ds → vs.length = ds.length
  | [], _, h => by
    cases h
    rfl
  | d :: ds, _, h => by
    cases h with
    | cons h1 h2 =>
      rw [List.length_cons, List.length_cons, h2.len]
theorem Dqs.get {N : Addr → Prop} {H : Hp} : ∀ {ds : List PyData} {vs : List V} {i : Nat} {v : V}, Dqs N H vs ds → vs[i]? = some v → ∃ d, ds[i]? = some d ∧ Dq N H v d
  | [], _, i, v, h, e => by
    cases h
    simp at e
  | d :: ds, _, i, v, h, e => by
    cases h with
    | cons h1 h2 =>
      cases i with
      | zero =>
        have e' := Option.some.inj (show some _ = some v from e)
        subst e'
        exact ⟨d, rfl, h1⟩
      | succ i =>
        have q := Dqs.get (i := i) h2 (show _ = some v from e)
        exact q
theorem Dqs.get' {N : Addr → Prop} {H : Hp} : ∀ {ds : List PyData} {vs : List V} {i : Nat} {d : PyData}, Dqs N H vs ds → ds[i]? = some d → ∃ v, vs[i]? = some v ∧ Dq N H v d
  | [], _, i, v, h, e => by simp at e
  | d :: ds, _, i, v, h, e => by
    cases h with
    | cons h1 h2 =>
      cases i with
      | zero =>
        have e' := Option.some.inj (show some d = some v from e)
        subst e'
        exact ⟨_, rfl, h1⟩
      | succ i =>
        have q := Dqs.get' (i := i) h2 (show _ = some v from e)
        exact q
theorem Dqs.snoc {N : Addr → Prop} {H : Hp} {v : V} {d : PyData} (h : Dq N H v d) : ∀ {ds : List PyData} {vs : List V}, Dqs N H vs ds → Dqs N H (vs ++ [v]) (ds ++ [d])
  | [], _, k => by
    cases k
    exact .cons h .nil
  | d :: ds, _, k => by
    cases k with
    | cons h1 h2 => exact .cons h1 (h2.snoc h)

/-! ### lists for tuples: what a mixture keeps -/
mutual
def norm : PyData → PyData
  | .list ds => .list (norms ds)
  | .tuple ds => .list (norms ds)
  | .none => .none
  | .bool b => .bool b
  | .int i => .int i
  | .str x => .str x
  | .dict k => .dict k
def norms : List PyData → List PyData
  | [] => []
  | d :: ds => norm d :: norms ds
end
theorem norms_map : ∀ ds : List PyData, norms ds = ds.map norm
  | [] => by simp only [norms, List.map_nil]
  | d :: ds => by simp only [norms, List.map_cons, norms_map ds]
mutual
theorem norm_same (B : Nat) : ∀ d : PyData, (norm d).bulk = d.bulk ∧ (norm d).depth = d.depth ∧ (norm d).leavesShort B = d.leavesShort B ∧ (norm d).showable = d.showable ∧ (norm d).hasDict = d.hasDict
  | .list ds => by
    have h := norms_same B ds
    simp only [norm, PyData.bulk, PyData.depth, PyData.leavesShort, PyData.showable, PyData.hasDict]
    exact ⟨h.1, by rw [h.2.1], h.2.2.1, h.2.2.2.1, h.2.2.2.2⟩
  | .tuple ds => by
    have h := norms_same B ds
    simp only [norm, PyData.bulk, PyData.depth, PyData.leavesShort, PyData.showable, PyData.hasDict]
    exact ⟨h.1, by rw [h.2.1], h.2.2.1, h.2.2.2.1, h.2.2.2.2⟩
  | .none => by simp only [norm, and_self]
  | .bool b => by simp only [norm, and_self]
  | .int i => by simp only [norm, and_self]
  | .str x => by simp only [norm, and_self]
  | .dict k => by simp only [norm, and_self]
theorem norms_same (B : Nat) : ∀ ds : List PyData, PyData.bulkAll (norms ds) = PyData.bulkAll ds ∧ PyData.depthAll (norms ds) = PyData.depthAll ds ∧ PyData.leavesShortAll B (norms ds) = PyData.leavesShortAll B ds ∧ PyData.showableAll (norms ds) = PyData.showableAll ds ∧ PyData.hasDictAll (norms ds) = PyData.hasDictAll ds
  | [] => by simp only [norms, and_self]
  | d :: ds => by
    have h1 := norm_same B d
    have h2 := norms_same B ds
    simp only [norms, PyData.bulkAll, PyData.depthAll, PyData.leavesShortAll, PyData.showableAll, PyData.hasDictAll]
    exact ⟨by rw [h1.1, h2.1], by rw [h1.2.1, h2.2.1], by rw [h1.2.2.1, h2.2.2.1], by rw [h1.2.2.2.1, h2.2.2.2.1], by rw [h1.2.2.2.2, h2.2.2.2.2]⟩
end
def isSeqD : PyData → Bool
  | .list _ => true
  | .tuple _ => true
  | _ => false
def tyD : PyData → String
  | .list _ => "list"
  | .tuple _ => "tuple"
  | .none => "NoneType"
  | .bool _ => "bool"
  | .int _ => "int"
  | .str _ => "str"
  | .dict _ => "dict"
theorem Dq.ty {K : PySem.W.Frag} {N : Addr → Prop} {H : Hp} {v : V} {d : PyData} (h : Dq N H v d) : TyX K H v (.type (tyD d)) := by
  cases d with
  | none =>
    cases h
    exact .base .non
  | bool b =>
    cases h
    exact .base (.bl b)
  | int i =>
    cases h
    exact .base (.int i)
  | str x =>
    cases h
    exact .base (.str x)
  | list ds =>
    cases h with
    | lst h1 _ _ => exact .base (.lst h1)
  | tuple ds =>
    cases h with
    | tup h1 _ =>
      obtain ⟨o, _, h1⟩ := h1
      exact .fTuple h1
  | dict k => cases h
/-! data of tuples alone leans on tuples alone -/
mutual
def tupled : PyData → Bool
  | .list _ => false
  | .tuple ds => tupleds ds
  | .dict _ => false
  | .none => true
  | .bool _ => true
  | .int _ => true
  | .str _ => true
def tupleds : List PyData → Bool
  | [] => true
  | d :: ds => tupled d && tupleds ds
end
mutual
theorem Dq.monoT {N N' : Addr → Prop} {H H' : Hp} (m : Tups H H') : ∀ {d : PyData} {v : V}, tupled d = true → Dq N H v d → Dq N' H' v d
  | .none, _, _, h => by
    cases h
    exact .non
  | .bool b, _, _, h => by
    cases h
    exact .bl b
  | .int i, _, _, h => by
    cases h
    exact .int i
  | .str x, _, _, h => by
    cases h
    exact .str x
  | .list ds, _, e, _ => by simp only [tupled] at e; cases e
  | .tuple ds, _, e, h => by
    cases h with
    | tup h1 h2 => exact .tup (h1.mono m) (Dqs.monoT m (by simpa only [tupled] using e) h2)
  | .dict _, _, _, h => by cases h
theorem Dqs.monoT {N N' : Addr → Prop} {H H' : Hp} (m : Tups H H') : ∀ {ds : List PyData} {vs : List V}, tupleds ds = true → Dqs N H vs ds → Dqs N' H' vs ds
  | [], _, _, h => by
    cases h
    exact .nil
  | d :: ds, _, e, h => by
    simp only [tupleds, Bool.and_eq_true] at e
    cases h with
    | cons h1 h2 => exact .cons (Dq.monoT m e.1 h1) (Dqs.monoT m e.2 h2)
end
end Bk

namespace Bk
open PySem PySem.Spec PyProof.Rows L2
local macro_rules | `(tactic| walk_at "g") => `(tactic| (repeat first | refine ⟨_, rfl, ?_⟩ | refine ⟨cpow, ?_⟩ | refine ⟨wideM, ?_⟩ | refine ⟨_, _, rfl, rfl, ?_⟩ | refine ⟨rfl, ?_⟩))
section
variable {P : Program} {w : World} {K : PySem.W.Frag} {mg : Str → Option Value} {base : Heap}
/-! ### _law_blocks -/
theorem Fresh.keep {R : Addr} {H H1 : Hp} {rs : List V} (f : Fresh H1 rs) (k : Keep R H H1) (r : ReelOk R H1) : Fresh H rs := fun p z => by
  have n := f p z
  exact k.free n (fun e => by
    obtain ⟨g, c, gs, cs, m, st, q⟩ := r
    rw [e, q.r] at n
    cases n)
theorem Keep.free' {R : Addr} {H H1 : Hp} (k : Keep R H H1) (r : ReelOk R H1) {p : Addr} (n : H1 p = none) : H p = none := k.free n (fun e => by
  obtain ⟨g, c, gs, cs, m, st, q⟩ := r
  rw [e, q.r] at n
  cases n)
theorem and_way {c d : Bool} {A B X : Prop} (hx : (if d = true then A else B) → X) (h1 : c = true → d = true → A) (h2 : ¬ (c = true ∧ d = true) → B) : if c = true then X else B := by
  by_cases hc : c = true
  · rw [if_pos hc]
    refine hx ?_
    by_cases hd : d = true
    · rw [if_pos hd]
      exact h1 hc hd
    · rw [if_neg hd]
      exact h2 fun z => hd z.2
  · rw [if_neg hc]
    exact h2 fun z => hc z.1
def spBlocks : Sp := fun vs H Q _ => ∃ (R : Addr) (most : Nat), vs = [.ref R, intV most] ∧ 1 ≤ most ∧ most ≤ 20 ∧ ReelOk R H ∧
  ∀ H' l rs S, Keep R H H' → ReelOk R H' → Aw R H H' → H l = none → SpAt H' l rs S → Fresh H rs → Good S → 1 ≤ S.length → S.length ≤ most → Q (.ref l) H'
end
end Bk

namespace Bk
open PySem PySem.Spec PyProof.Rows L2
local macro_rules | `(tactic| walk_at "g") => `(tactic| (repeat first | refine ⟨_, rfl, ?_⟩ | refine ⟨cpow, ?_⟩ | refine ⟨wideM, ?_⟩ | refine ⟨_, _, rfl, rfl, ?_⟩ | refine ⟨rfl, ?_⟩))
section
variable {P : Program} {w : World} {K : PySem.W.Frag} {mg : Str → Option Value} {base : Heap}
/-! ### _law_shut -/
def intD (n : Nat) : PyData := .int (n : Int)
def jD : Jn → PyData
  | none => .none
  | some (n, t) => .tuple [intD n, .tuple (t.map intD)]
def shutD (S : Spc) : PyData := .tuple (S.map fun b => .tuple (b.map jD))
theorem dqs_ints {N : Addr → Prop} {H : Hp} : ∀ t : Trn, Dqs N H (trnV t) (t.map intD)
  | [] => .nil
  | n :: t => .cons (.int (n : Int)) (dqs_ints t)
theorem JAt.dq {N : Addr → Prop} {H : Hp} {v : V} {j : Jn} (h : JAt H v j) : Dq N H v (jD j) := by
  cases j with
  | none =>
    rw [show v = .non from h]
    exact .non
  | some k =>
    obtain ⟨n, t⟩ := k
    obtain ⟨p, q, rfl, h1, h2⟩ := h
    exact .tup h1 (.cons (.int (n : Int)) (.cons (.tup h2 (dqs_ints t)) .nil))
theorem jats_dqs {N : Addr → Prop} {H : Hp} : ∀ {vs : List V} {b : Blk}, Paired (JAt H) vs b → Dqs N H vs (b.map jD)
  | _, _, .nil => .nil
  | _, _, .cons r t => .cons r.dq (jats_dqs t)
theorem j_tupled (j : Jn) : tupled (jD j) = true := by
  cases j with
  | none => simp only [jD, tupled]
  | some k =>
    obtain ⟨n, t⟩ := k
    have h : tupleds (t.map intD) = true := by
      induction t with
      | nil => simp only [List.map_nil, tupleds]
      | cons x r ih => simp only [List.map_cons, tupleds, intD, tupled, Bool.true_and, ih]
    simp only [jD, tupled, tupleds, intD, h, Bool.and_self]
theorem js_tupled : ∀ b : Blk, tupleds (b.map jD) = true
  | [] => by simp only [List.map_nil, tupleds]
  | j :: b => by simp only [List.map_cons, tupleds, j_tupled j, js_tupled b, Bool.and_self]
theorem blks_tupled : ∀ S : Spc, tupleds (S.map fun b => .tuple (b.map jD)) = true
  | [] => by simp only [List.map_nil, tupleds]
  | b :: S => by simp only [List.map_cons, tupleds, tupled, js_tupled b, blks_tupled S, Bool.and_self]
def spShut : Sp := fun vs H Q _ => ∃ (l : Addr) (rs : List V) (S : Spc), vs = [.ref l] ∧ SpAt H l rs S ∧ S.length ≤ 40 ∧ ∀ H' v, Same H H' → (∀ N, Dq N H' v (shutD S)) → Q v H'
theorem item_le : ∀ {ds : List PyData} {i : Nat} {d : PyData}, ds[i]? = some d → d.bulk ≤ PyData.bulkAll ds ∧ d.depth ≤ PyData.depthAll ds ∧ i < PyData.bulkAll ds
  | [], i, d, e => by simp at e
  | x :: xs, 0, d, e => by
    have e' := Option.some.inj (show some x = some d from e)
    subst e'
    simp only [PyData.bulkAll, PyData.depthAll]
    omega
  | x :: xs, i + 1, d, e => by
    have h := item_le (ds := xs) (i := i) (d := d) e
    simp only [PyData.bulkAll, PyData.depthAll]
    omega
theorem kit_seq {K : PySem.W.Frag} (d : PyData) : PySem.W.kitAny K (.type (tyD d)) [.type "list", .type "tuple"] = some (isSeqD d) := by
  have go : ∀ (a : String) (b1 b2 r : Bool), kitB a "list" = some b1 → kitB a "tuple" = some b2 → (b1 = false → b2 = r) → (b1 = true → r = true) → PySem.W.kitAny K (.type a) [.type "list", .type "tuple"] = some r := fun a b1 b2 r h1 h2 h3 h4 =>
    kitAny_cons (kit_ty h1) (fun e => by
      have e2 := h3 e
      subst e2
      exact kitAny_cons (kit_ty h2) (fun z => by rw [z]; rfl) fun z => z) h4
  cases d with
  | none => exact go "NoneType" false false _ (by decide +kernel) (by decide +kernel) (fun _ => rfl) (fun z => by cases z)
  | bool b => exact go "bool" false false _ (by decide +kernel) (by decide +kernel) (fun _ => rfl) (fun z => by cases z)
  | int i => exact go "int" false false _ (by decide +kernel) (by decide +kernel) (fun _ => rfl) (fun z => by cases z)
  | str x => exact go "str" false false _ (by decide +kernel) (by decide +kernel) (fun _ => rfl) (fun z => by cases z)
  | list ds => exact go "list" true false _ (by decide +kernel) (by decide +kernel) (fun z => by cases z) (fun _ => rfl)
  | tuple ds => exact go "tuple" false true _ (by decide +kernel) (by decide +kernel) (fun _ => rfl) (fun z => by cases z)
  | dict k => exact go "dict" false false _ (by decide +kernel) (by decide +kernel) (fun _ => rfl) (fun z => by cases z)
theorem norms_len : ∀ ds : List PyData, (norms ds).length = ds.length := fun ds => by rw [norms_map, List.length_map]
end
end Bk

namespace Bk
open PySem PySem.Spec PyProof.Rows L2
/-! ### places in a text -/
def stAt (l : List Stmt) (i : Nat) : Stmt := l.getD i (.Pass ⟨0, 0, 0, 0⟩)
def forBody (s : Stmt) : List Stmt := match s with
  | .For _ _ b _ _ => b
  | _ => []
def lcScope (s : Stmt) : Scope := match s with
  | .Assign _ (.ListComp _ _ sc _) _ => sc
  | _ => { kind := .function, names := [], isGenerator := false, isCoroutine := false }
def numT (n : Nat) : Str := Str.ofString (toString (n : Int))
def Jb (j : Jn) : Prop := ∀ n t, j = some (n, t) → n < 64 ∧ t.length = 4 ∧ ∀ x ∈ t, x < 4
theorem num_len : ∀ n < 64, (numT n).length ≤ 2 := by decide +kernel
theorem num_log {n : Nat} (h : n < 64) : (n : Int).natAbs.log2 < 1920 := by
  have h1 : ∀ n : Nat, n < 64 → n.log2 < 1920 := by decide +kernel
  rw [Int.natAbs_natCast]
  exact h1 n h
def Sb (S : Spc) : Prop := S.length ≤ 40 ∧ ∀ b ∈ S, b.length = 4 ∧ ∀ j ∈ b, Jb j
theorem Good.sb {S : Spc} (h : Good S) (hl : S.length ≤ 40) : Sb S := by
  refine ⟨hl, fun b hb => ⟨h.l4 b hb, fun j hj n t e => ?_⟩⟩
  subst e
  obtain ⟨i, hi⟩ := List.mem_iff_getElem?.mp hb
  obtain ⟨f, hf⟩ := List.mem_iff_getElem?.mp hj
  have g : getJ S i f = some (some (n, t)) := by
    unfold getJ
    rw [hi]
    exact hf
  have ht := (h.both _ _ _ _ g).1
  have h4 := turns4 t ht
  have := h.lt g
  exact ⟨by omega, h4.1, h4.2.1⟩
/-! ### data by their norms -/
theorem Dq.seq {K : PySem.W.Frag} {N : Addr → Prop} {H : Hp} {v : V} {d : PyData} {es : List PyData} (h : Dq N H v d) (e : norm d = .list es) : ∃ a xs ds, v = .ref a ∧ (SqL K H a xs ∨ SqT K H a xs) ∧ (∀ o, H a = some o → True) ∧ Dqs N H xs ds ∧ norms ds = es := by
  cases d with
  | list ds =>
    cases h with
    | lst h1 h2 h3 => exact ⟨_, _, ds, rfl, .inl (.inl (.inl h1)), fun _ _ => trivial, h3, by simpa only [norm, PyData.list.injEq] using e⟩
  | tuple ds =>
    cases h with
    | tup h1 h2 => exact ⟨_, _, ds, rfl, .inr h1.sqt, fun _ _ => trivial, h2, by simpa only [norm, PyData.list.injEq] using e⟩
  | none => simp only [norm] at e; cases e
  | bool b => simp only [norm] at e; cases e
  | int i => simp only [norm] at e; cases e
  | str x => simp only [norm] at e; cases e
  | dict k => simp only [norm] at e; cases e
theorem Dq.isInt {N : Addr → Prop} {H : Hp} {v : V} {d : PyData} {i : Int} (h : Dq N H v d) (e : norm d = .int i) : v = .int i := by
  cases h with
  | int j => simp only [norm, PyData.int.injEq] at e; rw [e]
  | non => simp only [norm] at e; cases e
  | bl b => simp only [norm] at e; cases e
  | str x => simp only [norm] at e; cases e
  | lst _ _ _ => simp only [norm] at e; cases e
  | tup _ _ => simp only [norm] at e; cases e
theorem Dq.isNon {N : Addr → Prop} {H : Hp} {v : V} {d : PyData} (h : Dq N H v d) (e : norm d = .none) : v = .non := by
  cases h with
  | non => rfl
  | int j => simp only [norm] at e; cases e
  | bl b => simp only [norm] at e; cases e
  | str x => simp only [norm] at e; cases e
  | lst _ _ _ => simp only [norm] at e; cases e
  | tup _ _ => simp only [norm] at e; cases e
def nJ (j : Jn) : PyData := norm (jD j)
theorem nJ_some (n : Nat) (t : Trn) : nJ (some (n, t)) = .list [intD n, .list (t.map intD)] := by
  have h : norms (t.map intD) = t.map intD := by
    rw [norms_map, List.map_map]
    exact List.map_congr_left fun x _ => by simp only [Function.comp, intD, norm]
  simp only [nJ, jD, norm, norms, h, intD]
theorem nJ_none : nJ none = .none := by simp only [nJ, jD, norm]
theorem norms_inv : ∀ {ds : List PyData} {e : PyData} {es : List PyData}, norms ds = e :: es → ∃ d ds', ds = d :: ds' ∧ norm d = e ∧ norms ds' = es
  | [], _, _, h => by
    simp only [norms] at h
    cases h
  | d :: ds, e, es, h => by
    simp only [norms, List.cons.injEq] at h
    exact ⟨d, ds, rfl, h.1, h.2⟩
theorem norms_nil_inv : ∀ {ds : List PyData}, norms ds = [] → ds = []
  | [], _ => rfl
  | d :: ds, h => by
    simp only [norms] at h
    cases h
theorem Dqs.uncons {N : Addr → Prop} {H : Hp} {xs : List V} {d : PyData} {ds : List PyData} (h : Dqs N H xs (d :: ds)) : ∃ v vs, xs = v :: vs ∧ Dq N H v d ∧ Dqs N H vs ds := by
  cases h with
  | cons h1 h2 => exact ⟨_, _, rfl, h1, h2⟩
theorem Dqs.pair {N : Addr → Prop} {H : Hp} {xs : List V} {ds : List PyData} {e1 e2 : PyData} (h : Dqs N H xs ds) (e : norms ds = [e1, e2]) :
    ∃ v1 v2 d1 d2, xs = [v1, v2] ∧ Dq N H v1 d1 ∧ norm d1 = e1 ∧ Dq N H v2 d2 ∧ norm d2 = e2 := by
  obtain ⟨d1, r, rfl, n1, e⟩ := norms_inv e
  obtain ⟨d2, r2, rfl, n2, e⟩ := norms_inv e
  obtain rfl := norms_nil_inv e
  obtain ⟨v1, w1, rfl, h1, h⟩ := h.uncons
  obtain ⟨v2, w2, rfl, h2, h⟩ := h.uncons
  cases h
  exact ⟨v1, v2, d1, d2, rfl, h1, n1, h2, n2⟩
def nB (b : Blk) : PyData := .list (b.map nJ)
def nS (S : Spc) : PyData := .list (S.map nB)
theorem norm_at {ds : List PyData} {α : Type} {l : List α} {f : α → PyData} {i : Nat} {d : PyData} (e : norms ds = l.map f) (h : ds[i]? = some d) : ∃ x, l[i]? = some x ∧ norm d = f x := by
  have z : (norms ds)[i]? = some (norm d) := by rw [norms_map, List.getElem?_map, h]; rfl
  rw [e, List.getElem?_map] at z
  cases hx : l[i]? with
  | none =>
    rw [hx] at z
    cases z
  | some x =>
    rw [hx] at z
    exact ⟨x, rfl, (Option.some.inj z).symm⟩
theorem norm_len {ds : List PyData} {α : Type} {l : List α} {f : α → PyData} (e : norms ds = l.map f) : ds.length = l.length := by
  rw [← norms_len, e, List.length_map]
theorem norm_jD (j : Jn) : norm (jD j) = nJ j := rfl
theorem norm_blk (b : Blk) : norms (b.map jD) = b.map nJ := by
  rw [norms_map, List.map_map]
  rfl
theorem norm_shut (S : Spc) : norm (shutD S) = nS S := by
  have h : norms (S.map fun b => PyData.tuple (b.map jD)) = S.map nB := by
    rw [norms_map, List.map_map]
    refine List.map_congr_left fun b _ => ?_
    show norm (PyData.tuple (b.map jD)) = nB b
    simp only [norm, norm_blk, nB]
  simp only [shutD, norm, h, nS]
theorem norm_open (S : Spc) : norm (.list (S.map fun b => PyData.list (b.map jD))) = nS S := by
  have h : norms (S.map fun b => PyData.list (b.map jD)) = S.map nB := by
    rw [norms_map, List.map_map]
    refine List.map_congr_left fun b _ => ?_
    show norm (PyData.list (b.map jD)) = nB b
    simp only [norm, norm_blk, nB]
  simp only [norm, h, nS]
/-- what data of ints and nothing else is: small -/
structure Tiny (d : PyData) (b k : Nat) : Prop where
  b : d.bulk ≤ b
  k : d.depth ≤ k
  s : d.showable = true
  h : d.hasDict = false
  l : d.leavesShort 8 = true
theorem ints_tiny : ∀ {t : Trn}, (∀ x ∈ t, x < 64) → PyData.bulkAll (t.map intD) = t.length ∧ PyData.depthAll (t.map intD) = 0 ∧ PyData.showableAll (t.map intD) = true ∧ PyData.hasDictAll (t.map intD) = false ∧ PyData.leavesShortAll 8 (t.map intD) = true
  | [], _ => by simp [PyData.bulkAll, PyData.depthAll, PyData.showableAll, PyData.hasDictAll, PyData.leavesShortAll]
  | x :: t, h => by
    obtain ⟨h1, h2, h3, h4, h5⟩ := ints_tiny (t := t) fun y hy => h y (List.mem_cons_of_mem _ hy)
    have hx := h x List.mem_cons_self
    have e1 : (intD x).showable = true := by
      simp only [intD, PyData.showable, decide_eq_true_eq]
      exact num_log hx
    have e2 : (intD x).leavesShort 8 = true := by
      simp only [intD, PyData.leavesShort, decide_eq_true_eq]
      exact Nat.le_trans (num_len x hx) (by decide)
    simp only [List.map_cons, PyData.bulkAll, PyData.depthAll, PyData.showableAll, PyData.hasDictAll, PyData.leavesShortAll, h1, h2, h3, h4, h5, e1, e2, List.length_cons]
    refine ⟨?_, ?_, rfl, ?_, rfl⟩
    · simp only [intD, PyData.bulk]
      omega
    · simp only [intD, PyData.depth]
      rfl
    · simp only [intD, PyData.hasDict]
      rfl
theorem j_tiny {j : Jn} (h : Jb j) : Tiny (jD j) 7 2 := by
  cases j with
  | none => exact ⟨by simp only [jD, PyData.bulk]; omega, by simp only [jD, PyData.depth]; omega, by simp only [jD, PyData.showable], by simp only [jD, PyData.hasDict], by simp only [jD, PyData.leavesShort]⟩
  | some k =>
    obtain ⟨n, t⟩ := k
    obtain ⟨hn, ht, hx⟩ := h n t rfl
    obtain ⟨h1, h2, h3, h4, h5⟩ := ints_tiny (t := t) fun y hy => Nat.lt_of_lt_of_le (hx y hy) (by decide)
    obtain ⟨g1, g2, g3, g4, g5⟩ := ints_tiny (t := [n]) fun y hy => by rw [List.mem_singleton.mp hy]; exact hn
    simp only [List.map_cons, List.map_nil, PyData.bulkAll, PyData.depthAll, PyData.showableAll, PyData.hasDictAll, PyData.leavesShortAll, Bool.and_true, Bool.or_false] at g1 g2 g3 g4 g5
    refine ⟨?_, ?_, ?_, ?_, ?_⟩
    · simp only [jD, PyData.bulk, PyData.bulkAll, h1, ht]
      simp only [intD, PyData.bulk]
      omega
    · simp only [jD, PyData.depth, PyData.depthAll, h2]
      simp only [intD, PyData.depth]
      omega
    · simp only [jD, PyData.showable, PyData.showableAll, h3, g3]
      rfl
    · simp only [jD, PyData.hasDict, PyData.hasDictAll, h4, g4]
      rfl
    · simp only [jD, PyData.leavesShort, PyData.leavesShortAll, h5, g5]
      rfl
theorem js_tiny : ∀ {b : Blk}, (∀ j ∈ b, Jb j) → PyData.bulkAll (b.map jD) ≤ 8 * b.length ∧ PyData.depthAll (b.map jD) ≤ 2 ∧ PyData.showableAll (b.map jD) = true ∧ PyData.hasDictAll (b.map jD) = false ∧ PyData.leavesShortAll 8 (b.map jD) = true
  | [], _ => by simp [PyData.bulkAll, PyData.depthAll, PyData.showableAll, PyData.hasDictAll, PyData.leavesShortAll]
  | j :: b, h => by
    obtain ⟨h1, h2, h3, h4, h5⟩ := js_tiny (b := b) fun y hy => h y (List.mem_cons_of_mem _ hy)
    obtain ⟨g1, g2, g3, g4, g5⟩ := j_tiny (h j List.mem_cons_self)
    simp only [List.map_cons, PyData.bulkAll, PyData.depthAll, PyData.showableAll, PyData.hasDictAll, PyData.leavesShortAll, h3, h4, h5, g3, g4, g5, List.length_cons]
    exact ⟨by omega, by omega, rfl, rfl, rfl⟩
theorem bs_tiny : ∀ {S : Spc}, (∀ b ∈ S, b.length = 4 ∧ ∀ j ∈ b, Jb j) → PyData.bulkAll (S.map fun b => PyData.tuple (b.map jD)) ≤ 33 * S.length ∧ PyData.depthAll (S.map fun b => PyData.tuple (b.map jD)) ≤ 3 ∧ PyData.showableAll (S.map fun b => PyData.tuple (b.map jD)) = true ∧
    PyData.hasDictAll (S.map fun b => PyData.tuple (b.map jD)) = false ∧ PyData.leavesShortAll 8 (S.map fun b => PyData.tuple (b.map jD)) = true
  | [], _ => by simp [PyData.bulkAll, PyData.depthAll, PyData.showableAll, PyData.hasDictAll, PyData.leavesShortAll]
  | b :: S, h => by
    obtain ⟨h1, h2, h3, h4, h5⟩ := bs_tiny (S := S) fun y hy => h y (List.mem_cons_of_mem _ hy)
    obtain ⟨l4, hj⟩ := h b List.mem_cons_self
    obtain ⟨g1, g2, g3, g4, g5⟩ := js_tiny hj
    simp only [List.map_cons, PyData.bulkAll, PyData.depthAll, PyData.showableAll, PyData.hasDictAll, PyData.leavesShortAll, PyData.bulk, PyData.depth, PyData.showable, PyData.hasDict, PyData.leavesShort, h3, h4, h5, g3, g4, g5, List.length_cons]
    exact ⟨by omega, by omega, rfl, rfl, rfl⟩
theorem shut_tiny {S : Spc} (h : Sb S) : Tiny (shutD S) 1320 4 := by
  obtain ⟨h1, h2, h3, h4, h5⟩ := bs_tiny h.2
  have hl := h.1
  exact ⟨by simp only [shutD, PyData.bulk]; omega, by simp only [shutD, PyData.depth]; omega, by simpa only [shutD, PyData.showable] using h3, by simpa only [shutD, PyData.hasDict] using h4, by simpa only [shutD, PyData.leavesShort] using h5⟩
/-- a mixture is as tiny -/
theorem Tiny.mix {d d' : PyData} {b k : Nat} (h : Tiny d b k) (e : norm d' = norm d) : Tiny d' b k := by
  obtain ⟨a1, a2, a3, a4, a5⟩ := norm_same 8 d
  obtain ⟨b1, b2, b3, b4, b5⟩ := norm_same 8 d'
  rw [e] at b1 b2 b3 b4 b5
  exact ⟨by rw [← b1, a1]; exact h.b, by rw [← b2, a2]; exact h.k, by rw [← b4, a4]; exact h.s, by rw [← b5, a5]; exact h.h, by rw [← b3, a3]; exact h.l⟩
theorem Tiny.shown {d : PyData} {b k : Nat} (h : Tiny d b k) (hb : b ≤ 100000) : d.shown.length ≤ sizeLine := by
  have h1 := PyData.shown_le_bulk 8 (by decide) d h.l
  have h2 := h.b
  have h3 : sizeLine = 16777216 := by decide +kernel
  omega
/-- a space of lists, as data -/
theorem SpAt.dq {H : Hp} {l : Addr} {rs : List V} {S : Spc} (h : SpAt H l rs S) : Dq (fun _ => False) H (.ref l) (.list (S.map fun b => .list (b.map jD))) := by
  have go : ∀ {rs : List V} {S : Spc}, Paired (BAt H) rs S → Dqs (fun _ => False) H rs (S.map fun b => .list (b.map jD)) := by
    intro rs S hp
    induction hp with
    | nil => exact .nil
    | cons r t ih =>
      obtain ⟨p, vs, rfl, h1, h2⟩ := r
      exact .cons (.lst h1 (fun z => z) (jats_dqs h2)) ih
  exact .lst h.l (fun z => z) (go h.b)
theorem Sb.set {S : Spc} (h : Sb S) (b f : Nat) {j : Jn} (hj : Jb j) : Sb (setJ S b f j) := by
  refine ⟨by rw [setJ_len]; exact h.1, fun c hc => ?_⟩
  obtain ⟨i, hi⟩ := List.mem_iff_getElem?.mp hc
  unfold setJ at hi
  rw [List.getElem?_modify] at hi
  cases hs : S[i]? with
  | none =>
    rw [hs] at hi
    cases hi
  | some m =>
    rw [hs] at hi
    obtain ⟨m4, mj⟩ := h.2 m (List.mem_of_getElem? hs)
    have e : (if b = i then List.set m f j else m) = c := Option.some.inj hi
    by_cases hb : b = i
    · rw [if_pos hb] at e
      subst e
      refine ⟨by rw [List.length_set]; exact m4, fun x hx => ?_⟩
      rcases List.mem_or_eq_of_mem_set hx with z | z
      · exact mj x z
      · rw [z]
        exact hj
    · rw [if_neg hb] at e
      subst e
      exact ⟨m4, mj⟩
theorem jb_none : Jb none := fun _ _ e => by cases e
theorem eqv_nil (ns : List Int) : PyData.eqv (.list (ns.map PyData.int)) (.list []) = ns.isEmpty := by
  cases ns with
  | nil => rfl
  | cons x r => rfl
end Bk

namespace Bk
open PySem PySem.Spec PyProof.Rows L2
/-! ### sorted(t), t a tuple of ints -/
section
variable {prog : Program} {w : World} {A : Around} {E : Value → Shared → Prop} {s : Shared}
theorem gather_tuple {l : Addr} {vs : List Value} {Q : List Value → Shared → Prop} (ht : s.heap.IsTuple l vs.toArray)
    (h : Q vs { s with heap := (s.heap.push (seqObj "list" #[] 0)).update s.heap.objs.size (Obj.mapSeq (· ++ vs.toArray)) }) (hz : vs.length ≤ sizeLine) : wpAny (model prog w) A (collect (.ref l)) Q E s := by
  obtain ⟨o, ho, hc, n, hd⟩ := ht
  have ho' := Heap.get?_push_of_some (seqObj "list" #[] 0) ho
  have hn : (s.heap.push (seqObj "list" #[] 0)).get? s.heap.objs.size = some (seqObj "list" #[] 0) := Heap.get?_push_size _ rfl
  unfold collect
  refine wpAny_bind (wpAny_runValue (codeAny_builtin entry_proto_collect' ?_))
  show wpAny _ _ (do again (.builtin "list.__iadd__" ⟨[← newList [], .ref l], []⟩)) _ _ s
  refine wpAny_bind (wpAny_newList (wpAny_pure ⟨Code.quiet_builtin _ (by decide +kernel), codeAny_builtin entry_list_iadd' ?_⟩))
  show wpAny _ _ (Builtin.List.listExtendWith (.ref s.heap.objs.size) (.ref l) (.ref s.heap.objs.size)) _ _ { s with heap := s.heap.push (seqObj "list" #[] 0) }
  unfold Builtin.List.listExtendWith
  refine wpAny_bind (wpAny_typeOf (T := "tuple") ⟨o, ho', hc⟩ ?_)
  rw [if_pos (by simp)]
  refine wpAny_bind (listItems_at ho' hd (wpAny_bind (listItems_at hn rfl ?_)))
  rw [if_neg (by simp)]
  refine wpAny_bind (listUpdate_at hn rfl (wpAny_pure ?_) (Nat.zero_le _) (by
    show (#[] ++ vs.toArray).size ≤ sizeLine + 1
    simp only [Array.size_append, List.size_toArray, List.length_nil]
    omega))
  refine wpAny_bind (wpAny_load (get?_update_seq hn _) ?_)
  have e : ((#[] : Array Value) ++ vs.toArray).toList = vs := by simp
  show wpAny _ _ (pure ((#[] : Array Value) ++ vs.toArray).toList) Q E _
  rw [e]
  exact wpAny_pure h
theorem sort_tuple {l : Addr} {vs : List Value} {ns : List Int} {Q : Value → Shared → Prop} (ht : s.heap.IsTuple l vs.toArray) (hI : IntsAre vs ns) (h64 : vs.length < 64)
    (h : ∀ (out : Array Value) (ns' : List Int), IntsAre out.toList ns' → ns'.Perm ns → ns'.Pairwise (· ≤ ·) → Q (.ref (s.heap.objs.size + 1)) { s with heap := sortedAll s.heap vs out }) : wpAny (model prog w) A (call (.builtin "sorted") [.ref l]) Q E s := by
  refine Calls.call_function_entry kind_sorted plain_sorted entry_sorted (args_sorted1 _) ?_
  unfold Builtin.«sorted»
  have hz : vs.length ≤ sizeLine := small64 h64
  refine wpAny_bind (m := checkCount "sorted" 1 1 _) (wpAny_pure (wpAny_bind (gather_tuple ht (wpAny_bind (wpAny_newList ?_)) hz)))
  have size1 : ((s.heap.push (seqObj "list" #[] 0)).update s.heap.objs.size (Obj.mapSeq (· ++ vs.toArray))).objs.size = s.heap.objs.size + 1 := by rw [Heap.size_update, size_push']
  have at1 : (((s.heap.push (seqObj "list" #[] 0)).update s.heap.objs.size (Obj.mapSeq (· ++ vs.toArray))).push (seqObj "list" vs.toArray 0)).get? (s.heap.objs.size + 1) = some (seqObj "list" vs.toArray 0) := by
    rw [← size1]
    exact Heap.get?_push_size _ rfl
  show wpAny _ _ _ _ _ { s with heap := ((s.heap.push (seqObj "list" #[] 0)).update s.heap.objs.size (Obj.mapSeq (· ++ vs.toArray))).push (seqObj "list" vs.toArray 0) }
  rw [size1]
  exact wpAny_bind (wpAny_holding (wpAny_call_entry slot_list_sort ⟨_, at1, rfl⟩ entry_list_sort (list_sort_tree at1 hI h64 fun out ns' a1 a2 a3 => ⟨_, rfl, wpAny_pure ⟨_, rfl, h out ns' a1 a2 a3⟩⟩) (args_list_sort _)))
end
section
variable {X : Cx} (K : PySem.W.Frag)
def rSortX (K : PySem.W.Frag) : List V → Hp → VK → Prop := fun vs H Q => ∃ (a : Addr) (ns : List Int), vs = [V.ref a] ∧ (SqL K H a (ns.map V.int) ∨ SqT K H a (ns.map V.int)) ∧ ns.length < 64 ∧
  ∀ (ns' : List Int) (p : Addr), ns'.Perm ns → ns'.Pairwise (· ≤ ·) → H p = none → Q (.ref p) (upd H p (.lst (ns'.map V.int)))
theorem kSorted (h : X.K = K) : CallR X (.builtin "sorted") (rSortX K) := by
  subst h
  rintro pins s σ H vs us Q I r ⟨a, ns, rfl, hq, h64, q⟩
  rcases hq with hq | hq
  · exact cr_sorted pins s σ H _ us Q I r ⟨a, ns, rfl, hq, h64, q⟩
  obtain ⟨its, rv, pt, _⟩ := I.tuple hq
  obtain ⟨u, rfl, rx⟩ := vals1 r
  cases rx
  have hi := rv.ints
  refine sort_tuple pt hi (by rw [hi.length]; exact h64) fun out ns' h1 h2 h3 => ?_
  obtain ⟨ep, he⟩ := sortedAll_at s.heap its out
  have hlen : (ns'.map V.int).length ≤ sizeLine := by
    rw [List.length_map, h2.length_eq]
    exact small64 h64
  exact ⟨.ref (s.heap.objs.size + 1), upd H (s.heap.objs.size + 1) (.lst (ns'.map V.int)), I.laid (t' := s.toks) (fun _ _ => sortedAll_old) (Nat.le_succ _) ⟨hlen, out.toList, ep, vals_of_ints h1, he⟩, rfl, q ns' _ h2 h3 (I.hok.fresh (Nat.le_succ _))⟩
end
end Bk

namespace Bk
open PySem PySem.Spec PyProof.Rows L2
local macro_rules | `(tactic| walk_at "g") => `(tactic| (repeat first | refine ⟨_, rfl, ?_⟩ | refine ⟨cpow, ?_⟩ | refine ⟨wideM, ?_⟩ | refine ⟨_, _, rfl, rfl, ?_⟩ | refine ⟨rfl, ?_⟩))
def isIntD : PyData → Bool
  | .int _ => true
  | _ => false
theorem perm_same {a b : List Int} (hp : a.Perm b) (ha : a.Pairwise (· ≤ ·)) (hb : b.Pairwise (· ≤ ·)) : a = b := hp.eq_of_pairwise (fun x y _ _ h1 h2 => Int.le_antisymm h1 h2) ha hb
theorem range_up (m : Nat) : ((List.range m).map fun k : Nat => (k : Int)).Pairwise (· ≤ ·) := by
  rw [List.pairwise_map]
  exact List.pairwise_le_range.imp fun h => by omega
theorem turn_perm : ∀ t ∈ allTurns, t.Perm (List.range 4) := by decide +kernel
theorem intD_map (t : Trn) : t.map intD = (t.map fun c : Nat => (c : Int)).map PyData.int := by
  rw [List.map_map]
  rfl
theorem intV_map (t : Trn) : trnV t = (t.map fun c : Nat => (c : Int)).map V.int := by
  unfold trnV
  rw [List.map_map]
  rfl
/-- the values of data of ints -/
theorem Dqs.ints {N : Addr → Prop} {H : Hp} : ∀ {t : Trn} {vs : List V} {ds : List PyData}, Dqs N H vs ds → norms ds = t.map intD → vs = trnV t
  | [], vs, ds, h, e => by
    obtain rfl := norms_nil_inv e
    cases h
    rfl
  | n :: t, vs, ds, h, e => by
    obtain ⟨d, ds', rfl, e1, e2⟩ := norms_inv (show norms ds = intD n :: t.map intD from e)
    obtain ⟨v, vs', rfl, h1, h2⟩ := h.uncons
    have ev := h1.isInt (i := (n : Int)) e1
    have ih := h2.ints (t := t) e2
    rw [ev, ih]
    rfl
section
variable {P : Program} {w : World} {K : PySem.W.Frag} {mg : Str → Option Value} {base : Heap}
theorem kit_one {d : PyData} {s : String} {b : Bool} (h : ∀ a, a = tyD d → kitB a s = some b) : PySem.W.kitOne K (.type (tyD d)) (.type s) = some b := kit_ty (h _ rfl)
theorem kit_int (d : PyData) : PySem.W.kitOne K (.type (tyD d)) (.type "int") = some (isIntD d || tyD d == "bool") := by
  cases d with
  | none => exact kit_ty (a := "NoneType") (b := "int") (show kitB "NoneType" "int" = some false by decide +kernel)
  | bool b => exact kit_ty (a := "bool") (b := "int") (show kitB "bool" "int" = some true by decide +kernel)
  | int i => exact kit_ty (a := "int") (b := "int") (show kitB "int" "int" = some true by decide +kernel)
  | str x => exact kit_ty (a := "str") (b := "int") (show kitB "str" "int" = some false by decide +kernel)
  | list ds => exact kit_ty (a := "list") (b := "int") (show kitB "list" "int" = some false by decide +kernel)
  | tuple ds => exact kit_ty (a := "tuple") (b := "int") (show kitB "tuple" "int" = some false by decide +kernel)
  | dict k => exact kit_ty (a := "dict") (b := "int") (show kitB "dict" "int" = some false by decide +kernel)
theorem kit_bool (d : PyData) : PySem.W.kitOne K (.type (tyD d)) (.type "bool") = some (tyD d == "bool") := by
  cases d with
  | none => exact kit_ty (a := "NoneType") (b := "bool") (show kitB "NoneType" "bool" = some false by decide +kernel)
  | bool b => exact kit_ty (a := "bool") (b := "bool") (show kitB "bool" "bool" = some true by decide +kernel)
  | int i => exact kit_ty (a := "int") (b := "bool") (show kitB "int" "bool" = some false by decide +kernel)
  | str x => exact kit_ty (a := "str") (b := "bool") (show kitB "str" "bool" = some false by decide +kernel)
  | list ds => exact kit_ty (a := "list") (b := "bool") (show kitB "list" "bool" = some false by decide +kernel)
  | tuple ds => exact kit_ty (a := "tuple") (b := "bool") (show kitB "tuple" "bool" = some false by decide +kernel)
  | dict k => exact kit_ty (a := "dict") (b := "bool") (show kitB "dict" "bool" = some false by decide +kernel)
theorem whole_b (d : PyData) : ((isIntD d || tyD d == "bool") = true → (!(tyD d == "bool")) = isIntD d) ∧ ((isIntD d || tyD d == "bool") = false → isIntD d = false) := by
  cases d <;> simp [isIntD, tyD]
/-! ### is_whole, is_listed, is_below, is_order, is_turn -/
abbrev sis_whole : Stmt := topS 20
abbrev Nis_whole : List Str := ["thing"]
theorem scis_whole : FnScope Nis_whole ["thing"] (defScope sis_whole) := ⟨rfl, rfl, rfl, by decide +kernel, rfl, by decide +kernel, by decide +kernel⟩
def spWhole : Sp := fun vs H Q _ => ∃ (N : Addr → Prop) (v : V) (d : PyData), vs = [v] ∧ Dq N H v d ∧ Q (.bl (isIntD d)) H
theorem okis_whole {f : Addr} {fd : FuncData} (F : Fun K "is_whole" "is_whole" sis_whole f fd) (m_isinstance : mg "isinstance" = none) (m_int : mg "int" = none) (m_bool : mg "bool" = none) : FnOk P w K mg base CX0 1 f fd ["thing"] spWhole := by
  refine F.ok scis_whole (fun vs H Q E h => ?_) (fun cdv A outer s H vs Q E hr h => ?_)
  · obtain ⟨N, v, d, rfl, _⟩ := h
    rfl
  · obtain ⟨N, v, d, rfl, hd, q⟩ := h
    have nd := scis_whole.nd
    refine ⟨_, (pss_one (ps_ret (pe_and (pe_callB (kIsi K rfl) (by rfl) m_isinstance (by decide +kernel) (pa_cons (pv 0) (pa_cons (pe_bltn (v := .ty "int") (by rfl) m_int (by decide +kernel) rfl) pa_nil))) (pe_one (pe_not (pe_callB (kIsi K rfl) (by rfl) m_isinstance (by decide +kernel) (pa_cons (pv 0) (pa_cons (pe_bltn (v := .ty "bool") (by rfl) m_bool (by decide +kernel) rfl) pa_nil)))))))), ?_⟩
    refine ⟨v, rfl, v, .ty "int", _, .type "int", _, rfl, .ty _, hd.ty, kit_int d, _, rfl, ?_⟩
    obtain ⟨w1, w2⟩ := whole_b d
    refine ite2 (fun e => ?_) (fun e => ?_)
    · refine ⟨v, rfl, v, .ty "bool", _, .type "bool", _, rfl, .ty _, hd.ty, kit_bool d, _, rfl, ?_⟩
      rw [w1 e]
      exact q
    · rw [w2 (by simpa using e)] at q
      exact q
abbrev sis_listed : Stmt := topS 21
abbrev Nis_listed : List Str := ["thing"]
theorem scis_listed : FnScope Nis_listed ["thing"] (defScope sis_listed) := ⟨rfl, rfl, rfl, by decide +kernel, rfl, by decide +kernel, by decide +kernel⟩
def spListed : Sp := fun vs H Q _ => ∃ (N : Addr → Prop) (v : V) (d : PyData), vs = [v] ∧ Dq N H v d ∧ ∀ H', Same H H' → Q (.bl (isSeqD d)) H'
theorem okis_listed {f : Addr} {fd : FuncData} (F : Fun K "is_listed" "is_listed" sis_listed f fd) (m_isinstance : mg "isinstance" = none) (m_list : mg "list" = none) (m_tuple : mg "tuple" = none) : FnOk P w K mg base CX0 1 f fd ["thing"] spListed := by
  refine F.ok scis_listed (fun vs H Q E h => ?_) (fun cdv A outer s H vs Q E hr h => ?_)
  · obtain ⟨N, v, d, rfl, _⟩ := h
    rfl
  · obtain ⟨N, v, d, rfl, hd, q⟩ := h
    have nd := scis_listed.nd
    refine ⟨_, (pss_one (ps_ret (pe_callB (kIsiT K rfl) (by rfl) m_isinstance (by decide +kernel) (pa_cons (pv 0) (pa_cons (pe_tup (pa_cons (pe_bltn (v := .ty "list") (by rfl) m_list (by decide +kernel) rfl) (pa_cons (pe_bltn (v := .ty "tuple") (by rfl) m_tuple (by decide +kernel) rfl) pa_nil))) pa_nil))))), ?_⟩
    refine ⟨v, rfl, Nat.le_of_lt (small1000 (by show 2 ≤ 1000; decide)), fun tp ntp => ?_⟩
    have s1 : Same H (upd H tp (.tup [.ty "list", .ty "tuple"])) := same_new ntp
    exact ⟨v, tp, _, _, _, isSeqD d, rfl, upd_same, .cons (.ty _) (.cons (.ty _) .nil), (hd.same s1).ty, kit_seq d, q _ s1⟩
abbrev sis_below : Stmt := topS 22
abbrev Nis_below : List Str := ["thing", "many"]
theorem scis_below : FnScope Nis_below ["thing", "many"] (defScope sis_below) := ⟨rfl, rfl, rfl, by decide +kernel, rfl, by decide +kernel, by decide +kernel⟩
def spBelow : Sp := fun vs H Q _ => ∃ (i : Int) (m : Nat), vs = [.int i, intV m] ∧ Q (.bl (decide (0 ≤ i) && decide (i < m))) H
theorem okis_below {f fW : Addr} {fd fdW : FuncData} (F : Fun K "is_below" "is_below" sis_below f fd) (Fis_whole : Fun K "is_whole" "is_whole" sis_whole fW fdW) (gis_whole : mg "is_whole" = some (.ref fW)) (bis_whole : Binds K fdW ["thing"] [])
    (Gis_whole : FnOk P w K mg base CX0 1 fW fdW ["thing"] spWhole) : FnOk P w K mg base CX0 2 f fd ["thing", "many"] spBelow := by
  refine F.ok scis_below (fun vs H Q E h => ?_) (fun cdv A outer s H vs Q E hr h => ?_)
  · obtain ⟨i, m, rfl, _⟩ := h
    rfl
  · obtain ⟨i, m, rfl, q⟩ := h
    have nd := scis_below.nd
    refine ⟨_, (pss_one (ps_ret (pe_and (pe_call Gis_whole (hr.mono (by first | decide | omega)) (by rfl) gis_whole Fis_whole.kp bis_whole .nil pass0 (pa_cons (pv 0) pa_nil)) (pe_one (pe_chain op_le op_lt pe_int (pv 0) (pv 1)))))), ?_⟩
    refine ⟨.int i, rfl, fun _ => False, .int i, .int i, rfl, .int i, _, rfl, iteT ?_⟩
    refine ⟨.int i, rfl, _, _, rfl, rfl, _, rfl, ite2 (fun e => ?_) (fun e => ?_)⟩
    · refine ⟨intV m, rfl, _, _, rfl, rfl, ?_⟩
      rw [e, Bool.true_and] at q
      exact q
    · have e' : decide ((0 : Int) ≤ i) = false := by simpa using e
      rw [e', Bool.false_and] at q
      exact q
abbrev sis_order : Stmt := topS 23
abbrev Nis_order : List Str := ["thing", "many", "part"]
theorem scis_order : FnScope Nis_order ["thing", "many"] (defScope sis_order) := ⟨rfl, rfl, rfl, by decide +kernel, rfl, by decide +kernel, by decide +kernel⟩
def spOrder : Sp := fun vs H Q _ => ∃ (N : Addr → Prop) (v : V) (d : PyData) (t : Trn) (m : Nat), vs = [v, intV m] ∧ Dq N H v d ∧ norm d = .list (t.map intD) ∧ t.Perm (List.range m) ∧ m ≤ 60 ∧ ∀ H', Same H H' → Q (.bl true) H'
theorem okis_order {f fW fL : Addr} {fd fdW fdL : FuncData} (F : Fun K "is_order" "is_order" sis_order f fd) (Fis_whole : Fun K "is_whole" "is_whole" sis_whole fW fdW) (gis_whole : mg "is_whole" = some (.ref fW)) (bis_whole : Binds K fdW ["thing"] [])
    (Gis_whole : FnOk P w K mg base CX0 1 fW fdW ["thing"] spWhole) (Fis_listed : Fun K "is_listed" "is_listed" sis_listed fL fdL) (gis_listed : mg "is_listed" = some (.ref fL)) (bis_listed : Binds K fdL ["thing"] []) (Gis_listed : FnOk P w K mg base CX0 1 fL fdL ["thing"] spListed)
    (m_all : mg "all" = none) (m_sorted : mg "sorted" = none) (m_list : mg "list" = none) (m_range : mg "range" = none) : FnOk P w K mg base CX0 2 f fd ["thing", "many"] spOrder := by
  refine F.ok scis_order (fun vs H Q E h => ?_) (fun cdv A outer s H vs Q E hr h => ?_)
  · obtain ⟨N, v, d, t, m, rfl, _⟩ := h
    rfl
  · obtain ⟨N, v, d, t, m, rfl, hd, hn, hp, hm, q⟩ := h
    have nd := scis_order.nd
    refine ⟨_, (pss_one (ps_ret (pe_and (pe_call Gis_listed (hr.mono (by first | decide | omega)) (by rfl) gis_listed Fis_listed.kp bis_listed .nil pass0 (pa_cons (pv 0) pa_nil)) (pe_and (pe_callB (kAll K rfl rfl) (by rfl) m_all (by decide +kernel) (pa_cons (pe_lc (own := [("part", 2)]) (g := gName 2) (tt := tYes) rfl nd (kPiS K rfl (pv 0)) (blkOk_by (own := [("part", 2)]) (N := Nis_order) (sc := defScope sis_order) (by decide +kernel)) (fun _ _ _ _ _ => (pg_name (i := 2) nd rfl (Or.inl rfl))) (fun _ _ _ _ _ => pts_nil) (fun _ _ _ _ _ => (pe_call Gis_whole (hr.mono (by first | decide | omega)) (by rfl) gis_whole Fis_whole.kp bis_whole .nil pass0 (pa_cons (pv 2) pa_nil)))) pa_nil)) (pe_one (pe_cmpR (kEqD K rfl hr.units) (pe_callB (kSorted K rfl) (by rfl) m_sorted (by decide +kernel) (pa_cons (pv 0) pa_nil)) (pe_listRg rfl (by rfl) m_list (prg_1 (by rfl) m_range (pv 1))) (nomark _))))))), ?_⟩
    have sq : isSeqD d = true := by
      cases d <;> first | rfl | (simp only [norm] at hn; cases hn)
    have lt : t.length = m := by rw [hp.length_eq, List.length_range]
    refine ⟨v, rfl, N, v, d, rfl, hd, fun H1 s1 => ?_⟩
    rw [sq]
    refine ⟨_, rfl, iteT ?_⟩
    obtain ⟨a, xs, ds, rfl, hq, _, hds, en⟩ := (hd.same s1).seq (K := K) hn
    have ex := hds.ints en
    refine ⟨.ref a, rfl, a, xs, rfl, hq, fun J C hJ hC => ?_⟩
    intro D nD
    refine lc_seq (xs := xs) hJ (fun i H2 => H2 = upd H1 D (.lst ((List.replicate i true).map V.bl))) rfl ?_ ?_ ?_
    · rintro i H2 rfl
      exact SeqIt.mono K hJ (fun o e => same_new nD _ _ e) hC
    · rintro i x H2 hx rfl
      have hi : i < m := by
        have := (List.getElem?_eq_some_iff.mp hx).1
        rw [ex] at this
        unfold trnV at this
        rw [List.length_map] at this
        omega
      rw [ex] at hx
      unfold trnV at hx
      rw [List.getElem?_map] at hx
      cases hc : t[i]? with
      | none =>
        rw [hc] at hx
        cases hx
      | some c =>
        rw [hc] at hx
        have e2 : intV c = x := Option.some.inj hx
        subst e2
        refine ⟨rfl, intV c, rfl, fun _ => False, intV c, .int (c : Int), rfl, .int _, _, upd_same, small1000 (by rw [List.length_map, List.length_replicate]; omega), ?_⟩
        rw [upd_upd, List.replicate_succ', List.map_append]
        rfl
    · rintro H2 rfl
      refine ⟨D, _, rfl, .inl (.inl upd_same), _, rfl, ?_⟩
      have eall : (List.replicate xs.length true).all id = true := by
        rw [List.all_eq_true]
        intro y hy
        rw [List.eq_of_mem_replicate hy]
        rfl
      rw [eall]
      have s2 : Same H1 (upd H1 D (.lst ((List.replicate xs.length true).map V.bl))) := same_new nD
      generalize upd H1 D (.lst ((List.replicate xs.length true).map V.bl)) = H2 at s2 ⊢
      refine iteT ?_
      rw [ex, intV_map] at hq
      refine ⟨.ref a, rfl, a, _, rfl, hq.imp (fun z => s2.seq z) (fun z => s2.sqt z), by rw [List.length_map]; omega, fun ns p p1 p2 np => ?_⟩
      have s3 : Same H2 (upd H2 p (.lst (ns.map V.int))) := same_new np
      have h3 : (upd H2 p (.lst (ns.map V.int))) p = some (.lst (ns.map V.int)) := upd_same
      generalize upd H2 p (.lst (ns.map V.int)) = H3 at s3 h3 ⊢
      refine ⟨intV m, rfl, m, rfl, .of_le (by decide) (by omega) (by decide) (by omega), fun q2 nq2 => ?_⟩
      have er : rgV 0 (m : Int) = ((List.range m).map fun k : Nat => (k : Int)).map V.int := by
        unfold rgV
        rw [show ((m : Int) - 0).toNat = m by omega, List.map_map]
        exact List.map_congr_left fun x _ => by
          show V.int (0 + (x : Int)) = V.int (x : Int)
          rw [Int.zero_add]
      rw [er]
      have s4 : Same H3 (upd H3 q2 (.lst (((List.range m).map fun k : Nat => (k : Int)).map V.int))) := same_new nq2
      have en2 : ns = (List.range m).map fun k : Nat => (k : Int) := perm_same (p1.trans (hp.map _)) p2 (range_up m)
      refine ⟨.list (ns.map PyData.int), .list (((List.range m).map fun k : Nat => (k : Int)).map PyData.int), .lst (.inl (.inl (s4 _ _ h3))) (dp_ints _), .lst (.inl (.inl upd_same)) (dp_ints _), ints_shaped _, ints_shaped _, ?_⟩
      rw [en2, SeqAt.eqv_refl _ (by have := ints_lay ((List.range m).map fun k : Nat => (k : Int)); simp only [PyData.canLay0]; exact this.1)]
      exact q _ (((s1.trans s2).trans s3).trans s4)
abbrev sis_turn : Stmt := topS 24
abbrev Nis_turn : List Str := ["thing"]
theorem scis_turn : FnScope Nis_turn ["thing"] (defScope sis_turn) := ⟨rfl, rfl, rfl, by decide +kernel, rfl, by decide +kernel, by decide +kernel⟩
def spTurn : Sp := fun vs H Q _ => ∃ (N : Addr → Prop) (v : V) (d : PyData) (t : Trn), vs = [v] ∧ Dq N H v d ∧ norm d = .list (t.map intD) ∧ t ∈ allTurns ∧ ∀ H', Same H H' → Q (.bl true) H'
theorem okis_turn {f fO : Addr} {fd fdO : FuncData} (F : Fun K "is_turn" "is_turn" sis_turn f fd) (Fis_order : Fun K "is_order" "is_order" sis_order fO fdO) (gis_order : mg "is_order" = some (.ref fO)) (bis_order : Binds K fdO ["thing", "many"] [])
    (Gis_order : FnOk P w K mg base CX0 2 fO fdO ["thing", "many"] spOrder) : FnOk P w K mg base CX0 3 f fd ["thing"] spTurn := by
  refine F.ok scis_turn (fun vs H Q E h => ?_) (fun cdv A outer s H vs Q E hr h => ?_)
  · obtain ⟨N, v, d, t, rfl, _⟩ := h
    rfl
  · obtain ⟨N, v, d, t, rfl, hd, hn, ht, q⟩ := h
    have nd := scis_turn.nd
    refine ⟨_, (pss_one (ps_ret (pe_call Gis_order (hr.mono (by first | decide | omega)) (by rfl) gis_order Fis_order.kp bis_order .nil pass0 (pa_cons (pv 0) (pa_cons pe_int pa_nil))))), ?_⟩
    exact ⟨v, rfl, N, v, d, t, 4, rfl, hd, hn, turn_perm t ht, by decide, q⟩
/-! ### contrary -/
abbrev scontrary : Stmt := topS 25
abbrev Ncontrary : List Str := ["turn", "corner"]
theorem sccontrary : FnScope Ncontrary ["turn"] (defScope scontrary) := ⟨rfl, rfl, rfl, by decide +kernel, rfl, by decide +kernel, by decide +kernel⟩
theorem okcontrary {f : Addr} {fd : FuncData} (F : Fun K "contrary" "contrary" scontrary f fd) (m_range : mg "range" = none) (m_tuple : mg "tuple" = none) : FnOk P w K mg base CX0 1 f fd ["turn"] spBack := by
  refine F.ok sccontrary (fun vs H Q E h => ?_) (fun cdv A outer s H vs Q E hr h => ?_)
  · obtain ⟨v, t, rfl, _⟩ := h
    rfl
  · obtain ⟨v, t, rfl, ⟨p, rfl, hp⟩, ht, q⟩ := h
    have nd := sccontrary.nd
    refine ⟨_, (pss_one (ps_ret (pe_callTy (kTupleF K rfl) (by rfl) m_tuple (by decide +kernel) (pa_cons (pe_lc (own := [("corner", 1)]) (g := gName 1) (tt := tYes) rfl nd (pi_range1 (by rfl) m_range (pa_cons pe_int pa_nil)) (blkOk_by (own := [("corner", 1)]) (N := Ncontrary) (sc := defScope scontrary) (by decide +kernel)) (fun _ _ _ _ _ => (pg_name (i := 1) nd rfl (Or.inl rfl))) (fun _ _ _ _ _ => pts_nil) (fun _ _ _ _ _ => (pe_bmF PySem.F.plainAttrs_tuple PySem.F.slot_tuple_index PySem.F.type_tuple_index (kTupIx K rfl) (pv 0) (pa_cons (pv 1) pa_nil)))) pa_nil)))), ?_⟩
    refine ⟨4, rfl, by decide, by decide, fun D nD => ?_⟩
    refine lc_range (lo := 0) (n := 4) (fun i H2 => H2 = upd H D (.lst (((List.range i).map fun c => t.idxOf c).map intV))) rfl ?_ ?_
    · rintro c H2 hc rfl
      rw [Int.zero_add]
      refine ⟨rfl, ?_⟩
      refine ⟨.ref p, rfl, ⟨p, _, rfl, hp.mono (same_new nD).tups⟩, ?_⟩
      walk_at "g"
      have t4 := turns4 t ht
      have hm : (c : Int) ∈ t.map fun c : Nat => (c : Int) := List.mem_map_of_mem (List.mem_of_getElem? (t4.2.2.2.1 c hc))
      refine ⟨p, t.map fun c : Nat => (c : Int), c, rfl, rfl, ?_, hm, ?_⟩
      · rw [← intV_map]
        exact (hp.mono (same_new nD).tups).sqt
      rw [idx_int]
      refine ⟨_, upd_same, small1000 (by rw [List.length_map, List.length_map, List.length_range]; omega), ?_⟩
      rw [upd_upd, List.range_succ, List.map_append, List.map_append]
      rfl
    · rintro H2 rfl
      refine ⟨D, _, rfl, .inl ⟨.inl (.inl upd_same), fun p2 o2 np2 d2 => ?_⟩⟩
      exact q _ p2 ((same_new nD).trans (same_new np2)) ((same_new nD).free np2) ⟨p2, rfl, FT.new d2⟩
end
end Bk

namespace Bk
open PySem PySem.Spec PyProof.Rows L2
local macro_rules | `(tactic| walk_at "g") => `(tactic| (repeat first | refine ⟨_, rfl, ?_⟩ | refine ⟨cpow, ?_⟩ | refine ⟨wideM, ?_⟩ | refine ⟨_, _, rfl, rfl, ?_⟩ | refine ⟨rfl, ?_⟩))
def Jok (m : Nat) (j : Jn) : Prop := ∀ n t, j = some (n, t) → n < m ∧ t ∈ allTurns
/-- blocks and spaces of tuples, as they stand -/
def BT (H : Hp) (v : V) (b : Blk) : Prop := ∃ p vs, v = .ref p ∧ FT H p vs ∧ Paired (JAt H) vs b
def ST (H : Hp) (v : V) (S : Spc) : Prop := ∃ p rs, v = .ref p ∧ FT H p rs ∧ Paired (BT H) rs S
theorem BT.mono {H H' : Hp} {v : V} {b : Blk} (h : BT H v b) (m : Tups H H') : BT H' v b := by
  obtain ⟨p, vs, e, h1, h2⟩ := h
  exact ⟨p, vs, e, h1.mono m, pmono h2 fun _ _ z => z.mono m⟩
theorem ST.mono {H H' : Hp} {v : V} {S : Spc} (h : ST H v S) (m : Tups H H') : ST H' v S := by
  obtain ⟨p, vs, e, h1, h2⟩ := h
  exact ⟨p, vs, e, h1.mono m, pmono h2 fun _ _ z => z.mono m⟩
theorem BT.dq {N : Addr → Prop} {H : Hp} {v : V} {b : Blk} (h : BT H v b) : Dq N H v (.tuple (b.map jD)) := by
  obtain ⟨p, vs, rfl, h1, h2⟩ := h
  exact .tup h1 (jats_dqs h2)
theorem bts_dqs {N : Addr → Prop} {H : Hp} : ∀ {rs : List V} {S : Spc}, Paired (BT H) rs S → Dqs N H rs (S.map fun b => .tuple (b.map jD))
  | _, _, .nil => .nil
  | _, _, .cons r t => .cons r.dq (bts_dqs t)
theorem ST.dq {N : Addr → Prop} {H : Hp} {v : V} {S : Spc} (h : ST H v S) : Dq N H v (shutD S) := by
  obtain ⟨p, vs, rfl, h1, h2⟩ := h
  exact .tup h1 (bts_dqs h2)
theorem Good.jok {S : Spc} (h : Good S) {b : Blk} (hb : b ∈ S) : ∀ j ∈ b, Jok S.length j := fun j hj n t e => by
  subst e
  obtain ⟨i, hi⟩ := List.mem_iff_getElem?.mp hb
  obtain ⟨f, hf⟩ := List.mem_iff_getElem?.mp hj
  have g : getJ S i f = some (some (n, t)) := by
    unfold getJ
    rw [hi]
    exact hf
  exact ⟨h.lt g, (h.both _ _ _ _ g).1⟩
theorem ST.face {H : Hp} {v : V} {S : Spc} (h : ST H v S) {b f : Nat} {j : Jn} (e : getJ S b f = some j) : ∃ p rs q vs x, v = .ref p ∧ FT H p rs ∧ rs[b]? = some (.ref q) ∧ FT H q vs ∧ vs[f]? = some x ∧ JAt H x j := by
  obtain ⟨p, rs, rfl, h1, h2⟩ := h
  unfold getJ at e
  cases hs : S[b]? with
  | none =>
    rw [hs] at e
    cases e
  | some y =>
    rw [hs] at e
    obtain ⟨x, g1, q, vs, rfl, g3, g4⟩ := pget h2 hs
    obtain ⟨z, g5, g6⟩ := pget g4 (show y[f]? = some j from e)
    exact ⟨p, rs, q, vs, z, rfl, h1, g1, g3, g5, g6⟩
theorem jD_lay (j : Jn) : (jD j).canLay0 = true ∧ (jD j).depth ≤ 3 := by
  cases j with
  | none => simp [jD, PyData.canLay0, PyData.depth]
  | some k =>
    obtain ⟨n, t⟩ := k
    have h : PyData.canLayAll0 (t.map intD) = true ∧ PyData.depthAll (t.map intD) ≤ 1 := by
      rw [intD_map]
      exact ints_lay _
    have h2 := h.2
    have e : PyData.depth (intD n) = 0 := by simp only [intD, PyData.depth]
    have e2 : PyData.canLay0 (intD n) = true := by simp only [intD, PyData.canLay0]
    constructor
    · simp only [jD, PyData.canLay0, PyData.canLayAll0, e2, h.1, Bool.and_self]
    · have e3 : (jD (some (n, t))).depth = PyData.depth (.tuple [intD n, .tuple (t.map intD)]) := rfl
      rw [e3]
      simp only [PyData.depth, PyData.depthAll, e]
      generalize PyData.depthAll (t.map intD) = z at h2 ⊢
      omega
section
variable {P : Program} {w : World} {K : PySem.W.Frag} {mg : Str → Option Value} {base : Heap}
/-! ### _joining_of -/
abbrev s_joining_of : Stmt := topS 29
abbrev N_joining_of : List Str := ["joining", "many", "other", "turn"]
theorem sc_joining_of : FnScope N_joining_of ["joining", "many"] (defScope s_joining_of) := ⟨rfl, rfl, rfl, by decide +kernel, rfl, by decide +kernel, by decide +kernel⟩
def spJoining : Sp := fun vs H Q _ => ∃ (N : Addr → Prop) (v : V) (d : PyData) (j : Jn) (m : Nat), vs = [v, intV m] ∧ Dq N H v d ∧ norm d = nJ j ∧ Jok m j ∧ ∀ H' v', Same H H' → JAt H' v' j → Q v' H'
theorem ok_joining_of {f fL fB fT : Addr} {fd fdL fdB fdT : FuncData} (F : Fun K "_joining_of" "_joining_of" s_joining_of f fd) (Fis_listed : Fun K "is_listed" "is_listed" sis_listed fL fdL) (gis_listed : mg "is_listed" = some (.ref fL)) (bis_listed : Binds K fdL ["thing"] []) (Gis_listed : FnOk P w K mg base CX0 1 fL fdL ["thing"] spListed)
    (Fis_below : Fun K "is_below" "is_below" sis_below fB fdB) (gis_below : mg "is_below" = some (.ref fB)) (bis_below : Binds K fdB ["thing", "many"] []) (Gis_below : FnOk P w K mg base CX0 2 fB fdB ["thing", "many"] spBelow)
    (Fis_turn : Fun K "is_turn" "is_turn" sis_turn fT fdT) (gis_turn : mg "is_turn" = some (.ref fT)) (bis_turn : Binds K fdT ["thing"] []) (Gis_turn : FnOk P w K mg base CX0 3 fT fdT ["thing"] spTurn)
    (m_len : mg "len" = none) (m_tuple : mg "tuple" = none) : FnOk P w K mg base CX0 4 f fd ["joining", "many"] spJoining := by
  refine F.ok sc_joining_of (fun vs H Q E h => ?_) (fun cdv A outer s H vs Q E hr h => ?_)
  · obtain ⟨N, v, d, j, m, rfl, _⟩ := h
    rfl
  · obtain ⟨N, v, d, j, m, rfl, hd, hn, hj, q⟩ := h
    have nd := sc_joining_of.nd
    refine ⟨_, (pss_cons (ps_if (pt_cmpR op_isN (pv 0) pe_non (nomark _)) (pss_one (ps_ret pe_non)) pss_nil)
      (pss_cons (ps_if (pw_or (pt_not (pt_val (pe_call Gis_listed (hr.mono (by first | decide | omega)) (by rfl) gis_listed Fis_listed.kp bis_listed .nil pass0 (pa_cons (pv 0) pa_nil)))) (pw_or1 (pt_cmpR op_ne (pe_callB (kLen K rfl) (by rfl) m_len (by decide +kernel) (pa_cons (pv 0) pa_nil)) pe_int (nomark _)))).pt (pss_one ps_never) pss_nil)
      (pss_cons (ps_asg (pv 0) (kPgS K rfl (pg_tup (n := 2) rfl (pgs_cons (pg_name (i := 2) nd rfl (.inl rfl)) (pgs_cons (pg_name (i := 3) nd rfl (.inl rfl)) pgs_nil))) (pg_unl (n := 2) rfl (pgs_cons (pg_name (i := 2) nd rfl (.inl rfl)) (pgs_cons (pg_name (i := 3) nd rfl (.inl rfl)) pgs_nil)))))
      (pss_cons (ps_if (pw_or (pt_not (pt_val (pe_call Gis_below (hr.mono (by first | decide | omega)) (by rfl) gis_below Fis_below.kp bis_below .nil pass0 (pa_cons (pv 2) (pa_cons (pv 1) pa_nil))))) (pw_or1 (pt_not (pt_val (pe_call Gis_turn (hr.mono (by first | decide | omega)) (by rfl) gis_turn Fis_turn.kp bis_turn .nil pass0 (pa_cons (pv 3) pa_nil)))))).pt (pss_one ps_never) pss_nil)
      (pss_one (ps_ret (pe_tupF (pa_cons (pv 2) (pa_cons (pe_callTy (kTupleF K rfl) (by rfl) m_tuple (by decide +kernel) (pa_cons (pv 3) pa_nil)) pa_nil))))))))), ?_⟩
    refine ⟨v, rfl, rfl, _, rfl, ?_⟩
    cases j with
    | none =>
      rw [nJ_none] at hn
      have ev := hd.isNon hn
      subst ev
      exact iteT (q H .non (Same.refl H) rfl)
    | some k =>
      obtain ⟨n, t⟩ := k
      obtain ⟨hnm, ht⟩ := hj n t rfl
      rw [nJ_some] at hn
      have sq : isSeqD d = true := by
        cases d <;> first | rfl | (simp only [norm] at hn; cases hn)
      obtain ⟨a, xs, ds, rfl, hq, _, hds, en⟩ := hd.seq (K := K) hn
      obtain ⟨v1, v2, d1, d2, rfl, h1, en1, h2, en2⟩ := hds.pair en
      have e1 := h1.isInt (i := (n : Int)) en1
      subst e1
      refine iteF ?_
      refine ⟨.ref a, rfl, N, .ref a, d, rfl, hd, fun H1 s1 => ?_⟩
      rw [sq]
      have hq1 : SqL K H1 a [V.int (n : Int), v2] ∨ SqT K H1 a [V.int (n : Int), v2] := hq.imp (fun z => s1.seq z) (fun z => s1.sqt z)
      refine ⟨_, rfl, iteF ⟨.ref a, rfl, a, _, rfl, hq1, rfl, _, rfl, iteNS rfl ?_⟩⟩
      refine ⟨.ref a, rfl, a, _, rfl, hq1, rfl, _, _, rfl, _, _, rfl, rfl, ?_⟩
      refine ⟨.int (n : Int), rfl, intV m, rfl, (n : Int), m, rfl, ?_⟩
      rw [decide_eq_true (show (0 : Int) ≤ (n : Int) by omega), decide_eq_true (show (n : Int) < (m : Int) by omega)]
      refine ⟨_, rfl, iteF ⟨v2, rfl, N, v2, d2, t, rfl, h2.same s1, en2, ht, fun H2 s2 => ⟨_, rfl, iteF ?_⟩⟩⟩
      have h22 := h2.same (s1.trans s2)
      obtain ⟨a2, xs2, ds2, rfl, hq2, _, hds2, en3⟩ := h22.seq (K := K) en2
      have ex := hds2.ints en3
      subst ex
      have fin : ∀ H3 p2, Same H2 H3 → FT H3 p2 (trnV t) → [V.int (n : Int), V.ref p2].length ≤ sizeLine ∧ ∀ p o, H3 p = none → o.dict = none → Q (.ref p) (upd H3 p (.frz o (.tup [V.int (n : Int), V.ref p2]))) := fun H3 p2 s3 f3 => by
        refine ⟨Nat.le_of_lt (small1000 (by show 2 ≤ 1000; decide)), fun p o np dn => ?_⟩
        exact q _ _ (((s1.trans s2).trans s3).trans (same_new np)) ⟨p, p2, rfl, FT.new dn, f3.mono (same_new np).tups⟩
      refine ⟨.int (n : Int), rfl, .ref a2, rfl, a2, trnV t, rfl, ?_⟩
      cases h22 with
      | lst g1 g2 g3 =>
        have e := g3.ints (by simpa only [norm, PyData.list.injEq] using en2)
        subst e
        exact .inl ⟨.inl (.inl g1), fun p2 o2 np2 dn2 => fin _ p2 (same_new np2) (FT.new dn2)⟩
      | tup g1 g2 =>
        have e := g2.ints (by simpa only [norm, PyData.list.injEq] using en2)
        subst e
        exact .inr ⟨g1.sqt, fin _ a2 (Same.refl _) g1⟩
/-! ### _block_of -/
abbrev s_block_of : Stmt := topS 28
abbrev N_block_of : List Str := ["faces", "many", "joining"]
theorem sc_block_of : FnScope N_block_of ["faces", "many"] (defScope s_block_of) := ⟨rfl, rfl, rfl, by decide +kernel, rfl, by decide +kernel, by decide +kernel⟩
def spBlockOf : Sp := fun vs H Q _ => ∃ (N : Addr → Prop) (v : V) (d : PyData) (b : Blk) (m : Nat), vs = [v, intV m] ∧ Dq N H v d ∧ norm d = nB b ∧ b.length = 4 ∧ (∀ j ∈ b, Jok m j) ∧ ∀ H' v', Same H H' → BT H' v' b → Q v' H'
theorem ok_block_of {f fL fJ : Addr} {fd fdL fdJ : FuncData} (F : Fun K "_block_of" "_block_of" s_block_of f fd) (Fis_listed : Fun K "is_listed" "is_listed" sis_listed fL fdL) (gis_listed : mg "is_listed" = some (.ref fL)) (bis_listed : Binds K fdL ["thing"] []) (Gis_listed : FnOk P w K mg base CX0 1 fL fdL ["thing"] spListed)
    (F_joining_of : Fun K "_joining_of" "_joining_of" s_joining_of fJ fdJ) (g_joining_of : mg "_joining_of" = some (.ref fJ)) (b_joining_of : Binds K fdJ ["joining", "many"] []) (G_joining_of : FnOk P w K mg base CX0 4 fJ fdJ ["joining", "many"] spJoining)
    (m_len : mg "len" = none) (m_tuple : mg "tuple" = none) : FnOk P w K mg base CX0 5 f fd ["faces", "many"] spBlockOf := by
  refine F.ok sc_block_of (fun vs H Q E h => ?_) (fun cdv A outer s H vs Q E hr h => ?_)
  · obtain ⟨N, v, d, b, m, rfl, _⟩ := h
    rfl
  · obtain ⟨N, v, d, b, m, rfl, hd, hn, h4, hj, q⟩ := h
    have nd := sc_block_of.nd
    refine ⟨_, (pss_cons (ps_if (pw_or (pt_not (pt_val (pe_call Gis_listed (hr.mono (by first | decide | omega)) (by rfl) gis_listed Fis_listed.kp bis_listed .nil pass0 (pa_cons (pv 0) pa_nil)))) (pw_or1 (pt_cmpR op_ne (pe_callB (kLen K rfl) (by rfl) m_len (by decide +kernel) (pa_cons (pv 0) pa_nil)) pe_int (nomark _)))).pt (pss_one ps_never) pss_nil)
      (pss_one (ps_ret (pe_callTy (kTupleF K rfl) (by rfl) m_tuple (by decide +kernel) (pa_cons (pe_lc (own := [("joining", 2)]) (g := gName 2) (tt := tYes) rfl nd (kPiS K rfl (pv 0)) (blkOk_by (own := [("joining", 2)]) (N := N_block_of) (sc := defScope s_block_of) (by decide +kernel)) (fun _ _ _ _ _ => (pg_name (i := 2) nd rfl (Or.inl rfl))) (fun _ _ _ _ _ => pts_nil) (fun _ _ _ _ _ => (pe_call G_joining_of (hr.mono (by first | decide | omega)) (by rfl) g_joining_of F_joining_of.kp b_joining_of .nil pass0 (pa_cons (pv 2) (pa_cons (pv 1) pa_nil))))) pa_nil))))), ?_⟩
    have sq : isSeqD d = true := by
      cases d <;> first | rfl | (simp only [norm, nB] at hn; cases hn)
    obtain ⟨a, xs, ds, rfl, hq, _, hds, en⟩ := hd.seq (K := K) hn
    have lx : xs.length = 4 := by rw [hds.len, norm_len en, h4]
    refine ⟨.ref a, rfl, N, .ref a, d, rfl, hd, fun H1 s1 => ?_⟩
    rw [sq]
    have hq1 : SqL K H1 a xs ∨ SqT K H1 a xs := hq.imp (fun z => s1.seq z) (fun z => s1.sqt z)
    refine ⟨_, rfl, iteF ⟨.ref a, rfl, a, _, rfl, hq1, rfl, _, rfl, iteNS (by rw [lx]; rfl) ?_⟩⟩
    refine ⟨.ref a, rfl, a, xs, rfl, hq1, fun J C hJ hC => ?_⟩
    intro D nD
    refine lc_seq (xs := xs) hJ (fun i H2 => ∃ ws, H2 D = some (.lst ws) ∧ Paired (JAt H2) ws (b.take i) ∧ Same H1 H2) ⟨[], upd_same, .nil, same_new nD⟩ ?_ ?_ ?_
    · rintro i H2 ⟨ws, h2, t2, s2⟩
      exact SeqIt.mono K hJ (fun o e => s2 _ _ e) hC
    · rintro i x H2 hx ⟨ws, h2, t2, s2⟩
      obtain ⟨di, hdi, hxi⟩ := hds.get hx
      obtain ⟨j, hji, ej⟩ := norm_at en hdi
      refine ⟨rfl, x, rfl, intV m, rfl, N, x, di, j, m, rfl, hxi.same (s1.trans s2), ej, hj j (List.mem_of_getElem? hji), fun H3 v3 s3 j3 => ?_⟩
      have h3 := s3 _ _ h2
      refine ⟨ws, h3, small1000 (by rw [plen t2, List.length_take]; omega), ws ++ [v3], upd_same, ?_, same_fill (s2.trans s3) nD⟩
      rw [List.take_add_one, hji]
      exact papp (pmono t2 fun _ _ z => z.mono (s3.tups.trans (tups_set h3))) (.cons (j3.mono (tups_set h3)) .nil)
    · rintro H2 ⟨ws, h2, t2, s2⟩
      rw [lx, ← h4, List.take_length] at t2
      refine ⟨D, ws, rfl, .inl ⟨.inl (.inl h2), fun p o np dn => ?_⟩⟩
      exact q _ _ ((s1.trans s2).trans (same_new np)) ⟨p, ws, rfl, FT.new dn, pmono t2 fun _ _ z => z.mono (same_new np).tups⟩
end
end Bk

namespace Bk
open PySem PySem.Spec PyProof.Rows L2
local macro_rules | `(tactic| walk_at "g") => `(tactic| (repeat first | refine ⟨_, rfl, ?_⟩ | refine ⟨cpow, ?_⟩ | refine ⟨wideM, ?_⟩ | refine ⟨_, _, rfl, rfl, ?_⟩ | refine ⟨rfl, ?_⟩))
theorem jD_shaped (j : Jn) : SeqAt.shaped (jD j) = true := by
  obtain ⟨h1, h2⟩ := jD_lay j
  show ((jD j).canLay0 && decide ((jD j).depth ≤ 64)) = true
  rw [h1, decide_eq_true (by omega)]
  rfl
theorem tints_shaped (ns : List Int) : SeqAt.shaped (.tuple (ns.map PyData.int)) = true := by
  have h := ints_lay ns
  have h2 : PyData.depth (.tuple (ns.map PyData.int)) ≤ 64 := by
    simp only [PyData.depth]
    omega
  show (PyData.canLay0 (.tuple (ns.map PyData.int)) && decide (PyData.depth (.tuple (ns.map PyData.int)) ≤ 64)) = true
  rw [Bool.and_eq_true]
  exact ⟨by simp only [PyData.canLay0]; exact h.1, decide_eq_true h2⟩
theorem pair_eqv (a b c d : Nat) : PyData.eqv (.tuple [intD a, intD b]) (.tuple [intD c, intD d]) = decide ((a, b) = (c, d)) := by
  have e : PyData.eqv (.tuple [intD a, intD b]) (.tuple [intD c, intD d]) = (((a : Int) == (c : Int)) && (((b : Int) == (d : Int)) && true)) := by simp only [intD, PyData.eqv, PyData.eqvAll]
  rw [e]
  by_cases h : ((a, b) : Nat × Nat) = (c, d)
  · injection h with h1 h2
    subst h1 h2
    simp
  · rw [decide_eq_false h]
    by_cases h1 : a = c
    · have h2 : b ≠ d := fun z => h (by rw [h1, z])
      rw [show ((b : Int) == (d : Int)) = false from beq_eq_false_iff_ne.mpr (by omega)]
      simp
    · rw [show ((a : Int) == (c : Int)) = false from beq_eq_false_iff_ne.mpr (by omega)]
      simp
section
variable {P : Program} {w : World} {K : PySem.W.Frag} {mg : Str → Option Value} {base : Heap}
/-! ### _goes_both_ways -/
abbrev s_goes_both_ways : Stmt := topS 30
abbrev N_goes_both_ways : List Str := ["space", "block", "face", "joining", "other", "turn", "across"]
theorem sc_goes_both_ways : FnScope N_goes_both_ways ["space", "block", "face"] (defScope s_goes_both_ways) := ⟨rfl, rfl, rfl, by decide +kernel, rfl, by decide +kernel, by decide +kernel⟩
def spGoes : Sp := fun vs H Q _ => ∃ (v : V) (S : Spc) (b f : Nat), vs = [v, intV b, intV f] ∧ ST H v S ∧ Good S ∧ b < S.length ∧ f < 4 ∧ ∀ H', Same H H' → Q (.bl true) H'
theorem ok_goes_both_ways {f fC : Addr} {fd fdC : FuncData} (F : Fun K "_goes_both_ways" "_goes_both_ways" s_goes_both_ways f fd) (Fcontrary : Fun K "contrary" "contrary" scontrary fC fdC) (gcontrary : mg "contrary" = some (.ref fC)) (bcontrary : Binds K fdC ["turn"] [])
    (Gcontrary : FnOk P w K mg base CX0 1 fC fdC ["turn"] spBack) : FnOk P w K mg base CX0 2 f fd ["space", "block", "face"] spGoes := by
  refine F.ok sc_goes_both_ways (fun vs H Q E h => ?_) (fun cdv A outer s H vs Q E hr h => ?_)
  · obtain ⟨v, S, b, f, rfl, _⟩ := h
    rfl
  · obtain ⟨v, S, b, f, rfl, hv, hG, hb, hf, q⟩ := h
    have nd := sc_goes_both_ways.nd
    refine ⟨_, (pss_cons (ps_set (i := 3) nd rfl (.inl rfl) (pe_ix (kIxT K rfl) (pe_ix (kIxT K rfl) (pv 0) (pv 1) (fun _ _ => rfl)) (pv 2) (fun _ _ => rfl)))
      (pss_cons (ps_if (pt_cmpR op_isN (pv 3) pe_non (nomark _)) (pss_one (ps_ret pe_bl)) pss_nil)
      (pss_cons (ps_asg (pv 3) (kPgT K rfl (pg_tup (n := 2) rfl (pgs_cons (pg_name (i := 4) nd rfl (.inl rfl)) (pgs_cons (pg_name (i := 5) nd rfl (.inl rfl)) pgs_nil)))))
      (pss_cons (ps_set (i := 6) nd rfl (.inl rfl) (pe_ix (kIxT K rfl) (pv 5) (pv 2) (fun _ _ => rfl)))
      (pss_cons (ps_if (pt_cmpR (kEqD K rfl hr.units) (pe_tupF (pa_cons (pv 4) (pa_cons (pv 6) pa_nil))) (pe_tupF (pa_cons (pv 1) (pa_cons (pv 2) pa_nil))) (nomark _)) (pss_one (ps_ret pe_bl)) pss_nil)
      (pss_one (ps_ret (pe_cmpR (kEqD K rfl hr.units) (pe_ix (kIxT K rfl) (pe_ix (kIxT K rfl) (pv 0) (pv 4) (fun _ _ => rfl)) (pv 6) (fun _ _ => rfl)) (pe_tupF (pa_cons (pv 1) (pa_cons (pe_call Gcontrary (hr.mono (by first | decide | omega)) (by rfl) gcontrary Fcontrary.kp bcontrary .nil pass0 (pa_cons (pv 5) pa_nil)) pa_nil))) (nomark _))))))))), ?_⟩
    obtain ⟨j, hj⟩ := hG.l4.get hb hf
    obtain ⟨p, rs, pb, vb, x, rfl, f1, g1, f2, g2, jx⟩ := hv.face hj
    refine ⟨.ref p, rfl, intV b, rfl, p, rs, b, .ref pb, rfl, rfl, f1.sqt, atI_nat g1, intV f, rfl, pb, vb, f, x, rfl, rfl, f2.sqt, atI_nat g2, ?_⟩
    refine ⟨x, rfl, rfl, ?_⟩
    rw [jx.isN]
    refine ⟨_, rfl, ?_⟩
    cases j with
    | none => exact iteT (q H (Same.refl H))
    | some k =>
      obtain ⟨n, t⟩ := k
      obtain ⟨ht, hne, hbk⟩ := hG.both _ _ _ _ hj
      have htf := tf_lt t ht f hf
      obtain ⟨pj, pq, rfl, f3, f4⟩ := jx
      refine iteF ?_
      refine ⟨.ref pj, rfl, pj, _, rfl, f3.sqt, rfl, _, _, rfl, _, _, rfl, rfl, ?_⟩
      refine ⟨.ref pq, rfl, intV f, rfl, pq, trnV t, f, intV (tf t f), rfl, rfl, f4.sqt, atI_nat (by unfold trnV; rw [List.getElem?_map, htf.2]; rfl), ?_⟩
      refine ⟨intV n, rfl, intV (tf t f), rfl, Nat.le_of_lt (small1000 (by show 2 ≤ 1000; decide)), fun p1 o1 np1 dn1 => ?_⟩
      have s1 : Same H (upd H p1 (.frz o1 (.tup [intV n, intV (tf t f)]))) := same_new np1
      have ft1 : FT (upd H p1 (.frz o1 (.tup [intV n, intV (tf t f)]))) p1 [intV n, intV (tf t f)] := FT.new dn1
      generalize upd H p1 (.frz o1 (.tup [intV n, intV (tf t f)])) = H1 at s1 ft1 ⊢
      refine ⟨intV b, rfl, intV f, rfl, Nat.le_of_lt (small1000 (by show 2 ≤ 1000; decide)), fun p2 o2 np2 dn2 => ?_⟩
      have s2 : Same H1 (upd H1 p2 (.frz o2 (.tup [intV b, intV f]))) := same_new np2
      have ft2 : FT (upd H1 p2 (.frz o2 (.tup [intV b, intV f]))) p2 [intV b, intV f] := FT.new dn2
      generalize upd H1 p2 (.frz o2 (.tup [intV b, intV f])) = H2 at s2 ft2 ⊢
      refine ⟨.tuple [intD n, intD (tf t f)], .tuple [intD b, intD f], .tup (ft1.mono s2.tups).sqt (.cons (.int _) (.cons (.int _) .nil)), .tup ft2.sqt (.cons (.int _) (.cons (.int _) .nil)), tints_shaped [n, tf t f], tints_shaped [b, f], ?_⟩
      rw [pair_eqv, decide_eq_false hne]
      refine ⟨_, rfl, iteF ?_⟩
      have s12 := s1.trans s2
      have hv2 : ST H2 (.ref p) S := hv.mono s12.tups
      obtain ⟨p', rs', pn, vn, x2, ep, f5, g3, f6, g4, jx2⟩ := hv2.face hbk
      cases ep
      refine ⟨.ref p, rfl, intV n, rfl, p, rs', n, .ref pn, rfl, rfl, f5.sqt, atI_nat g3, intV (tf t f), rfl, pn, vn, (tf t f : Nat), x2, rfl, rfl, f6.sqt, atI_nat g4, ?_⟩
      refine ⟨intV b, rfl, .ref pq, rfl, .ref pq, t, rfl, ⟨pq, rfl, f4.mono s12.tups⟩, ht, fun H3 p3 s3 n3 T3 => ⟨Nat.le_of_lt (small1000 (by show 2 ≤ 1000; decide)), fun p4 o4 np4 dn4 => ?_⟩⟩
      obtain ⟨p3', e3, T3⟩ := T3
      cases e3
      have s4 : Same H3 (upd H3 p4 (.frz o4 (.tup [intV b, .ref p3]))) := same_new np4
      have j4 : JAt (upd H3 p4 (.frz o4 (.tup [intV b, .ref p3]))) (.ref p4) (some (b, back t)) := ⟨p4, p3, rfl, FT.new dn4, T3.mono s4.tups⟩
      have j5 := jx2.mono (s3.trans s4).tups
      refine ⟨jD (some (b, back t)), jD (some (b, back t)), (j5.dq (N := fun _ => False)).dp, (j4.dq (N := fun _ => False)).dp, jD_shaped _, jD_shaped _, ?_⟩
      rw [SeqAt.eqv_refl _ (jD_lay _).1]
      exact q _ ((s12.trans s3).trans s4)
/-! ### space_of -/
abbrev sspace_of : Stmt := topS 27
abbrev Nspace_of : List Str := ["blocks", "space", "block", "face", "faces"]
theorem scspace_of : FnScope Nspace_of ["blocks"] (defScope sspace_of) := ⟨rfl, rfl, rfl, by decide +kernel, rfl, by decide +kernel, by decide +kernel⟩
def spSpace : Sp := fun vs H Q _ => ∃ (N : Addr → Prop) (v : V) (d : PyData) (S : Spc), vs = [v] ∧ Dq N H v d ∧ norm d = nS S ∧ Good S ∧ 1 ≤ S.length ∧ S.length ≤ 100 ∧ ∀ H' v', Same H H' → ST H' v' S → Q v' H'
theorem okspace_of {f fL fB fG : Addr} {fd fdL fdB fdG : FuncData} (F : Fun K "space_of" "space_of" sspace_of f fd) (Fis_listed : Fun K "is_listed" "is_listed" sis_listed fL fdL) (gis_listed : mg "is_listed" = some (.ref fL)) (bis_listed : Binds K fdL ["thing"] []) (Gis_listed : FnOk P w K mg base CX0 1 fL fdL ["thing"] spListed)
    (F_block_of : Fun K "_block_of" "_block_of" s_block_of fB fdB) (g_block_of : mg "_block_of" = some (.ref fB)) (b_block_of : Binds K fdB ["faces", "many"] []) (G_block_of : FnOk P w K mg base CX0 5 fB fdB ["faces", "many"] spBlockOf)
    (F_goes_both_ways : Fun K "_goes_both_ways" "_goes_both_ways" s_goes_both_ways fG fdG) (g_goes_both_ways : mg "_goes_both_ways" = some (.ref fG)) (b_goes_both_ways : Binds K fdG ["space", "block", "face"] []) (G_goes_both_ways : FnOk P w K mg base CX0 2 fG fdG ["space", "block", "face"] spGoes)
    (m_len : mg "len" = none) (m_tuple : mg "tuple" = none) (m_range : mg "range" = none) : FnOk P w K mg base CX0 6 f fd ["blocks"] spSpace := by
  refine F.ok scspace_of (fun vs H Q E h => ?_) (fun cdv A outer s H vs Q E hr h => ?_)
  · obtain ⟨N, v, d, S, rfl, _⟩ := h
    rfl
  · obtain ⟨N, v, d, S, rfl, hd, hn, hG, hl1, hl2, q⟩ := h
    have nd := scspace_of.nd
    refine ⟨_, (pss_cons (ps_if (pw_or (pt_not (pt_val (pe_call Gis_listed (hr.mono (by first | decide | omega)) (by rfl) gis_listed Fis_listed.kp bis_listed .nil pass0 (pa_cons (pv 0) pa_nil)))) (pw_or1 (pt_not (pt_truth (pv 0) (by intro _; rfl))))).pt (pss_one ps_never) pss_nil)
      (pss_cons (ps_set (i := 1) nd rfl (.inl rfl) (pe_callTy (kTupleF K rfl) (by rfl) m_tuple (by decide +kernel) (pa_cons (pe_lc (own := [("faces", 4)]) (g := gName 4) (tt := tYes) rfl nd (kPiS K rfl (pv 0)) (blkOk_by (own := [("faces", 4)]) (N := Nspace_of) (sc := defScope sspace_of) (by decide +kernel)) (fun _ _ _ _ _ => (pg_name (i := 4) nd rfl (Or.inl rfl))) (fun _ _ _ _ _ => pts_nil) (fun _ _ _ _ _ => (pe_call G_block_of (hr.mono (by first | decide | omega)) (by rfl) g_block_of F_block_of.kp b_block_of .nil pass0 (pa_cons (pv 4) (pa_cons (pe_callB (kLen K rfl) (by rfl) m_len (by decide +kernel) (pa_cons (pv 0) pa_nil)) pa_nil))))) pa_nil)))
      (pss_cons (ps_for PassesOwn.never rfl (pi_range1 (by rfl) m_range (pa_cons (pe_callB (kLen K rfl) (by rfl) m_len (by decide +kernel) (pa_cons (pv 1) pa_nil)) pa_nil)) (pg_name (i := 2) nd rfl (.inl rfl)) (pss_one (ps_for PassesOwn.never rfl (pi_range1 (by rfl) m_range (pa_cons pe_int pa_nil)) (pg_name (i := 3) nd rfl (.inl rfl)) (pss_one (ps_if (pt_not (pt_val (pe_call G_goes_both_ways (hr.mono (by first | decide | omega)) (by rfl) g_goes_both_ways F_goes_both_ways.kp b_goes_both_ways .nil pass0 (pa_cons (pv 1) (pa_cons (pv 2) (pa_cons (pv 3) pa_nil)))))) (pss_one ps_never) pss_nil)))))
      (pss_one (ps_ret (pv 1)))))), ?_⟩
    have sq : isSeqD d = true := by
      cases d <;> first | rfl | (simp only [norm, nS] at hn; cases hn)
    obtain ⟨a, xs, ds, rfl, hq, _, hds, en⟩ := hd.seq (K := K) hn
    have lx : xs.length = S.length := by rw [hds.len, norm_len en]
    have xe : xs.isEmpty = false := by
      cases xs with
      | nil =>
        have : 0 = S.length := lx
        omega
      | cons x r => rfl
    refine ⟨.ref a, rfl, N, .ref a, d, rfl, hd, fun H1 s1 => ?_⟩
    rw [sq]
    have hq1 : SqL K H1 a xs ∨ SqT K H1 a xs := hq.imp (fun z => s1.seq z) (fun z => s1.sqt z)
    have tru : TruV K (.ref a) H1 true := by
      rcases hq1 with z | z
      · exact .inl ⟨xs, z, by rw [xe]; rfl⟩
      · exact .inr (.inl ⟨xs, z, by rw [xe]; rfl⟩)
    refine ⟨_, rfl, iteF ⟨.ref a, rfl, true, tru, iteF ?_⟩⟩
    refine ⟨.ref a, rfl, a, xs, rfl, hq1, fun J C hJ hC => ?_⟩
    intro D nD
    refine lc_seq (xs := xs) hJ (fun i H2 => ∃ ws, H2 D = some (.lst ws) ∧ Paired (BT H2) ws (S.take i) ∧ Same H1 H2) ⟨[], upd_same, .nil, same_new nD⟩ ?_ ?_ ?_
    · rintro i H2 ⟨ws, h2, t2, s2⟩
      exact SeqIt.mono K hJ (fun o e => s2 _ _ e) hC
    · rintro i x H2 hx ⟨ws, h2, t2, s2⟩
      obtain ⟨di, hdi, hxi⟩ := hds.get hx
      obtain ⟨b, hbi, eb⟩ := norm_at en hdi
      have hbm := List.mem_of_getElem? hbi
      have hi : i < S.length := (List.getElem?_eq_some_iff.mp hbi).1
      refine ⟨rfl, x, rfl, .ref a, rfl, a, xs, rfl, hq1.imp (fun z => s2.seq z) (fun z => s2.sqt z), ?_⟩
      refine ⟨N, x, di, b, S.length, (by rw [lx]; rfl), hxi.same (s1.trans s2), eb, hG.l4 b hbm, hG.jok hbm, fun H3 v3 s3 j3 => ?_⟩
      have h3 := s3 _ _ h2
      refine ⟨ws, h3, small1000 (by rw [plen t2, List.length_take]; omega), ws ++ [v3], upd_same, ?_, same_fill (s2.trans s3) nD⟩
      rw [List.take_add_one, hbi]
      exact papp (pmono t2 fun _ _ z => z.mono (s3.tups.trans (tups_set h3))) (.cons (j3.mono (tups_set h3)) .nil)
    · rintro H2 ⟨ws, h2, t2, s2⟩
      rw [lx, List.take_length] at t2
      refine ⟨D, ws, rfl, .inl ⟨.inl (.inl h2), fun p o np dn => ?_⟩⟩
      have s3 : Same H2 (upd H2 p (.frz o (.tup ws))) := same_new np
      have st : ST (upd H2 p (.frz o (.tup ws))) (.ref p) S := ⟨p, ws, rfl, FT.new dn, pmono t2 fun _ _ z => z.mono s3.tups⟩
      have ftp : FT (upd H2 p (.frz o (.tup ws))) p ws := FT.new dn
      generalize upd H2 p (.frz o (.tup ws)) = H3 at s3 st ftp ⊢
      have s13 := (s1.trans s2).trans s3
      have lw : ws.length = S.length := plen t2
      refine ⟨.ref p, rfl, p, ws, rfl, .inr ftp.sqt, _, rfl, by rw [lw]; omega, by rw [lw]; omega, ?_⟩
      rw [lw, Int.toNat_natCast]
      refine for_range (lo := 0) (n := S.length) (fun b σ H4 => ∃ y2 y3, σ = [some (.ref a), some (.ref p), y2, y3, none] ∧ Same H3 H4) ⟨none, none, rfl, Same.refl _⟩ ?_ ?_
      · rintro b σ H4 hb ⟨y2, y3, rfl, s4⟩
        rw [Int.zero_add]
        refine ⟨4, rfl, by decide, by decide, ?_⟩
        refine for_range (lo := 0) (n := 4) (fun f σ H5 => ∃ y3, σ = [some (.ref a), some (.ref p), some (intV b), y3, none] ∧ Same H3 H5) ⟨y3, rfl, s4⟩ ?_ ?_
        · rintro f σ H5 hf ⟨y3, rfl, s5⟩
          rw [Int.zero_add]
          refine ⟨.ref p, rfl, intV b, rfl, intV f, rfl, .ref p, S, b, f, rfl, st.mono s5.tups, hG, hb, hf, fun H6 s6 => ⟨_, rfl, iteF ?_⟩⟩
          exact ⟨_, rfl, s5.trans s6⟩
        · rintro σ H5 ⟨y3, rfl, s5⟩
          exact ⟨_, _, rfl, s5⟩
      · rintro σ H4 ⟨y2, y3, rfl, s4⟩
        exact ⟨.ref p, rfl, q H4 _ (s13.trans s4) (st.mono s4.tups)⟩
end
end Bk

namespace Bk
open PySem PySem.Spec PyProof.Rows L2 RZ
local macro_rules | `(tactic| walk_at "g") => `(tactic| (repeat first | refine ⟨_, rfl, ?_⟩ | refine ⟨cpow, ?_⟩ | refine ⟨wideM, ?_⟩ | refine ⟨_, _, rfl, rfl, ?_⟩ | refine ⟨rfl, ?_⟩))
/-! ### two walked at once -/
structure ZipIt (a b : Addr) (xs ys : List V) (J : It) (G : Hp → Prop) : Prop where
  walk : Walk J (min xs.length ys.length) G (YPair (fun i => xs[i]?) (fun i => ys[i]?))
  stay : ∀ H H' : Hp, (∀ o, H a = some o → H' a = some o) → (∀ o, H b = some o → H' b = some o) → G H → G H'
theorem sqL_at {K : PySem.W.Frag} {H H' : Hp} {a : Addr} {xs : List V} (m : ∀ o, H a = some o → H' a = some o) (c : SqL K H a xs) : SqL K H' a xs := by
  rcases c with (c | ⟨o, c⟩) | c
  · exact .inl (.inl (m _ c))
  · exact .inl (.inr ⟨o, m _ c⟩)
  · exact .inr c
theorem sqT_at {K : PySem.W.Frag} {H H' : Hp} {a : Addr} {xs : List V} (m : ∀ o, H a = some o → H' a = some o) (c : SqT K H a xs) : SqT K H' a xs := by
  rcases c with (c | ⟨o, c⟩) | c
  · exact .inl (.inl (m _ c))
  · exact .inl (.inr ⟨o, m _ c⟩)
  · exact .inr c
theorem walk_zipT {K : PySem.W.Frag} {a b : Addr} {xs ys : List V} : Walk (ItzT K a b) (min xs.length ys.length) (fun H => SqT K H a xs ∧ SqT K H b ys) (YPair (fun i => xs[i]?) (fun i => ys[i]?)) := by
  refine ⟨fun i _ hi q => ?_, fun _ q => ⟨xs, ys, q.1, q.2, by omega⟩, fun i H v H' _ q y => ?_⟩
  · exact ⟨xs, ys, _, _, q.1, q.2, List.getElem?_eq_getElem (show i < xs.length by omega), List.getElem?_eq_getElem (show i < ys.length by omega)⟩
  · obtain ⟨T, x, z, z1, z2, z3, z4, z5⟩ := y
    exact ⟨T, x, z, z1, z2, z3, z4 xs q.1, z5 ys q.2⟩
def iZipS (K : PySem.W.Frag) (ta : TA) : TI := fun σ H R => ta σ H fun vs H1 => ∃ a b xs ys, vs = [.ref a, .ref b] ∧ ((SqL K H1 a xs ∧ SqL K H1 b ys) ∨ (SqT K H1 a xs ∧ SqT K H1 b ys)) ∧ ∀ J G, ZipIt a b xs ys J G → G H1 → R J H1
/-- what an argument list's reading asks is monotone -/
theorem kPiZ {X : Cx} (K : PySem.W.Frag) {tg l : Expr} {ta : TA} (h : X.K = K) (x : PI X tg l (iZipA X.K ta)) (mono : ∀ σ H (Q Q' : List V → Hp → Prop), ta σ H Q → (∀ vs H', Q vs H' → Q' vs H') → ta σ H Q' := by
    intro σ H Q Q' hq m
    first
      | exact m _ _ hq
      | (obtain ⟨v1, e1, v2, e2, hq⟩ := hq; exact ⟨v1, e1, v2, e2, m _ _ hq⟩)) : PI X tg l (iZipS K ta) := by
  subst h
  refine ⟨fun pins s σ H R I hw => x.run pins s σ H R I (mono σ H _ _ hw fun vs H' hv => ?_)⟩
  obtain ⟨a, b, xs, ys, e, hq, q⟩ := hv
  rcases hq with ⟨q1, q2⟩ | ⟨q1, q2⟩
  · exact ⟨a, b, xs, ys, e, .inl ⟨q1, q2, q _ _ ⟨walk_zip rfl, fun _ _ m1 m2 z => ⟨sqL_at m1 z.1, sqL_at m2 z.2⟩⟩ ⟨q1, q2⟩⟩⟩
  · exact ⟨a, b, xs, ys, e, .inr ⟨q1, q2, q _ _ ⟨walk_zipT, fun _ _ m1 m2 z => ⟨sqT_at m1 z.1, sqT_at m2 z.2⟩⟩ ⟨q1, q2⟩⟩⟩
section
variable {P : Program} {w : World} {K : PySem.W.Frag} {mg : Str → Option Value} {base : Heap}
theorem kit_tuple (d : PyData) : PySem.W.kitOne K (.type (tyD d)) (.type "tuple") = some (tyD d == "tuple") := by
  cases d with
  | none => exact kit_ty (a := "NoneType") (b := "tuple") (show kitB "NoneType" "tuple" = some false by decide +kernel)
  | bool b => exact kit_ty (a := "bool") (b := "tuple") (show kitB "bool" "tuple" = some false by decide +kernel)
  | int i => exact kit_ty (a := "int") (b := "tuple") (show kitB "int" "tuple" = some false by decide +kernel)
  | str x => exact kit_ty (a := "str") (b := "tuple") (show kitB "str" "tuple" = some false by decide +kernel)
  | list ds => exact kit_ty (a := "list") (b := "tuple") (show kitB "list" "tuple" = some false by decide +kernel)
  | tuple ds => exact kit_ty (a := "tuple") (b := "tuple") (show kitB "tuple" "tuple" = some true by decide +kernel)
  | dict k => exact kit_ty (a := "dict") (b := "tuple") (show kitB "dict" "tuple" = some false by decide +kernel)
theorem kit_list (d : PyData) : PySem.W.kitOne K (.type (tyD d)) (.type "list") = some (tyD d == "list") := by
  cases d with
  | none => exact kit_ty (a := "NoneType") (b := "list") (show kitB "NoneType" "list" = some false by decide +kernel)
  | bool b => exact kit_ty (a := "bool") (b := "list") (show kitB "bool" "list" = some false by decide +kernel)
  | int i => exact kit_ty (a := "int") (b := "list") (show kitB "int" "list" = some false by decide +kernel)
  | str x => exact kit_ty (a := "str") (b := "list") (show kitB "str" "list" = some false by decide +kernel)
  | list ds => exact kit_ty (a := "list") (b := "list") (show kitB "list" "list" = some true by decide +kernel)
  | tuple ds => exact kit_ty (a := "tuple") (b := "list") (show kitB "tuple" "list" = some false by decide +kernel)
  | dict k => exact kit_ty (a := "dict") (b := "list") (show kitB "dict" "list" = some false by decide +kernel)
theorem kit_str (d : PyData) : PySem.W.kitOne K (.type (tyD d)) (.type "str") = some (tyD d == "str") := by
  cases d with
  | none => exact kit_ty (a := "NoneType") (b := "str") (show kitB "NoneType" "str" = some false by decide +kernel)
  | bool b => exact kit_ty (a := "bool") (b := "str") (show kitB "bool" "str" = some false by decide +kernel)
  | int i => exact kit_ty (a := "int") (b := "str") (show kitB "int" "str" = some false by decide +kernel)
  | str x => exact kit_ty (a := "str") (b := "str") (show kitB "str" "str" = some true by decide +kernel)
  | list ds => exact kit_ty (a := "list") (b := "str") (show kitB "list" "str" = some false by decide +kernel)
  | tuple ds => exact kit_ty (a := "tuple") (b := "str") (show kitB "tuple" "str" = some false by decide +kernel)
  | dict k => exact kit_ty (a := "dict") (b := "str") (show kitB "dict" "str" = some false by decide +kernel)
theorem or_way {c d : Bool} {A B X : Prop} (h1 : (c || d) = true → A) (hx : (if d = true then A else B) → X) (h2 : (c || d) = false → B) : if c = true then A else X := by
  cases c with
  | true => exact iteT (h1 rfl)
  | false =>
    refine iteF (hx ?_)
    cases d with
    | true => exact iteT (h1 rfl)
    | false => exact iteF (h2 rfl)
theorem seq_ty (d : PyData) : (tyD d == "tuple" || tyD d == "list") = isSeqD d := by
  cases d <;> simp [isSeqD, tyD]
theorem scal_ty (d : PyData) : (tyD d == "bool" || tyD d == "str") = true → (∃ b, d = .bool b) ∨ ∃ x, d = .str x := by
  cases d <;> simp [tyD]
end
end Bk

namespace Bk
open PySem PySem.Spec PyProof.Rows L2
/-! ### defs that show things: no other showing is under way around them -/
section
variable {P : Program} {w : World} {K : PySem.W.Frag} {mg : Str → Option Value} {base : Heap}
structure FnG (P : Program) (w : World) (K : PySem.W.Frag) (mg : Str → Option Value) (base : Heap) (k : Nat) (f : Addr) (fd : FuncData) (ps : List Str) (sp : Sp) : Prop where
  len : ∀ vs H Q E, sp vs H Q E → vs.length = ps.length
  go : ∀ (A : Around) (outer : List Env) (s : Shared) (H : Hp) (args : Args) (us : List Value) (vs : List V) (Q : VK) (E : XK), A.guards = some [] → Room k A → Env0 P w K mg base A outer s H → BindsTo s fd args (ps.zip us) →
    Vals vs us → sp vs H Q E → codeAny (model P w) A (.call (.ref f) args) (CR CX0 outer P w H s Q E) s
theorem fnG_of {x qual : Str} {st : Stmt} {f : Addr} {fd : FuncData} {N ps : List Str} {k : Nat} {sp : Sp} (F : Fun K x qual st f fd) (S : FnScope N ps (defScope st)) (len : ∀ vs H Q E, sp vs H Q E → vs.length = ps.length)
    (body : ∀ (cdv : Value) (A : Around) (outer : List Env) (s : Shared) (H : Hp) (vs : List V) (Q : VK) (E : XK), A.guards = some [] → Room k (A.deeper (envOfC qual (defScope st) s.heap.objs.size f cdv)) → sp vs H Q E →
      ∃ t, PSs (cxOf CX0 P w K mg base N qual (defScope st) f cdv A outer s H E).nox (defBody st) t ∧ t { nx := fun _ H' => Q .non H', rt := Q } (start N vs) H) : FnG P w K mg base (k + 1) f fd ps sp := by
  obtain ⟨oc, od, kV, doc, pm, an, cdv, ct, osl, rfl, lk, hcd⟩ := F.ex
  refine ⟨len, fun A outer s H args us vs Q E hg hr e0 hb r hsp => ?_⟩
  obtain ⟨t, ht, hq⟩ := body cdv A outer s H vs Q E hg (hr.deeper _) hsp
  have up : ∀ b o, base.get? b = some o → s.heap.get? b = some o := fun b o e => (e0.bs b o e).1
  refine Att.call_fn (e0.mod.kin.keeps up) (e0.mod.nolimit.keeps up) lk hcd hr.depth hb ?_ (fun s1 x => ?_) S.co S.gen S.kind
  · rw [List.all_eq_true]
    rintro ⟨n, v⟩ hy
    rcases S.par n (List.of_mem_zip hy).1 with q | q
    · show ((defScope st).names.lookup n == some .local || (defScope st).names.lookup n == some .cell) = true
      rw [q]
      rfl
    · show ((defScope st).names.lookup n == some .local || (defScope st).names.lookup n == some .cell) = true
      rw [q]
      rfl
  · have I := inv_start (CX := CX0) (P := P) (E := E) S hr.hd e0 (len _ _ _ _ hsp) r x
    refine wpAny_mono (ht.nox.run [] s1 (start N vs) H _ I hq) (fun fl s' hs => ?_) fun _ _ z => z
    cases fl with
    | ret u =>
      obtain ⟨v, σ', H', J, rv, z⟩ := hs
      exact ⟨v, H', J.os, J.bare, J.base, J.hok, rv, z⟩
    | next =>
      obtain ⟨σ', H', J, z⟩ := hs
      exact ⟨V.non, H', J.os, J.bare, J.base, J.hok, rfl, z⟩
    | brk =>
      obtain ⟨_, _, _, z⟩ := hs
      exact z.elim
    | cont =>
      obtain ⟨_, _, _, z⟩ := hs
      exact z.elim
/-- the same called within another -/
theorem FnG.ok {k : Nat} {f : Addr} {fd : FuncData} {ps : List Str} {sp : Sp} (F : FnOk P w K mg base CX0 k f fd ps sp) : FnG P w K mg base k f fd ps sp := ⟨F.len, fun A outer s H args us vs Q E _ => F.run A outer s H args us vs Q E⟩
/-! ### repr of data -/
def rRepr : List V → Hp → VK → Prop := fun xs H Q => ∃ N v d es, xs = [v] ∧ Dq N H v d ∧ norm d = .list es ∧ d.showable = true ∧ d.hasDict = false ∧ d.depth ≤ 60 ∧ d.shown.length ≤ sizeLine ∧ Q (.str d.shown) H
theorem kRepr {X : Cx} {k : Nat} (hr : Room k X.A) (hg : X.A.guards = some []) : CallR X (.builtin "repr") rRepr := by
  rintro pins s σ H _ us Q I r ⟨N, v, d, es, rfl, hd, hn, h1, h2, h3, h4, q⟩
  obtain ⟨u, rfl, rx⟩ := vals1 r
  obtain ⟨as, rd⟩ := Dp.reads I d v u hd.dp rx
  obtain ⟨a, _, _, rfl, _⟩ := hd.seq (K := X.K) hn
  cases rx
  have hu := hr.units
  exact repr_of_reads' rd h1 (fun z => by rw [h2] at z; cases z) hg (by omega) (fun _ _ e => e) (fun h' t tk hk => ⟨.str d.shown, H, I.kept hk, ⟨t, rfl⟩, q⟩) h4
/-! ### the law called -/
/-- the heap ahead of the law's call: at most the script is told -/
theorem go_law {mb : Str → Option Value} {k : Nat} {fa a : Addr} {fd : FuncData} {x : Str} {sp : Sp} {s₁ : Shared} {vs : List Value} {ns : List Int}
    (KX : K.In s₁.heap) (h1 : s₁.heap.Ns mainGlobals mg) (h2 : s₁.heap.Ns builtinsNs mb) (h3 : ∀ x : Str, x ≠ "__name__" → mb x = bootBuiltins x) (h4 : s₁.heap.NoLimit) (h5 : s₁.gens = #[])
    (ha : s₁.heap.get? a = some { cls := .type "list", data := .seq vs.toArray }) (hi : IntsAre vs ns) (hl : ns.length ≤ sizeLine) (hr : Room k callerA)
    (F : ∀ base : Heap, K.In base → base.Ns mainGlobals mg → FnG P w K mg base k fa fd [x] sp) (hb : ∀ (s : Shared) (u : Value), BindsTo s fd ⟨[u], []⟩ [(x, u)])
    (hsp : ∀ H : Hp, Only H → SqL K H a (ns.map V.int) → sp [.ref a] H (fun v _ => v = .bl true) fun _ _ _ => False) :
    codeAny (model P w) callerA (.call (.ref fa) ⟨[.ref a], []⟩) (fun r s' => r = .ok (.ret (.bool true)) ∧ OldK s₁.heap s'.heap ∧ s'.os = s₁.os ∧ AllBare s'.gens) s₁ := by
  have rv := vals_ints hi
  have start : ∀ H : Hp, Only H → SqL K H a (ns.map V.int) → HOk P w H s₁.heap → (∀ b u, H b = some u → b = a ∧ K.lookup a = none) →
      codeAny (model P w) callerA (.call (.ref fa) ⟨[.ref a], []⟩) (fun r s' => r = .ok (.ret (.bool true)) ∧ OldK s₁.heap s'.heap ∧ s'.os = s₁.os ∧ AllBare s'.gens) s₁ := by
    intro H only hS ok told
    have none_at : ∀ {b : Addr} {o : Obj}, s₁.heap.get? b = some o → (b = a → K.lookup a = none → False) → (hidT s₁.heap H).get? b = some o := fun {b o} e n => hidT_get e (by
      cases z : H b with
      | none => rfl
      | some u => exact (n (told b u z).1 (told b u z).2).elim)
    have dicts : ∀ {b : Addr} {m : Str → Option Value}, s₁.heap.Ns b m → (hidT s₁.heap H).Ns b m := fun {b m} ⟨o, es, ep, e, d, r⟩ => ⟨o, es, ep, none_at e (fun z _ => by
      subst z
      rw [ha] at e
      cases e
      have d' : Data.seq vs.toArray _ = Data.dict es ep := d
      cases d'), d, r⟩
    have kb : K.In (hidT s₁.heap H) := fun b o e => none_at (KX b o e) fun z n => by
      subst z
      rw [n] at e
      cases e
    have md : Mod K mg (hidT s₁.heap H) := ⟨kb, dicts h1, ⟨mb, dicts h2, h3⟩, let ⟨mc, z1, z2⟩ := h4; ⟨mc, dicts z1, z2⟩⟩
    have e0 : Env0 P w K mg (hidT s₁.heap H) callerA [] s₁ H := ⟨rfl, md, fun b o e => of_hidT e, Nat.le_of_eq (hidT_size _ _), trivial, fun b z => (by cases z), ok, .of_eq h5⟩
    refine codeAny_mono ((F _ kb (dicts h1)).go callerA [] s₁ H ⟨[.ref a], []⟩ [.ref a] [.ref a] _ _ rfl hr e0 (hb s₁ (.ref a)) (.cons rfl .nil) (hsp H only hS)) fun r s' h => ?_
    match r, h with
    | .ok (.ret u), h =>
      obtain ⟨v, H', os, bare, un, ok', r', q⟩ := h
      obtain rfl : v = .bl true := q
      obtain rfl : u = Value.bool true := r'
      refine ⟨rfl, OldK.of_keep fun b o e => ?_, os, bare⟩
      cases z : H b with
      | none => exact un.keep b o e z (fun z => by cases z) (by simp)
      | some u =>
        obtain y | ⟨ob, xs, y⟩ := only b
        · rw [z] at y
          cases y
        · have c1 := (ok b _ y).1
          rw [e] at c1
          cases c1
          exact (ok' b _ (un.frzs b _ _ y)).1
  cases hk : K.lookup a with
  | some o =>
    have e := KX a o hk
    rw [ha] at e
    cases e
    have hn := hi.length
    exact start (fun _ => none) (fun _ => .inl rfl) (.inr ⟨_, vs.toArray, _, hk, rfl, rfl, rfl, by rw [List.size_toArray, hn]; exact hl, by simpa using rv⟩) (fun b u z => by cases z) fun b u z => by cases z
  | none =>
    let ob : Obj := { cls := .type "list", data := .seq vs.toArray }
    have at_ : ∀ b u, (fun b => if b = a then some (HO.frz ob (.lst (ns.map V.int))) else none) b = some u → b = a ∧ u = HO.frz ob (.lst (ns.map V.int)) := fun b u z => by
      by_cases c : b = a
      · exact ⟨c, (Option.some.inj ((if_pos c).symm.trans z)).symm⟩
      · cases (if_neg c).symm.trans z
    refine start (fun b => if b = a then some (HO.frz ob (.lst (ns.map V.int))) else none) (fun b => ?_) (.inl (.inr ⟨ob, if_pos rfl⟩)) (fun b u z => ?_) fun b u z => ⟨(at_ b u z).1, hk⟩
    · by_cases c : b = a
      · exact .inr ⟨_, _, if_pos c⟩
      · exact .inl (if_neg c)
    · obtain ⟨rfl, rfl⟩ := at_ b u z
      exact ⟨ha, by rw [List.length_map]; exact hl, vs, _, rv, ha⟩
end
theorem walk_G {l : PySem.W.OpenLaw} {n k : Nat} {q : Program} {loose : List Str} {XP : (Str → Option Value) → Heap → Prop} {YP : World → Heap → Prop} {d : DefRec} {K : Params → PySem.W.Frag} {sp : PySem.W.Frag → Sp} {x : Str}
    (hn : l.most = some n) (hn2 : n ≤ sizeLine) (hdf : d.params.defaults = []) (hr : Room k callerA) (hY : ∀ (w : World) (h : Heap), YP w h → (K w.params).In h)
    (F : ∀ (w : World) (mg : Str → Option Value) (fa : Addr) (h : Heap), (K w.params).In h → h.Ns mainGlobals mg → mg d.name = some (.ref fa) →
      ∃ fd : FuncData, (∀ (s : Shared) (u : Value), BindsTo s fd ⟨[u], []⟩ [(x, u)]) ∧ ∀ base : Heap, (K w.params).In base → base.Ns mainGlobals mg → FnG l.prog w (K w.params) mg base k fa fd [x] (sp (K w.params)))
    (hsp : ∀ (K : PySem.W.Frag) (H : Hp) (a : Addr) (ns : List Int), ns.length ≤ n → Only H → SqL K H a (ns.map V.int) → sp K [.ref a] H (fun v _ => v = .bl true) fun _ _ _ => False) :
    PySem.W.WalkO q loose XP YP l.row.toRowW d [] (fun f vs => PySem.call f vs) := by
  refine Att.attach_call hn hdf fun w s₀ s₁ mg mb fa o pm cd doc a vs ns G Y ho hd hcd hmg hobj hints hlen hg => ?_
  obtain ⟨fd, hb, hF⟩ := F w mg fa _ (hY w _ Y) G.T.g hmg
  exact go_law (hY w _ Y) G.T.g G.T.b G.T.builtins G.T.nolimit hg hobj hints (Nat.le_trans hlen hn2) hr hF hb fun H z1 z2 => hsp _ H a ns hlen z1 z2
end Bk

namespace Bk
open PySem PySem.Spec PyProof.Rows L2
/-! ### the call of a def that shows things -/
theorem pe_callG {X : Cx} {j : Nat} {a : Addr} {fn : FuncData} {names : List Str} {sq : Sp} {y : Str} {q q' : Pos} {e1 : Expr} {rest : List Expr} {tt : TA}
    (F : FnG X.prog X.w X.K X.mg X.base j a fn names sq) (hg : X.A.guards = some []) (room : Room j X.A) (gl : Gl X y) (at_ : X.mg y = some (.ref a))
    (kp : PySem.W.keepIn X.K (.ref a) = true) (bs : Binds X.K fn names []) (args : PA X (e1 :: rest) tt)
    (nd : (y == ("__debug__" : Str)) = false := by decide)
    (hs : starEach (e1 :: rest) X.env = (false, eval e1 X.env) :: starEach rest X.env := by rfl)
    (hp : (backTo q' (starEach rest X.env)).any (·.1) = false := by rfl) :
    PE X (.Call (.Name y q) (e1 :: rest) [] q') (tCall sq [] E0 tt) := by
  constructor
  intro pins s σ H Q I hq
  refine wpAny_Call_Name_kw (ld_glob I gl at_ ?_ nd)
  have ran := args.run q' pins s σ H _ I hq
  refine PySem.W.callWith_K (h₀ := X.base) I.ok.mod.kin kp (thn ran ?_) hs hp
  rintro us s1 ⟨vs, H1, I1, r, z⟩
  refine ⟨I1.kIn, wpAny_call ?_⟩
  have rr : Vals (vs ++ []) (us ++ []) := r.append Paired.nil
  have len : (us ++ []).length = names.length := (rr.length.symm).trans (F.len _ _ _ _ z)
  have run := F.go X.A X.stack s1 H1 ⟨us, []⟩ (us ++ []) (vs ++ []) Q E0 hg room I1.env0 (bs s1 us I1.kIn len) rr z
  refine codeAny_mono run ?_
  rintro (e | fl) s2 h2
  · exact h2.elim
  · match fl, h2 with
    | .ret u, h2 => exact I1.after h2
end Bk

namespace Bk
open PySem PySem.Spec PyProof.Rows L2 RZ
section
variable {X : Cx} (K : PySem.W.Frag)
def rIxE (K : PySem.W.Frag) : R2 := fun x y H Q => rIxL K x y H Q ∨ rIxT K x y H Q
theorem kIxE (h : X.K = K) : IxR X (rIxE K) := h ▸ ix_list.or ix_tup
def rIndexI (K : PySem.W.Frag) : V → List V → Hp → VK → Prop := fun x xs H Q => ∃ p, ∃ ns : List Int, ∃ k : Int, x = .ref p ∧ xs = [.int k] ∧ SqL K H p (ns.map V.int) ∧ k ∈ ns ∧ ns.length ≤ sizeLine ∧ Q (.int (ns.idxOf k : Nat)) H
theorem kIndexI (h : X.K = K) : MtR X "list.index" (rIndexI K) := by
  subst h
  rintro pins s σ H x xs v us Q I rx rs ⟨p, ns, k, rfl, rfl, hq, hk, hz, q⟩
  cases rx
  obtain ⟨u, rfl, ru⟩ := rs.one
  obtain ⟨t, rfl⟩ := ru
  obtain ⟨its, r, pl, _⟩ := I.list hq
  exact SeqAt.list_index_ints pl.isList (intsAre_of r) hz hk ⟨.int _, H, I.tok _, ⟨_, rfl⟩, q⟩
end
theorem fn_or {P : Program} {w : World} {K : PySem.W.Frag} {mg : Str → Option Value} {base : Heap} {CX : CXT} {k : Nat} {f : Addr} {fd : FuncData} {ps : List Str} {sp sp' : Sp} (F : FnOk P w K mg base CX k f fd ps sp) (G : FnOk P w K mg base CX k f fd ps sp') :
    FnOk P w K mg base CX k f fd ps (fun vs H Q E => sp vs H Q E ∨ sp' vs H Q E) :=
  ⟨fun vs H Q E q => q.elim (F.len vs H Q E) (G.len vs H Q E), fun A outer s H args us vs Q E hr he hb hv hs => hs.elim (F.run A outer s H args us vs Q E hr he hb hv) (G.run A outer s H args us vs Q E hr he hb hv)⟩
theorem turn_of {K : PySem.W.Frag} {N : Addr → Prop} {H : Hp} {v : V} {d : PyData} {t : Trn} (h : Dq N H v d) (e : norm d = .list (t.map intD)) : ∃ a, v = .ref a ∧ (H a = some (.lst (trnV t)) ∨ FT H a (trnV t)) := by
  cases d with
  | list ds =>
    cases h with
    | lst h1 h2 h3 =>
      have := h3.ints (t := t) (by simpa only [norm, PyData.list.injEq] using e)
      subst this
      exact ⟨_, rfl, .inl h1⟩
  | tuple ds =>
    cases h with
    | tup h1 h2 =>
      have := h2.ints (t := t) (by simpa only [norm, PyData.list.injEq] using e)
      subst this
      exact ⟨_, rfl, .inr h1⟩
  | none => simp only [norm] at e; cases e
  | bool b => simp only [norm] at e; cases e
  | int i => simp only [norm] at e; cases e
  | str x => simp only [norm] at e; cases e
  | dict k => simp only [norm] at e; cases e
theorem ixE {K : PySem.W.Frag} {a : Addr} {xs : List V} {i : Int} {v : V} {H : Hp} {Q : VK} (h : H a = some (.lst xs) ∨ FT H a xs) (e : atI xs i = some v) (q : Q v H) : rIxE K (.ref a) (.int i) H Q :=
  h.elim (fun h => .inl ⟨a, xs, i, v, rfl, rfl, .inl (.inl h), e, q⟩) fun h => .inr ⟨a, xs, i, v, rfl, rfl, h.sqt, e, q⟩
theorem tupE {K : PySem.W.Frag} {a : Addr} {xs : List V} {H : Hp} {Q : VK} (h : H a = some (.lst xs) ∨ FT H a xs) (q : ∀ H' b, Same H H' → FT H' b xs → Q (.ref b) H') : rTupleF K [.ref a] H Q :=
  h.elim (fun h => ⟨a, xs, rfl, .inl ⟨.inl (.inl h), fun l o n d => q _ _ (same_new n) (FT.new d)⟩⟩) fun h => ⟨a, xs, rfl, .inr ⟨h.sqt, q _ _ (Same.refl _) h⟩⟩
theorem seq_same {a : Addr} {xs : List V} {H H' : Hp} (h : H a = some (.lst xs) ∨ FT H a xs) (s : Same H H') : H' a = some (.lst xs) ∨ FT H' a xs := h.imp (fun z => s _ _ z) fun z => z.mono s.tups
theorem setJ_comm {S : Spc} {b f n g : Nat} {x y : Jn} (h : (n, g) ≠ (b, f)) : setJ (setJ S n g x) b f y = setJ (setJ S b f y) n g x := by
  unfold setJ
  by_cases e : n = b
  · subst e
    rw [List.modify_modify_eq, List.modify_modify_eq]
    congr 1
    funext l
    exact List.set_comm _ _ (fun z => h (by rw [z]))
  · exact List.modify_modify_ne _ _ _ e
theorem join_sym {S : Spc} {b f n : Nat} {t : Trn} (ht : t ∈ allTurns) (hf : f < 4) (h : (n, tf t f) ≠ (b, f)) : joinJ S n (tf t f) b (back t) = joinJ S b f n t := by
  unfold joinJ
  rw [tf_back t ht f hf, back_back t ht]
  exact setJ_comm h
theorem erase_map {l : List Nat} {i : Nat} : (l.map intV).eraseIdx i = (l.eraseIdx i).map intV := by
  induction l generalizing i with
  | nil => rfl
  | cons x r ih =>
    cases i with
    | zero => rfl
    | succ i =>
      show intV x :: (r.map intV).eraseIdx i = intV x :: (r.eraseIdx i).map intV
      rw [ih]
theorem pop_ix {l : List Nat} {r : Int} (e : (l.map intV).length = l.length) (r0 : 0 ≤ r) (r1 : r < l.length) : seqIndex? r (l.map intV).length = some r.toNat := by
  have := seqIx_nat (n := (l.map intV).length) (k := r.toNat) (by rw [e]; omega)
  rw [Int.toNat_of_nonneg r0] at this
  exact this
theorem turn_dq {H : Hp} {a : Addr} {t : Trn} (h : H a = some (.lst (trnV t)) ∨ FT H a (trnV t)) : ∃ dt, Dq (fun _ => False) H (.ref a) dt ∧ norm dt = .list (t.map intD) := by
  have hn : norms (t.map intD) = t.map intD := by
    rw [norms_map, List.map_map]
    exact List.map_congr_left fun x _ => by simp only [Function.comp, intD, norm]
  rcases h with h | h
  · exact ⟨.list (t.map intD), .lst h (fun z => z) (dqs_ints t), by simp only [norm, hn]⟩
  · exact ⟨.tuple (t.map intD), .tup h (dqs_ints t), by simp only [norm, hn]⟩
theorem norm_turn (t : Trn) : norm (.tuple (t.map intD)) = .list (t.map intD) := by
  have hn : norms (t.map intD) = t.map intD := by
    rw [norms_map, List.map_map]
    exact List.map_congr_left fun x _ => by simp only [Function.comp, intD, norm]
  simp only [norm, hn]
theorem ints_shapedD (t : Trn) : SeqAt.shaped (.list (t.map intD)) = true := by
  rw [intD_map]
  exact ints_shaped _
theorem ints_eqv (t : Trn) : PyData.eqv (.list (t.map intD)) (.list (t.map intD)) = true := by
  refine SeqAt.eqv_refl _ ?_
  simp only [PyData.canLay0]
  induction t with
  | nil => rfl
  | cons x r ih => simpa only [List.map_cons, PyData.canLayAll0, intD, PyData.canLay0, Bool.true_and] using ih
mutual
theorem Dq.strong {N N' : Addr → Prop} {H : Hp} (n : ∀ a, N' a → N a ∨ H a = none) : ∀ {d : PyData} {v : V}, Dq N H v d → Dq N' H v d
  | .none, _, h => by
    cases h
    exact .non
  | .bool b, _, h => by
    cases h
    exact .bl b
  | .int i, _, h => by
    cases h
    exact .int i
  | .str x, _, h => by
    cases h
    exact .str x
  | .list ds, _, h => by
    cases h with
    | lst h1 h2 h3 => exact .lst h1 (fun z => (n _ z).elim h2 fun y => by rw [h1] at y; cases y) (Dqs.strong n h3)
  | .tuple ds, _, h => by
    cases h with
    | tup h1 h2 => exact .tup h1 (Dqs.strong n h2)
  | .dict _, _, h => by cases h
theorem Dqs.strong {N N' : Addr → Prop} {H : Hp} (n : ∀ a, N' a → N a ∨ H a = none) : ∀ {ds : List PyData} {vs : List V}, Dqs N H vs ds → Dqs N' H vs ds
  | [], _, h => by
    cases h
    exact .nil
  | d :: ds, _, h => by
    cases h with
    | cons h1 h2 => exact .cons (Dq.strong n h1) (Dqs.strong n h2)
end
/-- tuples of a space, from its data -/
theorem Dq.st {N : Addr → Prop} {H : Hp} {v : V} {S : Spc} (h : Dq N H v (shutD S)) : ST H v S := by
  have jat : ∀ {v : V} {j : Jn}, Dq N H v (jD j) → JAt H v j := by
    intro v j h
    cases j with
    | none => exact h.isNon (by simp only [jD, norm])
    | some k =>
      obtain ⟨n, t⟩ := k
      cases h with
      | tup g1 g2 =>
        obtain ⟨v1, w1, rfl, g3, g4⟩ := g2.uncons
        obtain ⟨v2, w2, rfl, g5, g6⟩ := g4.uncons
        cases g6
        cases g5 with
        | tup k1 k2 =>
          have e1 := g3.isInt (i := (n : Int)) (by simp only [intD, norm])
          subst e1
          have e2 := k2.ints (t := t) (by
            rw [norms_map, List.map_map]
            exact List.map_congr_left fun x _ => by simp only [Function.comp, intD, norm])
          subst e2
          exact ⟨_, _, rfl, g1, k1⟩
  have jats : ∀ {b : Blk} {vs : List V}, Dqs N H vs (b.map jD) → Paired (JAt H) vs b := by
    intro b
    induction b with
    | nil =>
      intro vs h
      cases h
      exact .nil
    | cons j b ih =>
      intro vs h
      obtain ⟨v, w, rfl, g1, g2⟩ := h.uncons
      exact .cons (jat g1) (ih g2)
  have bts : ∀ {S : Spc} {vs : List V}, Dqs N H vs (S.map fun b => .tuple (b.map jD)) → Paired (BT H) vs S := by
    intro S
    induction S with
    | nil =>
      intro vs h
      cases h
      exact .nil
    | cons b S ih =>
      intro vs h
      obtain ⟨v, w, rfl, g1, g2⟩ := h.uncons
      cases g1 with
      | tup k1 k2 => exact .cons ⟨_, _, rfl, k1, jats k2⟩ (ih g2)
  cases h with
  | tup g1 g2 => exact ⟨_, _, rfl, g1, bts g2⟩

theorem seq_of {a rest : TS} {D : Ends} {σ : L2.St} {H : Hp} (I : L2.St → Hp → Prop) (key : ∀ σ' H', I σ' H' → rest D σ' H') (h : ∀ r : TS, (∀ σ' H', I σ' H' → r D σ' H') → tSeq a r D σ H) : tSeq a rest D σ H := h rest key
/-- either reading of an expression -/
theorem pe_or2 {X : Cx} {e : Expr} {t u : TE} (h : PE X e t) (k : PE X e u) : PE X e (fun σ H Q => t σ H Q ∨ u σ H Q) := ⟨fun pins s σ H Q I q => q.elim (h.run pins s σ H Q I) (k.run pins s σ H Q I)⟩
theorem ixS {K : PySem.W.Frag} {a : Addr} {xs : List V} {i : Int} {v : V} {H : Hp} {Q : VK} (h : SqL K H a xs ∨ SqT K H a xs) (e : atI xs i = some v) (q : Q v H) : rIxE K (.ref a) (.int i) H Q :=
  h.elim (fun h => .inl ⟨a, xs, i, v, rfl, rfl, h, e, q⟩) fun h => .inr ⟨a, xs, i, v, rfl, rfl, h, e, q⟩
def rTupI (K : PySem.W.Frag) : V → List V → Hp → VK → Prop := fun x xs H Q => ∃ p, ∃ ns : List Int, ∃ k : Int, x = .ref p ∧ xs = [.int k] ∧ SqT K H p (ns.map V.int) ∧ k ∈ ns ∧ Q (.int (ns.idxOf k : Nat)) H
theorem kTupIxN {X : Cx} (K : PySem.W.Frag) (h : X.K = K) : MtR X "tuple.index" (rTupI K) := kTupIx K h
/-- o.index(e), o a list or a tuple -/
def tIdxE (K : PySem.W.Frag) (to : TE) (t : TA) : TE := fun σ H Q => tBM K "list" (rIndexI K) to t σ H Q ∨ tBMF (rTupI K) to t σ H Q
theorem pe_idxE {X : Cx} {K : PySem.W.Frag} {e : Expr} {to : TE} {t : TA} (h : PE X e (tBM K "list" (rIndexI K) to t)) (k : PE X e (tBMF (rTupI K) to t)) : PE X e (tIdxE K to t) := pe_or2 h k
theorem intV_map' (t : List Nat) : trnV t = (t.map fun c : Nat => (c : Int)).map V.int := by
  rw [List.map_map]
  rfl
theorem idxE {K : PySem.W.Frag} {to : TE} {t : TA} {σ : L2.St} {H : Hp} {Q : VK} (a : Addr) (o : List Nat) (b : Nat) (h1 : ∀ R : VK, R (.ref a) H → to σ H R) (h2 : ∀ R : List V → Hp → Prop, R [intV b] H → t σ H R)
    (ha : H a = some (.lst (trnV o)) ∨ FT H a (trnV o)) (mb : b ∈ o) (lo : o.length ≤ 1000) (q : Q (intV (o.idxOf b)) H) : tIdxE K to t σ H Q := by
  have mi : (b : Int) ∈ o.map fun c : Nat => (c : Int) := List.mem_map_of_mem mb
  have q' : Q (V.int (((o.map fun c : Nat => (c : Int)).idxOf (b : Int) : Nat) : Int)) H := by
    rw [idx_int]
    exact q
  rcases ha with ha | ha
  · refine .inl (h1 _ ⟨.inl ⟨rfl, _, .inl (.inl ha)⟩, h2 _ ⟨a, o.map (fun c : Nat => (c : Int)), b, rfl, rfl, ?_, mi, Nat.le_of_lt (small1000 (by rw [List.length_map]; exact lo)), q'⟩⟩)
    rw [← intV_map']
    exact .inl (.inl ha)
  · refine .inr (h1 _ ⟨⟨a, _, rfl, ha⟩, h2 _ ⟨a, o.map (fun c : Nat => (c : Int)), b, rfl, rfl, ?_, mi, q'⟩⟩)
    rw [← intV_map']
    exact ha.sqt
/-! ### names: an order, and a turn for each block -/
def nT (t : Trn) : PyData := .list (t.map intD)
def trnsD (ts : List Trn) : PyData := .list (ts.map nT)
/-- one of the turns that stand -/
theorem turns_at {K : PySem.W.Frag} {N : Addr → Prop} {H : Hp} {v : V} {d : PyData} {ts : List Trn} (h : Dq N H v d) (e : norm d = trnsD ts) {k : Nat} {t : Trn} (hk : ts[k]? = some t) :
    ∃ a xs x dx, v = .ref a ∧ (SqL K H a xs ∨ SqT K H a xs) ∧ xs.length = ts.length ∧ xs[k]? = some x ∧ Dq N H x dx ∧ norm dx = nT t := by
  obtain ⟨a, xs, ds, rfl, hq, _, hds, en⟩ := h.seq (K := K) e
  have ld : ds.length = ts.length := norm_len en
  obtain ⟨dx, hd⟩ : ∃ dx, ds[k]? = some dx := ⟨_, List.getElem?_eq_getElem (by have := (List.getElem?_eq_some_iff.mp hk).1; omega)⟩
  obtain ⟨x, hx, hxd⟩ := hds.get' hd
  obtain ⟨t', ht', et⟩ := norm_at en hd
  rw [hk] at ht'
  cases ht'
  exact ⟨a, xs, x, dx, rfl, hq, by rw [hds.len, ld], hx, hxd, et⟩
theorem Good.jokAt {S : Spc} (h : Good S) {b f : Nat} {j : Jn} (e : getJ S b f = some j) : Jok S.length j := fun n t z => by
  subst z
  exact ⟨h.lt e, (h.both _ _ _ _ e).1⟩
def tsAt (ts : List Trn) (k : Nat) : Trn := ts[k]?.getD []
def renJ (o : List Nat) (ts : List Trn) (bk : Trn) : Jn → Jn
  | none => none
  | some (n, t) => some (o.idxOf n, bk.map fun c => tf (tsAt ts (o.idxOf n)) (tf t c))
def renB (S : Spc) (o : List Nat) (ts : List Trn) (k : Nat) : Blk := (back (tsAt ts k)).map fun f => renJ o ts (back (tsAt ts k)) ((getJ S (tf o k) f).getD none)
def renS (S : Spc) (o : List Nat) (ts : List Trn) : Spc := (List.range S.length).map (renB S o ts)
structure Names (n : Nat) (o : List Nat) (ts : List Trn) : Prop where
  o : o.Perm (List.range n)
  l : ts.length = n
  t : ∀ t ∈ ts, t ∈ allTurns
theorem Names.lo {n : Nat} {o : List Nat} {ts : List Trn} (h : Names n o ts) : o.length = n := by rw [h.o.length_eq, List.length_range]
theorem Names.at {n : Nat} {o : List Nat} {ts : List Trn} (h : Names n o ts) {k : Nat} (hk : k < n) : o[k]? = some (tf o k) ∧ tf o k < n ∧ ts[k]? = some (tsAt ts k) ∧ tsAt ts k ∈ allTurns := by
  have e1 : o[k]? = some (o[k]'(by rw [h.lo]; exact hk)) := List.getElem?_eq_getElem _
  have e2 : ts[k]? = some (ts[k]'(by rw [h.l]; exact hk)) := List.getElem?_eq_getElem _
  have m1 := h.o.mem_iff.mp (List.mem_of_getElem? e1)
  rw [List.mem_range] at m1
  refine ⟨?_, ?_, ?_, ?_⟩
  · unfold tf
    rw [e1]
    rfl
  · unfold tf
    rw [e1]
    exact m1
  · unfold tsAt
    rw [e2]
    rfl
  · unfold tsAt
    rw [e2]
    exact h.t _ (List.mem_of_getElem? e2)
theorem Names.idx {n : Nat} {o : List Nat} {ts : List Trn} (h : Names n o ts) {b : Nat} (hb : b < n) : b ∈ o ∧ o.idxOf b < n := by
  have m : b ∈ o := h.o.mem_iff.mpr (List.mem_range.mpr hb)
  exact ⟨m, by rw [← h.lo]; exact List.idxOf_lt_length_iff.mpr m⟩
theorem back4 {t : Trn} (ht : t ∈ allTurns) : (back t).length = 4 ∧ (∀ c < 4, (back t)[c]? = some (tf (back t) c) ∧ tf (back t) c < 4) ∧ ∀ c ∈ back t, c < 4 := by
  have hb := back_mem ht
  have h4 := turns4 _ hb
  exact ⟨h4.1, fun c hc => ⟨(tf_lt _ hb c hc).2, (tf_lt _ hb c hc).1⟩, h4.2.1⟩
theorem renB_len {S : Spc} {o : List Nat} {ts : List Trn} {k : Nat} (h : tsAt ts k ∈ allTurns) : (renB S o ts k).length = 4 := by
  unfold renB
  rw [List.length_map, (back4 h).1]
theorem renS_len (S : Spc) (o : List Nat) (ts : List Trn) : (renS S o ts).length = S.length := by
  unfold renS
  rw [List.length_map, List.length_range]
theorem len3 {α : Type} {l : List α} (h : l.length = 3) : ∃ a b c, l = [a, b, c] := by
  match l, h with
  | [a, b, c], _ => exact ⟨a, b, c, rfl⟩
theorem p3 {α β : Type} {F : α → β → Prop} {xs : List α} {a b c : β} (h : Paired F xs [a, b, c]) : ∃ x y z, xs = [x, y, z] ∧ F x a ∧ F y b ∧ F z c := by
  cases h with
  | cons h0 h => cases h with
    | cons h1 h => cases h with
      | cons h2 h => cases h with
        | nil => exact ⟨_, _, _, rfl, h0, h1, h2⟩
theorem tiny3 {d0 d1 d2 : PyData} {b k : Nat} (h0 : Tiny d0 b k) (h1 : Tiny d1 b k) (h2 : Tiny d2 b k) : Tiny (.list [d0, d1, d2]) (b + b + b + 3) (k + 1) := by
  have a0 := h0.b
  have a1 := h1.b
  have a2 := h2.b
  have c0 := h0.k
  have c1 := h1.k
  have c2 := h2.k
  refine ⟨?_, ?_, ?_, ?_, ?_⟩
  · simp only [PyData.bulk, PyData.bulkAll]
    omega
  · simp only [PyData.depth, PyData.depthAll]
    omega
  · simp only [PyData.showable, PyData.showableAll, h0.s, h1.s, h2.s]
    rfl
  · simp only [PyData.hasDict, PyData.hasDictAll, h0.h, h1.h, h2.h]
    rfl
  · simp only [PyData.leavesShort, PyData.leavesShortAll, h0.l, h1.l, h2.l]
    rfl
theorem Tiny.le {d : PyData} {b k b' k' : Nat} (h : Tiny d b k) (hb : b ≤ b') (hk : k ≤ k') : Tiny d b' k' := ⟨Nat.le_trans h.b hb, Nat.le_trans h.k hk, h.s, h.h, h.l⟩
def tupD (t : Trn) : PyData := .tuple (t.map intD)
theorem norm_ints (t : Trn) : norms (t.map intD) = t.map intD := by
  rw [norms_map, List.map_map]
  exact List.map_congr_left fun x _ => by simp only [Function.comp, intD, norm]
theorem norm_tups (ts : List Trn) : norm (.list (ts.map tupD)) = trnsD ts := by
  have h : norms (ts.map tupD) = ts.map nT := by
    rw [norms_map, List.map_map]
    exact List.map_congr_left fun t _ => by simp only [Function.comp, tupD, norm, norm_ints, nT]
  simp only [norm, h, trnsD]
theorem norm_list (t : Trn) : norm (.list (t.map intD)) = .list (t.map intD) := by simp only [norm, norm_ints]
theorem tats_dqs {N : Addr → Prop} {H : Hp} : ∀ {ws : List V} {ts : List Trn}, Paired (TAt H) ws ts → Dqs N H ws (ts.map tupD)
  | _, _, .nil => .nil
  | _, _, .cons r t => by
    obtain ⟨p, rfl, fp⟩ := r
    exact .cons (.tup fp (dqs_ints _)) (tats_dqs t)
theorem order_tiny {o : List Nat} (h : ∀ x ∈ o, x < 64) (l : o.length ≤ 60) : Tiny (.list (o.map intD)) 1320 4 := by
  obtain ⟨h1, h2, h3, h4, h5⟩ := ints_tiny h
  exact ⟨by simp only [PyData.bulk, h1]; omega, by simp only [PyData.depth, h2]; omega, by simpa only [PyData.showable] using h3, by simpa only [PyData.hasDict] using h4, by simpa only [PyData.leavesShort] using h5⟩
theorem turns_tiny0 : ∀ {ts : List Trn}, (∀ t ∈ ts, t ∈ allTurns) → PyData.bulkAll (ts.map tupD) ≤ 5 * ts.length ∧ PyData.depthAll (ts.map tupD) ≤ 1 ∧ PyData.showableAll (ts.map tupD) = true ∧ PyData.hasDictAll (ts.map tupD) = false ∧ PyData.leavesShortAll 8 (ts.map tupD) = true
  | [], _ => by simp [PyData.bulkAll, PyData.depthAll, PyData.showableAll, PyData.hasDictAll, PyData.leavesShortAll]
  | t :: ts, h => by
    obtain ⟨h1, h2, h3, h4, h5⟩ := turns_tiny0 (ts := ts) fun y hy => h y (List.mem_cons_of_mem _ hy)
    have ht := turns4 t (h t List.mem_cons_self)
    obtain ⟨g1, g2, g3, g4, g5⟩ := ints_tiny (t := t) fun x hx => Nat.lt_of_lt_of_le (ht.2.1 x hx) (by decide)
    simp only [List.map_cons, PyData.bulkAll, PyData.depthAll, PyData.showableAll, PyData.hasDictAll, PyData.leavesShortAll, h3, h4, h5, tupD, PyData.bulk, PyData.depth, PyData.showable, PyData.hasDict, PyData.leavesShort, g1, g2, g3, g4, g5, List.length_cons]
    refine ⟨?_, ?_, rfl, rfl, rfl⟩
    · have := ht.1
      omega
    · omega
theorem turns_tiny {ts : List Trn} (h : ∀ t ∈ ts, t ∈ allTurns) (l : ts.length ≤ 60) : Tiny (.list (ts.map tupD)) 1320 4 := by
  obtain ⟨h1, h2, h3, h4, h5⟩ := turns_tiny0 h
  exact ⟨by simp only [PyData.bulk]; omega, by simp only [PyData.depth]; omega, by simpa only [PyData.showable] using h3, by simpa only [PyData.hasDict] using h4, by simpa only [PyData.leavesShort] using h5⟩
theorem ren_sb {S : Spc} {o : List Nat} {ts : List Trn} (hG : Good S) (hn : Names S.length o ts) (hl : S.length ≤ 40) : Sb (renS S o ts) := by
  refine ⟨by rw [renS_len]; exact hl, fun b hb => ?_⟩
  unfold renS at hb
  obtain ⟨k, hk, rfl⟩ := List.mem_map.mp hb
  have hk := List.mem_range.mp hk
  obtain ⟨eo, lo, et, mt⟩ := hn.at hk
  refine ⟨renB_len mt, fun j hj n t e => ?_⟩
  unfold renB at hj
  obtain ⟨f, hf, rfl⟩ := List.mem_map.mp hj
  have f4 := (back4 mt).2.2 f hf
  obtain ⟨x, hx⟩ := hG.l4.get (b := tf o k) (f := f) lo f4
  rw [hx] at e
  cases x with
  | none => cases e
  | some y =>
    obtain ⟨m, u⟩ := y
    obtain ⟨hm, hu⟩ := hG.jokAt hx m u rfl
    obtain ⟨_, im⟩ := hn.idx hm
    obtain ⟨_, _, _, ma⟩ := hn.at im
    cases e
    refine ⟨by omega, by rw [List.length_map, (back4 mt).1], fun z hz => ?_⟩
    obtain ⟨c, hc, rfl⟩ := List.mem_map.mp hz
    exact (tf_lt _ ma _ (tf_lt u hu c ((back4 mt).2.2 c hc)).1).1
theorem Names.lt {n : Nat} {o : List Nat} {ts : List Trn} (h : Names n o ts) : ∀ x ∈ o, x < n := fun x hx => List.mem_range.mp (h.o.mem_iff.mp hx)
end Bk

namespace Bk
open PySem PySem.Spec PyProof.Rows L2 RZ
local macro_rules | `(tactic| walk_at "g") => `(tactic| (repeat first | refine ⟨_, rfl, ?_⟩ | refine ⟨cpow, ?_⟩ | refine ⟨wideM, ?_⟩ | refine ⟨_, _, rfl, rfl, ?_⟩ | refine ⟨rfl, ?_⟩))
section
variable {P : Program} {w : World} {K : PySem.W.Frag} {mg : Str → Option Value} {base : Heap}
/-! ### contrary, of lists too -/
def spBackL : Sp := fun vs H Q _ => ∃ p t, vs = [.ref p] ∧ H p = some (.lst (trnV t)) ∧ t ∈ allTurns ∧ ∀ H' p', Same H H' → H p' = none → TAt H' (.ref p') (back t) → Q (.ref p') H'
theorem okcontraryL {f : Addr} {fd : FuncData} (F : Fun K "contrary" "contrary" scontrary f fd) (m_range : mg "range" = none) (m_tuple : mg "tuple" = none) : FnOk P w K mg base CX0 1 f fd ["turn"] spBackL := by
  refine F.ok sccontrary (fun vs H Q E h => ?_) (fun cdv A outer s H vs Q E hr h => ?_)
  · obtain ⟨p, t, rfl, _⟩ := h
    rfl
  · obtain ⟨p, t, rfl, hp, ht, q⟩ := h
    have nd := sccontrary.nd
    refine ⟨_, (pss_one (ps_ret (pe_callTy (kTupleF K rfl) (by rfl) m_tuple (by decide +kernel) (pa_cons (pe_lc (own := [("corner", 1)]) (g := gName 1) (tt := tYes) rfl nd (pi_range1 (by rfl) m_range (pa_cons pe_int pa_nil)) (blkOk_by (own := [("corner", 1)]) (N := Ncontrary) (sc := defScope scontrary) (by decide +kernel)) (fun _ _ _ _ _ => (pg_name (i := 1) nd rfl (Or.inl rfl))) (fun _ _ _ _ _ => pts_nil) (fun _ _ _ _ _ => (kBM K rfl (pe_bm PySem.F.plainAttrs_list PySem.F.slot_list_index PySem.F.type_list_index (kIndexI K rfl) (pv 0) (pa_cons (pv 1) pa_nil))))) pa_nil)))), ?_⟩
    refine ⟨4, rfl, by decide, by decide, fun D nD => ?_⟩
    have hpD : p ≠ D := ne_of_none hp nD
    refine lc_range (lo := 0) (n := 4) (fun i H2 => H2 = upd H D (.lst (((List.range i).map fun c => t.idxOf c).map intV))) rfl ?_ ?_
    · rintro c H2 hc rfl
      rw [Int.zero_add]
      have t4 := turns4 t ht
      have hm : (c : Int) ∈ t.map fun c : Nat => (c : Int) := List.mem_map_of_mem (List.mem_of_getElem? (t4.2.2.2.1 c hc))
      have h1 : (upd H D (.lst (((List.range c).map fun c => t.idxOf c).map intV))) p = some (.lst (trnV t)) := by
        rw [upd_ne hpD]
        exact hp
      refine ⟨rfl, .ref p, rfl, .inl ⟨rfl, _, .inl (.inl h1)⟩, _, rfl, p, t.map fun c : Nat => (c : Int), c, rfl, rfl, ?_, hm, Nat.le_of_lt (small1000 (by rw [List.length_map]; have := t4.1; omega)), ?_⟩
      · rw [← intV_map]
        exact .inl (.inl h1)
      rw [idx_int]
      refine ⟨_, upd_same, small1000 (by rw [List.length_map, List.length_map, List.length_range]; omega), ?_⟩
      rw [upd_upd, List.range_succ, List.map_append, List.map_append]
      rfl
    · rintro H2 rfl
      refine ⟨D, _, rfl, .inl ⟨.inl (.inl upd_same), fun p2 o2 np2 d2 => ?_⟩⟩
      exact q _ p2 ((same_new nD).trans (same_new np2)) ((same_new nD).free np2) ⟨p2, rfl, FT.new d2⟩
def spBackE : Sp := fun vs H Q E => spBack vs H Q E ∨ spBackL vs H Q E
theorem backE {a : Addr} {t : Trn} {H : Hp} {Q : VK} {E : XK} (h : H a = some (.lst (trnV t)) ∨ FT H a (trnV t)) (ht : t ∈ allTurns) (q : ∀ H' p', Same H H' → H p' = none → TAt H' (.ref p') (back t) → Q (.ref p') H') : spBackE [.ref a] H Q E :=
  h.elim (fun h => .inr ⟨a, t, rfl, h, ht, q⟩) fun h => .inl ⟨_, t, rfl, ⟨a, rfl, h⟩, ht, q⟩
end
end Bk

namespace Bk
open PySem PySem.Spec PyProof.Rows L2 RZ
local macro_rules | `(tactic| walk_at "g") => `(tactic| (repeat first | refine ⟨_, rfl, ?_⟩ | refine ⟨cpow, ?_⟩ | refine ⟨wideM, ?_⟩ | refine ⟨_, _, rfl, rfl, ?_⟩ | refine ⟨rfl, ?_⟩))
section
variable {P : Program} {w : World} {K : PySem.W.Frag} {mg : Str → Option Value} {base : Heap}
/-! ### _renamed_joining -/
def spRenJ : Sp := fun vs H Q _ => ∃ (N N2 : Addr → Prop) (jv ov tv bv : V) (od td : PyData) (n : Nat) (o : List Nat) (ts : List Trn) (bk : Trn) (j : Jn), vs = [jv, ov, tv, bv] ∧ JAt H jv j ∧ Jok n j ∧ Dq N H ov od ∧ norm od = .list (o.map intD) ∧ Dq N2 H tv td ∧ norm td = trnsD ts ∧ Names n o ts ∧ n ≤ 60 ∧
  TAt H bv bk ∧ bk ∈ allTurns ∧ ∀ H' v', Same H H' → JAt H' v' (renJ o ts bk j) → Q v' H'
/-! ### _renamed_block -/
def spRenB : Sp := fun vs H Q _ => ∃ (N N2 : Addr → Prop) (v ov tv : V) (od td : PyData) (S : Spc) (o : List Nat) (ts : List Trn) (k : Nat), vs = [v, ov, tv, intV k] ∧ ST H v S ∧ Good S ∧ Dq N H ov od ∧ norm od = .list (o.map intD) ∧ Dq N2 H tv td ∧ norm td = trnsD ts ∧ Names S.length o ts ∧ S.length ≤ 60 ∧
  k < S.length ∧ ∀ H' v', Same H H' → BT H' v' (renB S o ts k) → Q v' H'
/-! ### renamed -/
def spRenamed : Sp := fun vs H Q _ => ∃ (N N1 N2 : Addr → Prop) (v ov tv : V) (d od td : PyData) (S : Spc) (o : List Nat) (ts : List Trn), vs = [v, ov, tv] ∧ Dq N H v d ∧ norm d = nS S ∧ Good S ∧ 1 ≤ S.length ∧ S.length ≤ 60 ∧ Dq N1 H ov od ∧ norm od = .list (o.map intD) ∧ Dq N2 H tv td ∧ norm td = trnsD ts ∧ Names S.length o ts ∧
  ∀ H' v', Same H H' → ST H' v' (renS S o ts) → Q v' H'
end
end Bk

namespace Bk
open PySem PySem.Spec PyProof.Rows L2 RZ
local macro_rules | `(tactic| walk_at "g") => `(tactic| (repeat first | refine ⟨_, rfl, ?_⟩ | refine ⟨cpow, ?_⟩ | refine ⟨wideM, ?_⟩ | refine ⟨_, _, rfl, rfl, ?_⟩ | refine ⟨rfl, ?_⟩))
section
variable {P : Program} {w : World} {K : PySem.W.Frag} {mg : Str → Option Value} {base : Heap}
/-! ### _law_names -/
theorem rgV_nat (n : Nat) : rgV 0 (n : Int) = (List.range n).map intV := by
  unfold rgV
  rw [show ((n : Int) - 0).toNat = n by omega]
  exact List.map_congr_left fun x _ => by
    show V.int (0 + (x : Int)) = V.int (x : Int)
    rw [Int.zero_add]
structure NamesAt (H0 H : Hp) (R po pt : Addr) (o : List Nat) (ws : List V) (ts : List Trn) (n : Nat) : Prop where
  ho : H po = some (.lst (trnV o))
  ht : H pt = some (.lst ws)
  hw : Paired (TAt H) ws ts
  ok : Names n o ts
  ao : Away R po H
  at_ : Away R pt H
  ne : po ≠ pt
  fo : H0 po = none
  ft : H0 pt = none
def spNames : Sp := fun vs H Q _ => ∃ (R : Addr) (n : Nat), vs = [.ref R, intV n] ∧ 1 ≤ n ∧ n ≤ 60 ∧ ReelOk R H ∧
  ∀ H' p po pt o ws ts, Keep R H H' → Aw R H H' → ReelOk R H' → FT H' p [.ref po, .ref pt] → NamesAt H H' R po pt o ws ts n → Q (.ref p) H'
end
end Bk

namespace Bk
open PySem PySem.Spec PyProof.Rows L2 RZ
local macro_rules | `(tactic| walk_at "g") => `(tactic| (repeat first | refine ⟨_, rfl, ?_⟩ | refine ⟨cpow, ?_⟩ | refine ⟨wideM, ?_⟩ | refine ⟨_, _, rfl, rfl, ?_⟩ | refine ⟨rfl, ?_⟩))
/-! ### renamed spaces, face by face -/
theorem spc_ext {U W : Spc} (l : U.length = W.length) (h4 : L4 U) (h4' : L4 W) (h : ∀ b g, b < U.length → g < 4 → getJ U b g = getJ W b g) : U = W := by
  apply List.ext_getElem l
  intro b hb hb'
  have e1 : U[b]? = some U[b] := List.getElem?_eq_getElem hb
  have e2 : W[b]? = some W[b] := List.getElem?_eq_getElem hb'
  have l1 := h4 _ (List.getElem_mem hb)
  have l2 := h4' _ (List.getElem_mem hb')
  apply List.ext_getElem (l1.trans l2.symm)
  intro g hg hg'
  have := h b g hb (by omega)
  unfold getJ at this
  rw [e1, e2] at this
  have z : U[b][g]? = W[b][g]? := this
  rw [List.getElem?_eq_getElem hg, List.getElem?_eq_getElem hg'] at z
  exact Option.some.inj z
theorem tf_eq {t : Trn} {i c : Nat} (h : t[i]? = some c) : tf t i = c := by
  unfold tf
  rw [h]
  rfl
theorem range_tf {b : Trn} (h : b.length = 4) : b = (List.range 4).map (tf b) := by
  apply List.ext_getElem (by rw [h]; rfl)
  intro i h1 h2
  rw [List.getElem_map, List.getElem_range]
  exact (tf_eq (List.getElem?_eq_getElem h1)).symm
theorem tf_map {w : Trn} {f : Nat → Nat} {c : Nat} (hc : c < w.length) : tf (w.map f) c = f (tf w c) := by
  unfold tf
  rw [List.getElem?_map, List.getElem?_eq_getElem hc]
  rfl
def tJ (S : Spc) (o : List Nat) (ts : List Trn) (b g : Nat) : Jn := renJ o ts (back (tsAt ts b)) ((getJ S (tf o b) (tf (back (tsAt ts b)) g)).getD none)
theorem getJ_ren {S : Spc} {o : List Nat} {ts : List Trn} {b g : Nat} (hb : b < S.length) (hg : g < 4) (ht : tsAt ts b ∈ allTurns) : getJ (renS S o ts) b g = some (tJ S o ts b g) := by
  have e1 : (renS S o ts)[b]? = some (renB S o ts b) := by
    unfold renS
    rw [List.getElem?_map, List.getElem?_range hb]
    rfl
  unfold getJ
  rw [e1]
  show (renB S o ts b)[g]? = _
  unfold renB
  rw [List.getElem?_map, ((back4 ht).2.1 g hg).1]
  rfl
theorem renS_l4 {S : Spc} {o : List Nat} {ts : List Trn} (h : Names S.length o ts) : L4 (renS S o ts) := fun b hb => by
  unfold renS at hb
  obtain ⟨k, hk, rfl⟩ := List.mem_map.mp hb
  exact renB_len (h.at (List.mem_range.mp hk)).2.2.2
/-- all turns are there and back -/
theorem there {t : Trn} (h : t ∈ allTurns) {f : Nat} (hf : f < 4) : tf t f < 4 ∧ tf (back t) (tf t f) = f := ⟨(tf_lt t h f hf).1, tf_back t h f hf⟩
theorem backto {t : Trn} (h : t ∈ allTurns) {g : Nat} (hg : g < 4) : tf (back t) g < 4 ∧ tf t (tf (back t) g) = g := by
  have hb := back_mem h
  have := there hb hg
  rw [back_back t h] at this
  exact this
theorem map_set4 {α : Type} {F G : Nat → α} {g0 : Nat} (hg : g0 < 4) (h : ∀ g < 4, g ≠ g0 → F g = G g) : ((List.range 4).map F).set g0 (G g0) = (List.range 4).map G := by
  apply List.ext_getElem (by rw [List.length_set, List.length_map, List.length_map])
  intro i h1 h2
  rw [List.length_map, List.length_range] at h2
  rw [List.getElem_set, List.getElem_map, List.getElem_map, List.getElem_range]
  by_cases e : g0 = i
  · rw [if_pos e, e]
  · rw [if_neg e]
    exact h i h2 (fun z => e z.symm)
/-- what stands so far -/
structure Part (S : Spc) (o : List Nat) (ts : List Trn) (k f : Nat) (U : Spc) : Prop where
  l : U.length = S.length
  l4 : L4 U
  at_ : ∀ b g, b < S.length → g < 4 → getJ U b g = some (if b < k ∨ (b = k ∧ tf (back (tsAt ts b)) g < f) then tJ S o ts b g else none)
theorem Part.zero (S : Spc) (o : List Nat) (ts : List Trn) : Part S o ts 0 0 (freeS S.length) := by
  refine ⟨List.length_replicate, (freeS_good _).l4, fun b g hb hg => ?_⟩
  obtain ⟨z, hz⟩ := (freeS_good S.length).l4.get (b := b) (f := g) (by unfold freeS; rw [List.length_replicate]; exact hb) hg
  rw [hz, freeS_get hz, if_neg (by omega)]
theorem Part.next {S : Spc} {o : List Nat} {ts : List Trn} {k : Nat} {U : Spc} (h : Part S o ts k 4 U) (hn : Names S.length o ts) : Part S o ts (k + 1) 0 U := by
  refine ⟨h.l, h.l4, fun b g hb hg => ?_⟩
  rw [h.at_ b g hb hg]
  have := (backto (hn.at hb).2.2.2 hg).1
  by_cases e : b < k ∨ (b = k ∧ tf (back (tsAt ts b)) g < 4)
  · rw [if_pos e, if_pos (by omega)]
  · rw [if_neg e, if_neg (by omega)]
theorem Part.skip {S : Spc} {o : List Nat} {ts : List Trn} {k f : Nat} {U : Spc} (h : Part S o ts k f U) (hn : Names S.length o ts) (hk : k < S.length) (e : getJ S (tf o k) f = some none) : Part S o ts k (f + 1) U := by
  refine ⟨h.l, h.l4, fun b g hb hg => ?_⟩
  rw [h.at_ b g hb hg]
  by_cases e1 : b < k ∨ (b = k ∧ tf (back (tsAt ts b)) g < f)
  · rw [if_pos e1, if_pos (by omega)]
  · rw [if_neg e1]
    by_cases e2 : b < k ∨ (b = k ∧ tf (back (tsAt ts b)) g < f + 1)
    · rw [if_pos e2]
      obtain ⟨rfl, e3⟩ : b = k ∧ tf (back (tsAt ts b)) g = f := by omega
      unfold tJ
      rw [e3, e]
      rfl
    · rw [if_neg e2]
theorem Part.put {S : Spc} {o : List Nat} {ts : List Trn} {k f n : Nat} {t : Trn} {U : Spc} (h : Part S o ts k f U) (hn : Names S.length o ts) (hk : k < S.length) (hf : f < 4) (e : getJ S (tf o k) f = some (some (n, t))) :
    Part S o ts k (f + 1) (setJ U k (tf (tsAt ts k) f) (renJ o ts (back (tsAt ts k)) (some (n, t)))) := by
  have mt := (hn.at hk).2.2.2
  have th := there mt hf
  refine ⟨by rw [setJ_len]; exact h.l, h.l4.set _ _ _, fun b g hb hg => ?_⟩
  rw [getJ_set, h.at_ b g hb hg]
  by_cases c : b = k ∧ g = tf (tsAt ts k) f
  · obtain ⟨rfl, rfl⟩ := c
    rw [if_pos ⟨rfl, rfl⟩, Option.map_some]
    have e2 : (if b < b ∨ (b = b ∧ tf (back (tsAt ts b)) (tf (tsAt ts b) f) < f + 1) then tJ S o ts b (tf (tsAt ts b) f) else none) = tJ S o ts b (tf (tsAt ts b) f) := if_pos (.inr ⟨rfl, by rw [th.2]; omega⟩)
    rw [e2]
    unfold tJ
    rw [th.2, e]
    rfl
  · rw [if_neg c]
    have nf : b = k → tf (back (tsAt ts b)) g ≠ f := fun z z2 => c ⟨z, by
      subst z
      have := (backto mt hg).2
      rw [z2] at this
      exact this.symm⟩
    by_cases e1 : b < k ∨ (b = k ∧ tf (back (tsAt ts b)) g < f)
    · rw [if_pos e1, if_pos (by omega)]
    · rw [if_neg e1, if_neg (fun z => e1 (by
        rcases z with z | ⟨z1, z2⟩
        · exact .inl z
        · have := nf z1
          exact .inr ⟨z1, by omega⟩))]
theorem Part.done {S : Spc} {o : List Nat} {ts : List Trn} {U : Spc} (h : Part S o ts S.length 0 U) (hn : Names S.length o ts) : U = renS S o ts := by
  refine spc_ext (h.l.trans (renS_len S o ts).symm) h.l4 (renS_l4 hn) fun b g hb hg => ?_
  rw [h.l] at hb
  rw [h.at_ b g hb hg, getJ_ren hb hg (hn.at hb).2.2.2, if_pos (.inl hb)]
/-- the turn so far -/
def turnTo (tk : Trn) (X : Nat → Nat) (c : Nat) : List Nat := (List.range 4).map fun g => if tf (back tk) g < c then X (tf (back tk) g) else 0
theorem turnTo_zero (tk : Trn) (X : Nat → Nat) : turnTo tk X 0 = [0, 0, 0, 0] := rfl
theorem turnTo_set {tk : Trn} (h : tk ∈ allTurns) (X : Nat → Nat) {c : Nat} (hc : c < 4) : (turnTo tk X c).set (tf tk c) (X c) = turnTo tk X (c + 1) := by
  have th := there h hc
  unfold turnTo
  have e : X c = (fun g => if tf (back tk) g < c + 1 then X (tf (back tk) g) else 0) (tf tk c) := by
    show X c = if tf (back tk) (tf tk c) < c + 1 then X (tf (back tk) (tf tk c)) else 0
    rw [th.2, if_pos (by omega)]
  rw [e]
  refine map_set4 (F := fun g => if tf (back tk) g < c then X (tf (back tk) g) else 0) (G := fun g => if tf (back tk) g < c + 1 then X (tf (back tk) g) else 0) th.1 fun g hg ne => ?_
  show (if tf (back tk) g < c then X (tf (back tk) g) else 0) = if tf (back tk) g < c + 1 then X (tf (back tk) g) else 0
  have nc : tf (back tk) g ≠ c := fun z => ne (by
    have := (backto h hg).2
    rw [z] at this
    exact this.symm)
  by_cases e1 : tf (back tk) g < c
  · rw [if_pos e1, if_pos (by omega)]
  · rw [if_neg e1, if_neg (by omega)]
theorem turnTo_all {tk : Trn} (h : tk ∈ allTurns) (X : Nat → Nat) : turnTo tk X 4 = (back tk).map X := by
  have e := range_tf (back4 h).1
  unfold turnTo
  conv => rhs; rw [e, List.map_map]
  refine List.map_congr_left fun g hg => ?_
  rw [if_pos (backto h (List.mem_range.mp hg)).1]
  rfl
end Bk

namespace Bk
open PySem PySem.Spec PyProof.Rows L2 RZ
/-! ### turns put together -/
/-- first a, then b -/
def cmp (a b : Trn) : Trn := a.map (tf b)
def idT : Trn := [0, 1, 2, 3]
theorem cmp_turn : ∀ a ∈ allTurns, ∀ b ∈ allTurns, cmp a b ∈ allTurns ∧ back (cmp a b) = cmp (back b) (back a) := by decide +kernel
theorem cmp_back : ∀ a ∈ allTurns, cmp a (back a) = idT ∧ cmp (back a) a = idT := by decide +kernel
theorem idT_turn : idT ∈ allTurns ∧ back idT = idT := by decide +kernel
theorem tf_cmp {a b : Trn} (ha : a ∈ allTurns) {c : Nat} (hc : c < 4) : tf (cmp a b) c = tf b (tf a c) := tf_map (by rw [(turns4 a ha).1]; exact hc)
theorem map_lt {b : Trn} {f g : Nat → Nat} (hb : ∀ c ∈ b, c < 4) (h : ∀ c < 4, f c = g c) : b.map f = b.map g := List.map_congr_left fun c hc => h c (hb c hc)
theorem lt4 {t : Trn} (h : t ∈ allTurns) : ∀ c ∈ t, c < 4 := (turns4 t h).2.1
/-- a renamed joining's turn -/
theorem ren_turn {bk t u : Trn} (hb : bk ∈ allTurns) (ht : t ∈ allTurns) : (bk.map fun c => tf u (tf t c)) = cmp (cmp bk t) u := by
  unfold cmp
  rw [List.map_map]
  rfl
theorem cmp_assoc {a b c : Trn} (ha : a ∈ allTurns) (hb : b ∈ allTurns) : cmp (cmp a b) c = cmp a (cmp b c) := by
  have h : ∀ x < 4, (tf c ∘ tf b) x = tf (cmp b c) x := fun x hx => (tf_cmp hb hx).symm
  show (a.map (tf b)).map (tf c) = a.map (tf (cmp b c))
  rw [List.map_map]
  exact map_lt (lt4 ha) h
theorem cmp_id {a : Trn} (ha : a ∈ allTurns) : cmp a idT = a ∧ cmp idT a = a := by
  constructor
  · have h : ∀ c < 4, tf idT c = id c := by decide
    show a.map (tf idT) = a
    rw [map_lt (lt4 ha) h, List.map_id]
  · exact (range_tf (turns4 a ha).1).symm
theorem tf_inj {t : Trn} (h : t ∈ allTurns) {a b : Nat} (ha : a < 4) (hb : b < 4) (e : tf t a = tf t b) : a = b := by
  have h1 := (there h ha).2
  rw [e, (there h hb).2] at h1
  exact h1.symm
/-! ### orders -/
theorem Names.nd {n : Nat} {o : List Nat} {ts : List Trn} (h : Names n o ts) : o.Nodup := h.o.symm.nodup List.nodup_range
theorem Names.at_idx {n : Nat} {o : List Nat} {ts : List Trn} (h : Names n o ts) {b : Nat} (hb : b < n) : tf o (o.idxOf b) = b := by
  have hm := (h.idx hb).1
  have hl : o.idxOf b < o.length := List.idxOf_lt_length_iff.mpr hm
  refine tf_eq ?_
  rw [List.getElem?_eq_getElem hl, List.getElem_idxOf]
theorem Names.idx_at {n : Nat} {o : List Nat} {ts : List Trn} (h : Names n o ts) {k : Nat} (hk : k < n) : o.idxOf (tf o k) = k := by
  obtain ⟨e, l, _, _⟩ := h.at hk
  have e2 : o[o.idxOf (tf o k)]? = some (tf o k) := by
    have hl : o.idxOf (tf o k) < o.length := List.idxOf_lt_length_iff.mpr (List.mem_of_getElem? e)
    rw [List.getElem?_eq_getElem hl, List.getElem_idxOf]
  exact nd_ix h.nd e2 e
theorem tsAt_eq {ts : List Trn} {k : Nat} {t : Trn} (h : ts[k]? = some t) : tsAt ts k = t := by
  unfold tsAt
  rw [h]
  rfl
theorem tsAt_map {α : Type} {l : List α} {f : α → Trn} {k : Nat} {x : α} (h : l[k]? = some x) : tsAt (l.map f) k = f x := tsAt_eq (by rw [List.getElem?_map, h]; rfl)
theorem tf_mapat {l : List Nat} {f : Nat → Nat} {k x : Nat} (h : l[k]? = some x) : tf (l.map f) k = f x := tf_eq (by rw [List.getElem?_map, h]; rfl)
/-- where a face goes -/
theorem tJ_some {S : Spc} {o : List Nat} {ts : List Trn} {b g n : Nat} {t : Trn} (h : getJ S (tf o b) (tf (back (tsAt ts b)) g) = some (some (n, t))) : tJ S o ts b g = some (o.idxOf n, (back (tsAt ts b)).map fun c => tf (tsAt ts (o.idxOf n)) (tf t c)) := by
  unfold tJ
  rw [h]
  rfl
theorem tJ_none {S : Spc} {o : List Nat} {ts : List Trn} {b g : Nat} (h : getJ S (tf o b) (tf (back (tsAt ts b)) g) = some none) : tJ S o ts b g = none := by
  unfold tJ
  rw [h]
  rfl
theorem ren_get {S : Spc} {o : List Nat} {ts : List Trn} (hG : Good S) (hn : Names S.length o ts) {b g : Nat} (hb : b < S.length) (hg : g < 4) : ∃ j, getJ S (tf o b) (tf (back (tsAt ts b)) g) = some j ∧ getJ (renS S o ts) b g = some (renJ o ts (back (tsAt ts b)) j) := by
  obtain ⟨_, lo, _, mt⟩ := hn.at hb
  obtain ⟨j, hj⟩ := hG.l4.get (b := tf o b) (f := tf (back (tsAt ts b)) g) lo (backto mt hg).1
  refine ⟨j, hj, ?_⟩
  rw [getJ_ren hb hg mt]
  unfold tJ
  rw [hj]
  rfl
theorem good_ren {S : Spc} {o : List Nat} {ts : List Trn} (hG : Good S) (hn : Names S.length o ts) : Good (renS S o ts) := by
  refine ⟨renS_l4 hn, fun b g m u e => ?_⟩
  obtain ⟨hb, hg⟩ := (renS_l4 hn).of e
  rw [renS_len] at hb
  obtain ⟨j, hj, ej⟩ := ren_get hG hn hb hg
  obtain ⟨_, lo, _, mt⟩ := hn.at hb
  rw [ej] at e
  cases j with
  | none => cases e
  | some x =>
    obtain ⟨n, t⟩ := x
    obtain ⟨htm, hne, hbk⟩ := hG.both _ _ _ _ hj
    have nl := hG.lt hj
    obtain ⟨_, im⟩ := hn.idx nl
    obtain ⟨_, _, _, mtm⟩ := hn.at im
    have hbm := back_mem mt
    have e' := Option.some.inj (Option.some.inj e)
    injection e' with e1 e2
    rw [ren_turn hbm htm] at e2
    have c1 := cmp_turn _ hbm _ htm
    have c2 := cmp_turn _ c1.1 _ mtm
    subst e1 e2
    have f4 := (backto mt hg).1
    have eg : tf (cmp (cmp (back (tsAt ts b)) t) (tsAt ts (o.idxOf n))) g = tf (tsAt ts (o.idxOf n)) (tf t (tf (back (tsAt ts b)) g)) := by
      rw [tf_cmp c1.1 hg, tf_cmp hbm hg]
    have t4 := (there htm f4).1
    refine ⟨c2.1, fun z => ?_, ?_⟩
    · rw [eg] at z
      injection z with z1 z2
      refine hne (Prod.ext ?_ ?_)
      · show n = tf o b
        rw [← z1, hn.at_idx nl]
      · show tf t _ = _
        rw [z1] at z2
        have := (there mt t4).2
        rw [z2] at this
        exact this.symm
    · rw [eg]
      have hg2 := (there mtm t4).1
      rw [getJ_ren im hg2 mtm]
      have hx : getJ S (tf o (o.idxOf n)) (tf (back (tsAt ts (o.idxOf n))) (tf (tsAt ts (o.idxOf n)) (tf t (tf (back (tsAt ts b)) g)))) = some (some (tf o b, back t)) := by
        rw [hn.at_idx nl, (there mtm t4).2]
        exact hbk
      rw [tJ_some hx, hn.idx_at hb, ren_turn (back_mem mtm) (back_mem htm), c2.2, c1.2, back_back _ mt]
      rw [cmp_assoc (back_mem mtm) (back_mem htm)]
/-! ### renamed twice, renamed back -/
def bothT (ts : List Trn) (o2 : List Nat) (ts2 : List Trn) : List Trn := (List.range o2.length).map fun k => cmp (tsAt ts (tf o2 k)) (tsAt ts2 k)
theorem bothT_at {n : Nat} {o o2 : List Nat} {ts ts2 : List Trn} (h : Names n o ts) (h2 : Names n o2 ts2) {k : Nat} (hk : k < n) : tsAt (bothT ts o2 ts2) k = cmp (tsAt ts (tf o2 k)) (tsAt ts2 k) := by
  unfold bothT
  exact tsAt_map (by rw [List.getElem?_range (by rw [h2.lo]; exact hk)])
theorem names_both {n : Nat} {o o2 : List Nat} {ts ts2 : List Trn} (h : Names n o ts) (h2 : Names n o2 ts2) : Names n (o2.map (tf o)) (bothT ts o2 ts2) := by
  refine ⟨?_, by unfold bothT; rw [List.length_map, List.length_range, h2.lo], fun t ht => ?_⟩
  · have e : (List.range n).map (tf o) = o := by
      apply List.ext_getElem (by rw [List.length_map, List.length_range, h.lo])
      intro i h1 hi
      rw [List.getElem_map, List.getElem_range]
      exact tf_eq (List.getElem?_eq_getElem hi)
    refine (h2.o.map (tf o)).trans ?_
    rw [e]
    exact h.o
  · unfold bothT at ht
    obtain ⟨k, hk, rfl⟩ := List.mem_map.mp ht
    rw [List.mem_range, h2.lo] at hk
    obtain ⟨_, lo, _, m2⟩ := h2.at hk
    exact (cmp_turn _ (h.at lo).2.2.2 _ m2).1
theorem ren_ren {S : Spc} {o o2 : List Nat} {ts ts2 : List Trn} (hG : Good S) (h : Names S.length o ts) (h2 : Names S.length o2 ts2) : renS (renS S o ts) o2 ts2 = renS S (o2.map (tf o)) (bothT ts o2 ts2) := by
  have h3 := names_both h h2
  have h2' : Names (renS S o ts).length o2 ts2 := by rw [renS_len]; exact h2
  refine spc_ext (by rw [renS_len, renS_len, renS_len]) (renS_l4 h2') (renS_l4 h3) fun b g hb hg => ?_
  rw [renS_len, renS_len] at hb
  obtain ⟨e2, lo2, _, m2⟩ := h2.at hb
  obtain ⟨_, _, _, m1⟩ := h.at lo2
  obtain ⟨j3, hj3, ej3⟩ := ren_get hG h3 hb hg
  obtain ⟨j2, hj2, ej2⟩ := ren_get (good_ren hG h) h2' (by rw [renS_len]; exact hb) hg
  obtain ⟨j1, hj1, ej1⟩ := ren_get hG h lo2 (backto m2 hg).1
  rw [ej2, ej3]
  rw [ej1] at hj2
  have e12 := Option.some.inj hj2
  have hb3 := bothT_at h h2 hb
  have eo : tf (o2.map (tf o)) b = tf o (tf o2 b) := tf_mapat e2
  have cb := cmp_turn _ m1 _ m2
  rw [eo, hb3, cb.2, tf_cmp (back_mem m2) hg, hj1] at hj3
  have e13 := Option.some.inj hj3
  subst e13 e12
  rw [hb3, cb.2]
  cases j1 with
  | none => rfl
  | some x =>
    obtain ⟨n, t⟩ := x
    obtain ⟨nl, tm⟩ := hG.jokAt hj1 n t rfl
    obtain ⟨_, i1⟩ := h.idx nl
    obtain ⟨_, i2⟩ := h2.idx i1
    have ei : (o2.map (tf o)).idxOf n = o2.idxOf (o.idxOf n) := by
      have e4 : (o2.map (tf o))[o2.idxOf (o.idxOf n)]? = some n := by
        rw [List.getElem?_map, (h2.at i2).1, h2.at_idx i1]
        show some (tf o (o.idxOf n)) = some n
        rw [h.at_idx nl]
      have := h3.idx_at i2
      rw [tf_eq e4] at this
      exact this
    obtain ⟨_, _, _, mA⟩ := h.at i1
    obtain ⟨_, _, _, mB⟩ := h2.at i2
    show some (some (o2.idxOf (o.idxOf n), (back (tsAt ts2 b)).map fun c => tf (tsAt ts2 (o2.idxOf (o.idxOf n))) (tf ((back (tsAt ts (tf o2 b))).map fun c => tf (tsAt ts (o.idxOf n)) (tf t c)) c))) =
      some (some ((o2.map (tf o)).idxOf n, (cmp (back (tsAt ts2 b)) (back (tsAt ts (tf o2 b)))).map fun c => tf (tsAt (bothT ts o2 ts2) ((o2.map (tf o)).idxOf n)) (tf t c)))
    have c0 := cmp_turn _ (back_mem m2) _ (back_mem m1)
    have c1 := cmp_turn _ (back_mem m1) _ tm
    have c2 := cmp_turn _ c1.1 _ mA
    rw [ei, bothT_at h h2 i2, h2.at_idx i1, ren_turn (back_mem m1) tm, ren_turn (back_mem m2) c2.1, ren_turn c0.1 tm]
    rw [cmp_assoc (back_mem m2) c2.1, cmp_assoc c1.1 mA, cmp_assoc (back_mem m1) tm, ← cmp_assoc (back_mem m2) (back_mem m1), ← cmp_assoc c0.1 tm]
theorem ren_id {S : Spc} (hG : Good S) {ts : List Trn} (ht : ∀ k < S.length, tsAt ts k = idT) (l : ts.length = S.length) : renS S (List.range S.length) ts = S := by
  have hn : Names S.length (List.range S.length) ts := by
    refine ⟨.refl _, l, fun t h => ?_⟩
    obtain ⟨k, hk⟩ := List.mem_iff_getElem?.mp h
    have := ht k (by have := (List.getElem?_eq_some_iff.mp hk).1; omega)
    rw [tsAt_eq hk] at this
    rw [this]
    exact idT_turn.1
  refine spc_ext (renS_len _ _ _) (renS_l4 hn) hG.l4 fun b g hb hg => ?_
  rw [renS_len] at hb
  obtain ⟨j, hj, ej⟩ := ren_get hG hn hb hg
  have eb : tf (List.range S.length) b = b := tf_eq (List.getElem?_range hb)
  have id4 : ∀ c < 4, tf idT c = c := by decide
  rw [ht b hb, idT_turn.2] at hj ej
  rw [eb, id4 g hg] at hj
  rw [ej, hj]
  cases j with
  | none => rfl
  | some x =>
    obtain ⟨n, t⟩ := x
    obtain ⟨nl, tm⟩ := hG.jokAt hj n t rfl
    have ei : (List.range S.length).idxOf n = n := by
      have := hn.idx_at nl
      rw [tf_eq (List.getElem?_range nl)] at this
      exact this
    show some (some ((List.range S.length).idxOf n, idT.map fun c => tf (tsAt ts ((List.range S.length).idxOf n)) (tf t c))) = some (some (n, t))
    rw [ei, ht n nl, ren_turn idT_turn.1 tm, (cmp_id tm).2, (cmp_id tm).1]
def placesOf (n : Nat) (o : List Nat) : List Nat := (List.range n).map fun b => o.idxOf b
theorem places_at {n : Nat} {o : List Nat} {k : Nat} (hk : k < n) : (placesOf n o)[k]? = some (o.idxOf k) := by
  unfold placesOf
  rw [List.getElem?_map, List.getElem?_range hk]
  rfl
theorem names_back {n : Nat} {o : List Nat} {ts : List Trn} (h : Names n o ts) : Names n (placesOf n o) ((placesOf n o).map fun k => back (tsAt ts k)) := by
  have hl : (placesOf n o).length = n := by unfold placesOf; rw [List.length_map, List.length_range]
  refine ⟨?_, by rw [List.length_map, hl], fun t ht => ?_⟩
  · have e : (List.range n).map (fun k => o.idxOf (tf o k)) = List.range n := by
      conv => rhs; rw [← List.map_id (List.range n)]
      exact List.map_congr_left fun k hk => h.idx_at (List.mem_range.mp hk)
    have e2 : (List.range n).map (tf o) = o := by
      apply List.ext_getElem (by rw [List.length_map, List.length_range, h.lo])
      intro i h1 hi
      rw [List.getElem_map, List.getElem_range]
      exact tf_eq (List.getElem?_eq_getElem hi)
    have p1 : (placesOf n o).Perm (o.map fun b => o.idxOf b) := by
      unfold placesOf
      exact (h.o.symm).map _
    refine p1.trans ?_
    have e3 : (o.map fun b => o.idxOf b) = (List.range n).map (fun k => o.idxOf (tf o k)) := by
      conv => lhs; rw [← e2, List.map_map]
      rw [e2]
      rfl
    rw [e3, e]
  · obtain ⟨k, hk, rfl⟩ := List.mem_map.mp ht
    unfold placesOf at hk
    obtain ⟨b, hb, rfl⟩ := List.mem_map.mp hk
    exact back_mem (h.at (h.idx (List.mem_range.mp hb)).2).2.2.2
theorem ren_back {S : Spc} {o : List Nat} {ts : List Trn} (hG : Good S) (h : Names S.length o ts) : renS (renS S o ts) (placesOf S.length o) ((placesOf S.length o).map fun k => back (tsAt ts k)) = S := by
  have hb := names_back h
  rw [ren_ren hG h hb]
  have e1 : (placesOf S.length o).map (tf o) = List.range S.length := by
    unfold placesOf
    rw [List.map_map]
    conv => rhs; rw [← List.map_id (List.range S.length)]
    exact List.map_congr_left fun k hk => h.at_idx (List.mem_range.mp hk)
  rw [e1]
  refine ren_id hG (fun k hk => ?_) (by have := (names_both h hb).l; exact this)
  rw [bothT_at h hb hk, tsAt_map (places_at hk), tf_eq (places_at hk)]
  exact (cmp_back _ (h.at (h.idx hk).2).2.2.2).1
end Bk

namespace Bk
open PySem PySem.Spec PyProof.Rows L2 RZ
/-! ### parted, joined, beside: renamed -/
theorem Good.part {S : Spc} (h : Good S) {b f n : Nat} {t : Trn} (e : getJ S b f = some (some (n, t))) : Good (setJ (setJ S b f none) n (tf t f) none) := by
  obtain ⟨ht, hne, hbk⟩ := h.both _ _ _ _ e
  have hf := (h.l4.of e).2
  refine ⟨(h.l4.set _ _ _).set _ _ _, fun x y m u g => ?_⟩
  have G : ∀ x y, getJ (setJ (setJ S b f none) n (tf t f) none) x y = if x = n ∧ y = tf t f then (getJ S x y).map fun _ => none else if x = b ∧ y = f then (getJ S x y).map fun _ => none else getJ S x y := fun x y => by
    rw [getJ_set, getJ_set]
    by_cases c1 : x = n ∧ y = tf t f
    · rw [if_pos c1, if_pos c1]
      by_cases c2 : x = b ∧ y = f
      · exact absurd (Prod.ext (c1.1.symm.trans c2.1) (c1.2.symm.trans c2.2)) hne
      · rw [if_neg c2]
    · rw [if_neg c1, if_neg c1]
  rw [G] at g ⊢
  by_cases c1 : x = n ∧ y = tf t f
  · rw [if_pos c1] at g
    cases hz : getJ S x y with
    | none => rw [hz] at g; cases g
    | some z => rw [hz] at g; cases g
  · rw [if_neg c1] at g
    by_cases c2 : x = b ∧ y = f
    · rw [if_pos c2] at g
      cases hz : getJ S x y with
      | none => rw [hz] at g; cases g
      | some z => rw [hz] at g; cases g
    · rw [if_neg c2] at g
      obtain ⟨hu, q2, q3⟩ := h.both _ _ _ _ g
      have hy := (h.l4.of g).2
      refine ⟨hu, q2, ?_⟩
      rw [if_neg, if_neg]
      · exact q3
      · rintro ⟨rfl, hz⟩
        rw [hz, e] at q3
        have e2 := Option.some.inj (Option.some.inj q3)
        injection e2 with e2 e3
        refine c1 ⟨e2.symm, ?_⟩
        have := tf_back u hu y hy
        rw [hz, ← e3] at this
        exact this.symm
      · rintro ⟨rfl, hz⟩
        rw [hz, hbk] at q3
        have e2 := Option.some.inj (Option.some.inj q3)
        injection e2 with e2 e3
        refine c2 ⟨e2.symm, ?_⟩
        have e4 : t = u := by rw [← back_back t ht, e3, back_back u hu]
        subst e4
        have a1 := tf_back t ht y hy
        have a2 := tf_back t ht f hf
        rw [hz] at a1
        omega
/-- beside, as plain lists -/
def besS (S U : Spc) : Spc := S ++ shS S.length U
theorem shS_len (m : Nat) (S : Spc) : (shS m S).length = S.length := by
  unfold shS
  rw [List.length_map]
theorem besS_len (S U : Spc) : (besS S U).length = S.length + U.length := by
  unfold besS
  rw [List.length_append, shS_len]
theorem shS_shS (m k : Nat) (S : Spc) : shS m (shS k S) = shS (k + m) S := by
  unfold shS
  rw [List.map_map]
  refine List.map_congr_left fun b _ => ?_
  show shB m (shB k b) = shB (k + m) b
  unfold shB
  rw [List.map_map]
  refine List.map_congr_left fun j _ => ?_
  cases j with
  | none => rfl
  | some x =>
    obtain ⟨n, t⟩ := x
    show some (n + k + m, t) = some (n + (k + m), t)
    rw [Nat.add_assoc]
theorem shS_app (m : Nat) (S U : Spc) : shS m (S ++ U) = shS m S ++ shS m U := by
  unfold shS
  rw [List.map_append]
theorem besS_assoc (S U W : Spc) : besS (besS S U) W = besS S (besS U W) := by
  unfold besS
  rw [List.length_append, shS_len, shS_app, shS_shS, List.append_assoc, Nat.add_comm S.length]

def partS (S : Spc) (b f n : Nat) (t : Trn) : Spc := setJ (setJ S b f none) n (tf t f) none
theorem partS_len (S : Spc) (b f n : Nat) (t : Trn) : (partS S b f n t).length = S.length := by
  unfold partS
  rw [setJ_len, setJ_len]
theorem ren_set {S : Spc} {o : List Nat} {ts : List Trn} (h4 : L4 S) (hn : Names S.length o ts) {b f : Nat} {j : Jn} (hb : b < S.length) (hf : f < 4) :
    renS (setJ S b f j) o ts = setJ (renS S o ts) (o.idxOf b) (tf (tsAt ts (o.idxOf b)) f) (renJ o ts (back (tsAt ts (o.idxOf b))) j) := by
  have hn' : Names (setJ S b f j).length o ts := by rw [setJ_len]; exact hn
  refine spc_ext (by rw [renS_len, setJ_len, setJ_len, renS_len]) (renS_l4 hn') ((renS_l4 hn).set _ _ _) fun x g hx hg => ?_
  rw [renS_len, setJ_len] at hx
  obtain ⟨_, lo, _, mt⟩ := hn.at hx
  obtain ⟨_, ib⟩ := hn.idx hb
  obtain ⟨_, _, _, mb⟩ := hn.at ib
  obtain ⟨j0, hj0⟩ := h4.get (b := tf o x) (f := tf (back (tsAt ts x)) g) lo (backto mt hg).1
  rw [getJ_set, getJ_ren (by rw [setJ_len]; exact hx) hg mt, getJ_ren hx hg mt]
  unfold tJ
  rw [getJ_set, hj0]
  by_cases c : tf o x = b ∧ tf (back (tsAt ts x)) g = f
  · have c' : x = o.idxOf b ∧ g = tf (tsAt ts (o.idxOf b)) f := by
      have e1 : x = o.idxOf b := by rw [← c.1, hn.idx_at hx]
      refine ⟨e1, ?_⟩
      rw [← e1, ← c.2, (backto mt hg).2]
    rw [if_pos c, if_pos c', ← c'.1]
    rfl
  · have c' : ¬ (x = o.idxOf b ∧ g = tf (tsAt ts (o.idxOf b)) f) := fun z => c ⟨by rw [z.1, hn.at_idx hb], by rw [z.2, z.1, (there mb hf).2]⟩
    rw [if_neg c, if_neg c']
/-- the turn of a renamed joining -/
def inner (o : List Nat) (ts : List Trn) (b n : Nat) (t : Trn) : Trn := cmp (cmp (back (tsAt ts (o.idxOf b))) t) (tsAt ts (o.idxOf n))
theorem inner_turn {n0 : Nat} {o : List Nat} {ts : List Trn} (hn : Names n0 o ts) {b n f : Nat} {t : Trn} (hb : b < n0) (hnn : n < n0) (ht : t ∈ allTurns) (hf : f < 4) :
    inner o ts b n t ∈ allTurns ∧ tf (inner o ts b n t) (tf (tsAt ts (o.idxOf b)) f) = tf (tsAt ts (o.idxOf n)) (tf t f) ∧ back (inner o ts b n t) = inner o ts n b (back t) ∧ tf (tsAt ts (o.idxOf b)) f < 4 := by
  obtain ⟨_, _, _, mb⟩ := hn.at (hn.idx hb).2
  obtain ⟨_, _, _, mn⟩ := hn.at (hn.idx hnn).2
  have hbm := back_mem mb
  have c1 := cmp_turn _ hbm _ ht
  have c2 := cmp_turn _ c1.1 _ mn
  have th := there mb hf
  refine ⟨c2.1, ?_, ?_, th.1⟩
  · unfold inner
    rw [tf_cmp c1.1 th.1, tf_cmp hbm th.1, th.2]
  · unfold inner
    rw [c2.2, c1.2, back_back _ mb, cmp_assoc (back_mem mn) (back_mem ht)]
theorem renJ_inner {n0 : Nat} {o : List Nat} {ts : List Trn} (hn : Names n0 o ts) {b n : Nat} {t : Trn} (hb : b < n0) (ht : t ∈ allTurns) : renJ o ts (back (tsAt ts (o.idxOf b))) (some (n, t)) = some (o.idxOf n, inner o ts b n t) := by
  obtain ⟨_, _, _, mb⟩ := hn.at (hn.idx hb).2
  show some (o.idxOf n, _) = _
  rw [ren_turn (back_mem mb) ht]
  rfl
theorem ren_face {S : Spc} {o : List Nat} {ts : List Trn} (h4 : L4 S) (hn : Names S.length o ts) {b f : Nat} {j : Jn} (e : getJ S b f = some j) : getJ (renS S o ts) (o.idxOf b) (tf (tsAt ts (o.idxOf b)) f) = some (renJ o ts (back (tsAt ts (o.idxOf b))) j) := by
  obtain ⟨hb, hf⟩ := h4.of e
  obtain ⟨_, ib⟩ := hn.idx hb
  obtain ⟨_, _, _, mb⟩ := hn.at ib
  rw [getJ_ren ib (there mb hf).1 mb]
  unfold tJ
  rw [hn.at_idx hb, (there mb hf).2, e]
  rfl
theorem ren_part {S : Spc} {o : List Nat} {ts : List Trn} (hG : Good S) (hn : Names S.length o ts) {b f n : Nat} {t : Trn} (e : getJ S b f = some (some (n, t))) :
    renS (partS S b f n t) o ts = partS (renS S o ts) (o.idxOf b) (tf (tsAt ts (o.idxOf b)) f) (o.idxOf n) (inner o ts b n t) := by
  obtain ⟨hb, hf⟩ := hG.l4.of e
  obtain ⟨htm, _, _⟩ := hG.both _ _ _ _ e
  have nl := hG.lt e
  unfold partS
  rw [ren_set (hG.l4.set _ _ _) (by rw [setJ_len]; exact hn) (by rw [setJ_len]; exact nl) (tf_lt t htm f hf).1, ren_set hG.l4 hn hb hf, (inner_turn hn hb nl htm hf).2.1]
  rfl
theorem ren_join {S : Spc} {o : List Nat} {ts : List Trn} (hG : Good S) (hn : Names S.length o ts) {b f n : Nat} {t : Trn} (hb : b < S.length) (hf : f < 4) (nl : n < S.length) (htm : t ∈ allTurns) :
    renS (joinJ S b f n t) o ts = joinJ (renS S o ts) (o.idxOf b) (tf (tsAt ts (o.idxOf b)) f) (o.idxOf n) (inner o ts b n t) := by
  unfold joinJ
  rw [ren_set (hG.l4.set _ _ _) (by rw [setJ_len]; exact hn) (by rw [setJ_len]; exact nl) (tf_lt t htm f hf).1, ren_set hG.l4 hn hb hf, (inner_turn hn hb nl htm hf).2.1]
  rw [renJ_inner hn hb htm, renJ_inner hn nl (back_mem htm), (inner_turn hn hb nl htm hf).2.2.1]
theorem map_none {x : Option Jn} {j k : Jn} (h : x = some j) : (x.map fun _ => k) = some k := by
  rw [h]
  rfl
theorem join_part {S : Spc} (hG : Good S) {b f n : Nat} {t : Trn} (e : getJ S b f = some (some (n, t))) : joinJ (partS S b f n t) b f n t = S := by
  obtain ⟨htm, hne, hbk⟩ := hG.both _ _ _ _ e
  refine spc_ext (by rw [joinJ_len, partS_len]) ((((hG.l4.set _ _ _).set _ _ _).set _ _ _).set _ _ _) hG.l4 fun x g _ _ => ?_
  unfold joinJ partS
  rw [getJ_set, getJ_set, getJ_set, getJ_set]
  by_cases c1 : x = n ∧ g = tf t f
  · have c2 : ¬ (x = b ∧ g = f) := fun z => hne (Prod.ext (c1.1.symm.trans z.1) (c1.2.symm.trans z.2))
    rw [if_pos c1, if_neg c2, if_pos c1, if_neg c2, c1.1, c1.2, hbk]
    rfl
  · by_cases c2 : x = b ∧ g = f
    · rw [if_neg c1, if_pos c2, if_neg c1, if_pos c2, c2.1, c2.2, e]
      rfl
    · rw [if_neg c1, if_neg c2, if_neg c1, if_neg c2]
theorem part_join {S : Spc} (hG : Good S) {b f n : Nat} {t : Trn} (ht : t ∈ allTurns) (h1 : getJ S b f = some none) (h2 : getJ S n (tf t f) = some none) (hne : (n, tf t f) ≠ (b, f)) : partS (joinJ S b f n t) n (tf t f) b (back t) = S := by
  have hf := (hG.l4.of h1).2
  refine spc_ext (by rw [partS_len, joinJ_len]) ((((hG.l4.set _ _ _).set _ _ _).set _ _ _).set _ _ _) hG.l4 fun x g _ _ => ?_
  unfold joinJ partS
  rw [tf_back t ht f hf, getJ_set, getJ_set, getJ_set, getJ_set]
  by_cases c2 : x = b ∧ g = f
  · have c1 : ¬ (x = n ∧ g = tf t f) := fun z => hne (Prod.ext (z.1.symm.trans c2.1) (z.2.symm.trans c2.2))
    rw [if_pos c2, if_neg c1, if_neg c1, if_pos c2, c2.1, c2.2, h1]
    rfl
  · by_cases c1 : x = n ∧ g = tf t f
    · rw [if_neg c2, if_pos c1, if_pos c1, if_neg c2, c1.1, c1.2, h2]
      rfl
    · rw [if_neg c2, if_neg c1, if_neg c1, if_neg c2]
/-- two of unlike joinings at a face are not equal -/
theorem eqvAll_false : ∀ {xs ys : List PyData} {i : Nat} {x y : PyData}, xs[i]? = some x → ys[i]? = some y → PyData.eqv x y = false → PyData.eqvAll xs ys = false
  | [], _, i, x, y, h, _, _ => by simp at h
  | _ :: _, [], i, x, y, _, h, _ => by simp at h
  | a :: xs, b :: ys, 0, x, y, h1, h2, e => by
    have e1 : a = x := by simpa using h1
    have e2 : b = y := by simpa using h2
    subst e1 e2
    simp only [PyData.eqvAll, e, Bool.false_and]
  | a :: xs, b :: ys, i + 1, x, y, h1, h2, e => by
    have := eqvAll_false (xs := xs) (ys := ys) (i := i) (by simpa using h1) (by simpa using h2) e
    simp only [PyData.eqvAll, this, Bool.and_false]
theorem spc_unlike {S U : Spc} {b f n : Nat} {t : Trn} (h1 : getJ S b f = some none) (h2 : getJ U b f = some (some (n, t))) : PyData.eqv (shutD S) (shutD U) = false := by
  unfold getJ at h1 h2
  cases hs : S[b]? with
  | none => rw [hs] at h1; cases h1
  | some x =>
    cases hu : U[b]? with
    | none => rw [hu] at h2; cases h2
    | some y =>
      rw [hs] at h1
      rw [hu] at h2
      have h1' : x[f]? = some none := h1
      have h2' : y[f]? = some (some (n, t)) := h2
      simp only [shutD, PyData.eqv]
      refine eqvAll_false (i := b) (x := .tuple (x.map jD)) (y := .tuple (y.map jD)) (by rw [List.getElem?_map, hs]; rfl) (by rw [List.getElem?_map, hu]; rfl) ?_
      simp only [PyData.eqv]
      refine eqvAll_false (i := f) (x := .none) (y := jD (some (n, t))) (by rw [List.getElem?_map, h1']; rfl) (by rw [List.getElem?_map, h2']; rfl) ?_
      simp only [jD, PyData.eqv]
/-- two beside each other, the other way about -/
def otherWay (s u : Nat) : List Nat := (List.range s).map (fun k => u + k) ++ List.range u
theorem other_names (s u : Nat) : Names (u + s) (otherWay s u) (List.replicate (s + u) idT) := by
  refine ⟨?_, by rw [List.length_replicate]; omega, fun t h => by rw [List.eq_of_mem_replicate h]; exact idT_turn.1⟩
  have e : List.range (u + s) = List.range u ++ (List.range s).map (fun k => u + k) := List.range_add
  rw [e]
  exact List.perm_append_comm
theorem other_at {s u k : Nat} : (k < s → (otherWay s u)[k]? = some (u + k)) ∧ (∀ i, i < u → (otherWay s u)[s + i]? = some i) := by
  unfold otherWay
  constructor
  · intro h
    rw [List.getElem?_append_left (by rw [List.length_map, List.length_range]; exact h), List.getElem?_map, List.getElem?_range h]
    rfl
  · intro i h
    rw [List.getElem?_append_right (by rw [List.length_map, List.length_range]; omega), List.length_map, List.length_range, Nat.add_sub_cancel_left, List.getElem?_range h]
theorem ren_bes {S U : Spc} (hS : Good S) (hU : Good U) : renS (besS U S) (otherWay S.length U.length) (List.replicate (S.length + U.length) idT) = besS S U := by
  have lb := besS_len U S
  have hn : Names (besS U S).length (otherWay S.length U.length) (List.replicate (S.length + U.length) idT) := by
    rw [lb]
    exact other_names _ _
  have hG : Good (besS U S) := hU.twice hS
  have hG2 : Good (besS S U) := hS.twice hU
  have hts : ∀ k < S.length + U.length, tsAt (List.replicate (S.length + U.length) idT) k = idT := fun k hk => tsAt_eq (by rw [List.getElem?_replicate, if_pos hk])
  have id4 : ∀ c < 4, tf idT c = c := by decide
  have ridx : ∀ {n : Nat} {t : Trn}, n < (besS U S).length → t ∈ allTurns → renJ (otherWay S.length U.length) (List.replicate (S.length + U.length) idT) idT (some (n, t)) = some ((otherWay S.length U.length).idxOf n, t) := fun {n t} hnl ht => by
    show some (_, idT.map fun c => tf (tsAt _ _) (tf t c)) = _
    rw [hts _ (by have := (hn.idx hnl).2; rw [lb] at this; omega), ren_turn idT_turn.1 ht, (cmp_id ht).2, (cmp_id ht).1]
  refine spc_ext (by rw [renS_len, lb, besS_len]; omega) (renS_l4 hn) hG2.l4 fun b g hb hg => ?_
  rw [renS_len] at hb
  obtain ⟨j, hj, ej⟩ := ren_get hG hn hb hg
  rw [lb] at hb
  rw [hts b (by omega), idT_turn.2] at hj ej
  rw [id4 g hg] at hj
  rw [ej]
  by_cases c : b < S.length
  · rw [tf_eq (other_at.1 c)] at hj
    unfold besS at hj ⊢
    rw [getJ_right, getJ_sh] at hj
    rw [getJ_left c]
    cases hx : getJ S b g with
    | none => rw [hx] at hj; cases hj
    | some x =>
      rw [hx] at hj
      cases x with
      | none =>
        cases hj
        rfl
      | some y =>
        obtain ⟨n, t⟩ := y
        obtain ⟨nl, tm⟩ := hS.jokAt hx n t rfl
        cases hj
        have h1 := hn.idx_at (k := n) (by rw [lb]; omega)
        rw [tf_eq (other_at.1 nl)] at h1
        show some (renJ _ _ idT (some (n + U.length, t))) = _
        rw [ridx (by rw [lb]; omega) tm, Nat.add_comm n, h1]
  · obtain ⟨i, rfl⟩ : ∃ i, b = S.length + i := ⟨b - S.length, by omega⟩
    have hi : i < U.length := by omega
    rw [tf_eq ((other_at (k := 0)).2 i hi)] at hj
    unfold besS at hj ⊢
    rw [getJ_left hi] at hj
    rw [getJ_right, getJ_sh, hj]
    cases j with
    | none => rfl
    | some y =>
      obtain ⟨n, t⟩ := y
      obtain ⟨nl, tm⟩ := hU.jokAt hj n t rfl
      have h1 := hn.idx_at (k := S.length + n) (by rw [lb]; omega)
      rw [tf_eq ((other_at (k := 0)).2 n nl)] at h1
      show some (renJ _ _ idT (some (n, t))) = some (some (n + S.length, t))
      rw [ridx (by rw [lb]; omega) tm, h1, Nat.add_comm]
end Bk

namespace Bk
open PySem PySem.Spec PyProof.Rows L2 RZ
local macro_rules | `(tactic| walk_at "g") => `(tactic| (repeat first | refine ⟨_, rfl, ?_⟩ | refine ⟨cpow, ?_⟩ | refine ⟨wideM, ?_⟩ | refine ⟨_, _, rfl, rfl, ?_⟩ | refine ⟨rfl, ?_⟩))
section
variable {X : Cx} (K : PySem.W.Frag)
/-- t + u, neither empty -/
def rCatF (K : PySem.W.Frag) : R2 := fun x y H Q => ∃ a b xs ys, x = .ref a ∧ y = .ref b ∧ SqT K H a xs ∧ SqT K H b ys ∧ xs ≠ [] ∧ ys ≠ [] ∧ xs.length + ys.length ≤ sizeLine ∧ ∀ p o, H p = none → o.dict = none → Q (.ref p) (upd H p (.frz o (.tup (xs ++ ys))))
theorem kCatF (h : X.K = K) : OpR X (binaryOp .Add) (rCatF K) := by
  subst h
  rintro pins s σ H x y v u Q I rx ry ⟨a, b, xs, ys, rfl, rfl, ha, hb, hx, hy, hz, q⟩
  cases rx
  cases ry
  obtain ⟨us, r1, p1, _⟩ := I.tuple ha
  obtain ⟨ws, r2, p2, _⟩ := I.tuple hb
  refine HT.cat_tup p1 p2 (fun z => hx (r1.nil_iff.mp z)) (fun z => absurd (r2.nil_iff.mp z) hy) (fun _ => ?_) (by rw [← r1.length, ← r2.length]; exact hz)
  have g : (s.heap.push { cls := .type "tuple", data := .seq (us ++ ws).toArray }).get? s.heap.objs.size = some { cls := .type "tuple", data := .seq (us ++ ws).toArray } := Heap.get?_push_size _ rfl
  exact ⟨.ref s.heap.objs.size, _, I.laid (t' := s.toks) (o := .frz { cls := .type "tuple", data := .seq (us ++ ws).toArray } (.tup (xs ++ ys))) (fun _ _ z => Heap.get?_push_of_some _ z) (Nat.le_refl _) ⟨g, by rw [List.length_append]; exact hz, _, r1.append r2, ⟨_, g, rfl, _, rfl⟩⟩, rfl, q _ _ (I.hok.fresh (Nat.le_refl _)) rfl⟩
end
section
variable {P : Program} {w : World} {K : PySem.W.Frag} {mg : Str → Option Value} {base : Heap}
/-! ### _block_behind -/
abbrev s_block_behind : Stmt := topS 36
abbrev N_block_behind : List Str := ["block", "many", "joining"]
theorem sc_block_behind : FnScope N_block_behind ["block", "many"] (defScope s_block_behind) := ⟨rfl, rfl, rfl, by decide +kernel, rfl, by decide +kernel, by decide +kernel⟩
def spBehind : Sp := fun vs H Q _ => ∃ (v : V) (b : Blk) (m : Nat), vs = [v, intV m] ∧ BT H v b ∧ b.length ≤ 100 ∧ ∀ H' v', Same H H' → BT H' v' (shB m b) → Q v' H'
theorem ok_block_behind {f : Addr} {fd : FuncData} (F : Fun K "_block_behind" "_block_behind" s_block_behind f fd) (m_tuple : mg "tuple" = none) : FnOk P w K mg base CX0 1 f fd ["block", "many"] spBehind := by
  refine F.ok sc_block_behind (fun vs H Q E h => ?_) (fun cdv A outer s H vs Q E hr h => ?_)
  · obtain ⟨v, b, m, rfl, _⟩ := h
    rfl
  · obtain ⟨v, b, m, rfl, ⟨p, vs, rfl, fp, hv⟩, hl, q⟩ := h
    have nd := sc_block_behind.nd
    refine ⟨_, (pss_one (ps_ret (pe_callTy (kTupleF K rfl) (by rfl) m_tuple (by decide +kernel) (pa_cons (pe_lc (own := [("joining", 2)]) (g := gName 2) (tt := tYes) rfl nd (kPiT K rfl (pi_tup (pv 0))) (blkOk_by (own := [("joining", 2)]) (N := N_block_behind) (sc := defScope s_block_behind) (by decide +kernel)) (fun _ _ _ _ _ => (pg_name (i := 2) nd rfl (Or.inl rfl))) (fun _ _ _ _ _ => pts_nil) (fun _ _ _ _ _ => (pe_ifExp (pt_cmpR op_isN (pv 2) pe_non (nomark _)) pe_non (pe_tupF (pa_cons (pe_op op_add (pe_ix (kIxT K rfl) (pv 2) pe_int (fun _ _ => rfl)) (pv 1)) (pa_cons (pe_ix (kIxT K rfl) (pv 2) pe_int (fun _ _ => rfl)) pa_nil)))))) pa_nil)))), ?_⟩
    refine ⟨.ref p, rfl, p, rfl, ⟨_, fp.sqt⟩, fun D nD => ?_⟩
    refine lc_tup (xs := vs) (fun k H1 => ∃ ws, H1 D = some (.lst ws) ∧ Paired (JAt H1) ws ((shB m b).take k) ∧ Same H H1) ⟨[], upd_same, .nil, same_new nD⟩ ?_ ?_ ?_
    · rintro k H1 _ ⟨ws, h1, t1, s1⟩
      exact (fp.mono s1.tups).sqt
    · rintro k v H1 hvk ⟨ws, h1, t1, s1⟩
      obtain ⟨j, hj, jv⟩ := pget' hv hvk
      have jv1 := jv.mono s1.tups
      have hk : k < b.length := (List.getElem?_eq_some_iff.mp hj).1
      have lw : ws.length < sizeLine := small1000 (by rw [plen t1, List.length_take]; omega)
      have ej : (shB m b)[k]? = some (shJ m j) := by
        unfold shB
        rw [List.getElem?_map, hj]
        rfl
      refine ⟨rfl, v, rfl, rfl, ?_⟩
      rw [jv1.isN]
      refine ⟨_, rfl, ?_⟩
      cases j with
      | none =>
        refine iteT ⟨ws, h1, lw, ws ++ [.non], upd_same, ?_, same_fill s1 nD⟩
        rw [List.take_add_one, ej]
        exact papp (pmono t1 fun _ _ z => z.mono (tups_set h1)) (.cons rfl .nil)
      | some nt =>
        obtain ⟨n, t⟩ := nt
        obtain ⟨pj, pq, rfl, f1, f2⟩ := jv1
        refine iteF ?_
        refine ⟨.ref pj, rfl, pj, _, 0, intV n, rfl, rfl, f1.sqt, rfl, intV m, rfl, n, m, rfl, rfl, .ref pj, rfl, pj, _, 1, .ref pq, rfl, rfl, f1.sqt, rfl, Nat.le_of_lt (small1000 (by show 2 ≤ 1000; decide)), fun p4 o4 np4 d4 => ?_⟩
        have s4 : Same H1 (upd H1 p4 (.frz o4 (.tup [.int ((n : Int) + (m : Int)), .ref pq]))) := same_new np4
        have j4 : JAt (upd H1 p4 (.frz o4 (.tup [.int ((n : Int) + (m : Int)), .ref pq]))) (.ref p4) (shJ m (some (n, t))) := JAt.sh (q := pq) ⟨o4, d4, by
          rw [show (intV (n + m) : V) = .int ((n : Int) + (m : Int)) from congrArg V.int (by omega)]
          exact upd_same⟩ (f2.mono s4.tups)
        have h4 := s4 _ _ h1
        refine ⟨ws, h4, lw, ws ++ [.ref p4], upd_same, ?_, same_fill (s1.trans s4) nD⟩
        rw [List.take_add_one, ej]
        exact papp (pmono t1 fun _ _ z => z.mono (s4.tups.trans (tups_set h4))) (.cons (j4.mono (tups_set h4)) .nil)
    · rintro H1 ⟨ws, h1, t1, s1⟩
      have lvs : vs.length = (shB m b).length := by
        unfold shB
        rw [List.length_map]
        exact plen hv
      rw [lvs, List.take_length] at t1
      refine ⟨D, ws, rfl, .inl ⟨.inl (.inl h1), fun p2 o2 np2 d2 => ?_⟩⟩
      exact q _ _ (s1.trans (same_new np2)) ⟨p2, ws, rfl, FT.new d2, pmono t1 fun _ _ z => z.mono (same_new np2).tups⟩
/-! ### beside -/
abbrev sbeside : Stmt := topS 35
abbrev Nbeside : List Str := ["one", "other", "first", "block"]
theorem scbeside : FnScope Nbeside ["one", "other"] (defScope sbeside) := ⟨rfl, rfl, rfl, by decide +kernel, rfl, by decide +kernel, by decide +kernel⟩
def spBeside : Sp := fun vs H Q _ => ∃ (N1 N2 : Addr → Prop) (v1 v2 : V) (d1 d2 : PyData) (S U : Spc), vs = [v1, v2] ∧ Dq N1 H v1 d1 ∧ Dq N2 H v2 d2 ∧ norm d1 = nS S ∧ norm d2 = nS U ∧ Good S ∧ Good U ∧ 1 ≤ S.length ∧ 1 ≤ U.length ∧ S.length ≤ 100 ∧ U.length ≤ 100 ∧
  ∀ H' v', Same H H' → ST H' v' (besS S U) → Q v' H'
theorem okbeside {f fX fB : Addr} {fd fdX fdB : FuncData} (F : Fun K "beside" "beside" sbeside f fd) (Fspace_of : Fun K "space_of" "space_of" sspace_of fX fdX) (gspace_of : mg "space_of" = some (.ref fX)) (bspace_of : Binds K fdX ["blocks"] []) (Gspace_of : FnOk P w K mg base CX0 6 fX fdX ["blocks"] spSpace)
    (F_block_behind : Fun K "_block_behind" "_block_behind" s_block_behind fB fdB) (g_block_behind : mg "_block_behind" = some (.ref fB)) (b_block_behind : Binds K fdB ["block", "many"] []) (G_block_behind : FnOk P w K mg base CX0 1 fB fdB ["block", "many"] spBehind)
    (m_len : mg "len" = none) (m_tuple : mg "tuple" = none) : FnOk P w K mg base CX0 7 f fd ["one", "other"] spBeside := by
  refine F.ok scbeside (fun vs H Q E h => ?_) (fun cdv A outer s H vs Q E hr h => ?_)
  · obtain ⟨N1, N2, v1, v2, d1, d2, S, U, rfl, _⟩ := h
    rfl
  · obtain ⟨N1, N2, v1, v2, d1, d2, S, U, rfl, hd1, hd2, n1, n2, hG1, hG2, a1, a2, a3, a4, q⟩ := h
    have nd := scbeside.nd
    refine ⟨_, (pss_cons (ps_set (i := 2) nd rfl (.inr rfl) (pe_call Gspace_of (hr.mono (by first | decide | omega)) (by rfl) gspace_of Fspace_of.kp bspace_of .nil pass0 (pa_cons (pv 0) pa_nil)))
      (pss_one (ps_ret (pe_op (kCatF K rfl) (pv 2) (pe_callTy (kTupleF K rfl) (by rfl) m_tuple (by decide +kernel) (pa_cons (pe_lc (own := [("block", 3)]) (g := gName 3) (tt := tYes) rfl nd (kPiT K rfl (pi_tup (pe_call Gspace_of (hr.mono (by first | decide | omega)) (by rfl) gspace_of Fspace_of.kp bspace_of .nil pass0 (pa_cons (pv 1) pa_nil)))) (blkOk_by (own := [("block", 3)]) (N := Nbeside) (sc := defScope sbeside) (by decide +kernel)) (fun _ _ _ _ _ => (pg_name (i := 3) nd rfl (Or.inl rfl))) (fun _ _ _ _ _ => pts_nil) (fun _ _ _ _ _ => (pe_call G_block_behind (hr.mono (by first | decide | omega)) (by rfl) g_block_behind F_block_behind.kp b_block_behind .nil pass0 (pa_cons (pv 3) (pa_cons (pe_callB (kLen K rfl) (by rfl) m_len (by decide +kernel) (pa_cons (pv 2) pa_nil)) pa_nil))))) pa_nil)))))), ?_⟩
    refine ⟨v1, rfl, N1, v1, d1, S, rfl, hd1, n1, hG1, a1, a3, fun H1 u1 s1 st1 => ?_⟩
    refine ⟨u1, rfl, v2, rfl, N2, v2, d2, U, rfl, hd2.same s1, n2, hG2, a2, a4, fun H2 u2 s2 st2 => ?_⟩
    have st12 := st1.mono s2.tups
    obtain ⟨p1, r1, rfl, f1, b1⟩ := st12
    obtain ⟨p2, r2, rfl, f2, b2⟩ := st2
    have l1 : r1.length = S.length := plen b1
    have l2 : r2.length = U.length := plen b2
    refine ⟨p2, rfl, ⟨_, f2.sqt⟩, fun D nD => ?_⟩
    refine lc_tup (xs := r2) (fun k H3 => ∃ ws, H3 D = some (.lst ws) ∧ Paired (BT H3) ws ((shS S.length U).take k) ∧ Same H2 H3) ⟨[], upd_same, .nil, same_new nD⟩ ?_ ?_ ?_
    · rintro k H3 _ ⟨ws, h3, t3, s3⟩
      exact (f2.mono s3.tups).sqt
    · rintro k x H3 hx ⟨ws, h3, t3, s3⟩
      obtain ⟨b, hb, bx⟩ := pget' b2 hx
      have hk : k < U.length := (List.getElem?_eq_some_iff.mp hb).1
      have eb : (shS S.length U)[k]? = some (shB S.length b) := by
        unfold shS
        rw [List.getElem?_map, hb]
        rfl
      refine ⟨rfl, x, rfl, .ref p1, rfl, p1, r1, rfl, .inr (f1.mono s3.tups).sqt, x, b, S.length, (by rw [l1]; rfl), bx.mono s3.tups, by rw [hG2.l4 b (List.mem_of_getElem? hb)]; omega, fun H4 v4 s4 b4 => ?_⟩
      have h4 := s4 _ _ h3
      refine ⟨ws, h4, small1000 (by rw [plen t3, List.length_take]; omega), ws ++ [v4], upd_same, ?_, same_fill (s3.trans s4) nD⟩
      rw [List.take_add_one, eb]
      exact papp (pmono t3 fun _ _ z => z.mono (s4.tups.trans (tups_set h4))) (.cons (b4.mono (tups_set h4)) .nil)
    · rintro H3 ⟨ws, h3, t3, s3⟩
      rw [l2, ← shS_len S.length U, List.take_length] at t3
      have lw : ws.length = U.length := by rw [plen t3, shS_len]
      refine ⟨D, ws, rfl, .inl ⟨.inl (.inl h3), fun p3 o3 np3 d3 => ?_⟩⟩
      have s4 : Same H3 (upd H3 p3 (.frz o3 (.tup ws))) := same_new np3
      have f3 : FT (upd H3 p3 (.frz o3 (.tup ws))) p3 ws := FT.new d3
      generalize upd H3 p3 (.frz o3 (.tup ws)) = H4 at s4 f3 ⊢
      have f14 := f1.mono (s3.trans s4).tups
      refine ⟨p1, p3, r1, ws, rfl, rfl, f14.sqt, f3.sqt, fun z => by rw [z] at l1; simp at l1; omega, fun z => by rw [z] at lw; simp at lw; omega, Nat.le_of_lt (small1000 (by omega)), fun p5 o5 np5 d5 => ?_⟩
      have s5 : Same H4 (upd H4 p5 (.frz o5 (.tup (r1 ++ ws)))) := same_new np5
      refine q _ _ ((((s1.trans s2).trans s3).trans s4).trans s5) ⟨p5, r1 ++ ws, rfl, FT.new d5, papp (pmono b1 fun _ _ z => z.mono ((s3.trans s4).trans s5).tups) (pmono t3 fun _ _ z => z.mono (s4.trans s5).tups)⟩
end
end Bk

/-! data as it stands, what the program wrote at its top too -/
namespace L2
open PySem PySem.Spec PyProof.Rows Bk
theorem SqL.late {K : PySem.W.Frag} {H H' : Hp} {a : Addr} {xs : List V} (h : SqL K H a xs) (s : Same H H') : SqL K H' a xs := s.seq h
mutual
theorem Dp.same {K : PySem.W.Frag} {H H' : Hp} (s : Same H H') : ∀ {d : PyData} {v : V}, Dp K H v d → Dp K H' v d
  | .none, _, h => by
    cases h
    exact .non
  | .bool b, _, h => by
    cases h
    exact .bl b
  | .int i, _, h => by
    cases h
    exact .int i
  | .str x, _, h => by
    cases h
    exact .str x
  | .list ds, _, h => by
    cases h with
    | lst h1 h2 => exact .lst (s.seq h1) (DpAll.same s h2)
  | .tuple ds, _, h => by
    cases h with
    | tup h1 h2 => exact .tup (s.sqt h1) (DpAll.same s h2)
  | .dict _, _, h => by cases h
theorem DpAll.same {K : PySem.W.Frag} {H H' : Hp} (s : Same H H') : ∀ {ds : List PyData} {vs : List V}, DpAll K H vs ds → DpAll K H' vs ds
  | [], _, h => by
    cases h
    exact .nil
  | d :: ds, _, h => by
    cases h with
    | cons h1 h2 => exact .cons (Dp.same s h1) (DpAll.same s h2)
end
theorem Dp.late {K : PySem.W.Frag} {H H' : Hp} {v : V} {d : PyData} (h : Dp K H v d) (s : Same H H') : Dp K H' v d := Dp.same s h
theorem DpAll.late {K : PySem.W.Frag} {H H' : Hp} {v : List V} {d : List PyData} (h : DpAll K H v d) (s : Same H H') : DpAll K H' v d := DpAll.same s h
theorem DpAll.len {K : PySem.W.Frag} {H : Hp} : ∀ {ds : List PyData} {vs : List V}, DpAll K H vs ds → vs.length = ds.length
  | [], _, h => by
    cases h
    rfl
  | d :: ds, _, h => by
    cases h with
    | cons h1 h2 => rw [List.length_cons, List.length_cons, h2.len]
theorem DpAll.get {K : PySem.W.Frag} {H : Hp} : ∀ {ds : List PyData} {vs : List V} {i : Nat} {v : V}, DpAll K H vs ds → vs[i]? = some v → ∃ d, ds[i]? = some d ∧ Dp K H v d
  | [], _, i, v, h, e => by
    cases h
    simp at e
  | d :: ds, _, i, v, h, e => by
    cases h with
    | cons h1 h2 =>
      cases i with
      | zero =>
        have e' := Option.some.inj (show some _ = some v from e)
        subst e'
        exact ⟨d, rfl, h1⟩
      | succ i => exact DpAll.get (i := i) h2 (show _ = some v from e)
theorem DpAll.get' {K : PySem.W.Frag} {H : Hp} : ∀ {ds : List PyData} {vs : List V} {i : Nat} {d : PyData}, DpAll K H vs ds → ds[i]? = some d → ∃ v, vs[i]? = some v ∧ Dp K H v d
  | [], _, i, v, h, e => by simp at e
  | d :: ds, _, i, v, h, e => by
    cases h with
    | cons h1 h2 =>
      cases i with
      | zero =>
        have e' := Option.some.inj (show some d = some v from e)
        subst e'
        exact ⟨_, rfl, h1⟩
      | succ i => exact DpAll.get' (i := i) h2 (show _ = some v from e)
theorem Dp.seq {K K' : PySem.W.Frag} {H : Hp} {v : V} {d : PyData} {es : List PyData} (h : Dp K H v d) (e : norm d = .list es) (z : K' = K := by rfl) : ∃ a xs ds, v = .ref a ∧ (SqL K H a xs ∨ SqT K H a xs) ∧ (∀ o, H a = some o → True) ∧ DpAll K H xs ds ∧ norms ds = es := by
  cases d with
  | list ds =>
    cases h with
    | lst h1 h3 => exact ⟨_, _, ds, rfl, .inl h1, fun _ _ => trivial, h3, by simpa only [norm, PyData.list.injEq] using e⟩
  | tuple ds =>
    cases h with
    | tup h1 h2 => exact ⟨_, _, ds, rfl, .inr h1, fun _ _ => trivial, h2, by simpa only [norm, PyData.list.injEq] using e⟩
  | none => simp only [norm] at e; cases e
  | bool b => simp only [norm] at e; cases e
  | int i => simp only [norm] at e; cases e
  | str x => simp only [norm] at e; cases e
  | dict k => simp only [norm] at e; cases e
theorem Dp.isInt {K : PySem.W.Frag} {H : Hp} {v : V} {d : PyData} {i : Int} (h : Dp K H v d) (e : norm d = .int i) : v = .int i := by
  cases h with
  | int j => simp only [norm, PyData.int.injEq] at e; rw [e]
  | non => simp only [norm] at e; cases e
  | bl b => simp only [norm] at e; cases e
  | str x => simp only [norm] at e; cases e
  | lst _ _ => simp only [norm] at e; cases e
  | tup _ _ => simp only [norm] at e; cases e
theorem Dp.isNon {K : PySem.W.Frag} {H : Hp} {v : V} {d : PyData} (h : Dp K H v d) (e : norm d = .none) : v = .non := by
  cases h with
  | non => rfl
  | int j => simp only [norm] at e; cases e
  | bl b => simp only [norm] at e; cases e
  | str x => simp only [norm] at e; cases e
  | lst _ _ => simp only [norm] at e; cases e
  | tup _ _ => simp only [norm] at e; cases e
theorem DpAll.uncons {K : PySem.W.Frag} {H : Hp} {xs : List V} {d : PyData} {ds : List PyData} (h : DpAll K H xs (d :: ds)) : ∃ v vs, xs = v :: vs ∧ Dp K H v d ∧ DpAll K H vs ds := by
  cases h with
  | cons h1 h2 => exact ⟨_, _, rfl, h1, h2⟩
theorem DpAll.pair {K : PySem.W.Frag} {H : Hp} {xs : List V} {ds : List PyData} {e1 e2 : PyData} (h : DpAll K H xs ds) (e : norms ds = [e1, e2]) :
    ∃ v1 v2 d1 d2, xs = [v1, v2] ∧ Dp K H v1 d1 ∧ norm d1 = e1 ∧ Dp K H v2 d2 ∧ norm d2 = e2 := by
  obtain ⟨d1, r, rfl, n1, e⟩ := norms_inv e
  obtain ⟨d2, r2, rfl, n2, e⟩ := norms_inv e
  obtain rfl := norms_nil_inv e
  obtain ⟨v1, w1, rfl, h1, h⟩ := h.uncons
  obtain ⟨v2, w2, rfl, h2, h⟩ := h.uncons
  cases h
  exact ⟨v1, v2, d1, d2, rfl, h1, n1, h2, n2⟩
end L2
namespace L2
open PySem PySem.Spec PyProof.Rows Bk
theorem Dp.ty {K : PySem.W.Frag} {H : Hp} {v : V} {d : PyData} (h : Dp K H v d) : TyX K H v (.type (tyD d)) := by
  cases h with
  | non => exact .base .non
  | bl b => exact .base (.bl b)
  | int i => exact .base (.int i)
  | str x => exact .base (.str x)
  | lst h1 h2 =>
    rcases h1 with (h1 | ⟨o, h1⟩) | ⟨o, its, n, h1, h3, _⟩
    · exact .base (.lst h1)
    · exact .base (.frz h1)
    · exact .kList h1 h3
  | tup h1 h2 =>
    rcases h1 with (h1 | ⟨o, h1⟩) | ⟨o, its, n, h1, h3, _⟩
    · exact .base (.tup h1)
    · exact .fTuple h1
    · exact .kTuple h1 h3
end L2

namespace Bk
open PySem PySem.Spec PyProof.Rows L2 RZ
local macro_rules | `(tactic| walk_at "g") => `(tactic| (repeat first | refine ⟨_, rfl, ?_⟩ | refine ⟨cpow, ?_⟩ | refine ⟨_, _, rfl, rfl, ?_⟩ | refine ⟨rfl, ?_⟩))
section
variable {P : Program} {w : World} {K : PySem.W.Frag} {mg : Str → Option Value} {base : Heap}
/-! ### one block alone, as it stands in what the program wrote at its top -/
abbrev nones : List V := [.non, .non, .non, .non]
def spListedC (K : PySem.W.Frag) : Sp := fun vs H Q _ => ∃ (a : Addr) (xs : List V), vs = [.ref a] ∧ SqT K H a xs ∧ ∀ H', Same H H' → Q (.bl true) H'
theorem tyT {H : Hp} {a : Addr} {xs : List V} (h1 : SqT K H a xs) : TyX K H (.ref a) (.type (tyD (.tuple []))) := by
  rcases h1 with (h1 | ⟨o, h1⟩) | ⟨o, its, n, h1, h3, _⟩
  · exact .base (.tup h1)
  · exact .fTuple h1
  · exact .kTuple h1 h3
theorem okis_listedC {f : Addr} {fd : FuncData} (F : Fun K "is_listed" "is_listed" sis_listed f fd) (m_isinstance : mg "isinstance" = none) (m_list : mg "list" = none) (m_tuple : mg "tuple" = none) : FnOk P w K mg base CX0 1 f fd ["thing"] (spListedC K) := by
  refine F.ok scis_listed (fun vs H Q E h => ?_) (fun cdv A outer s H vs Q E hr h => ?_)
  · obtain ⟨a, xs, rfl, _⟩ := h
    rfl
  · obtain ⟨a, xs, rfl, hd, q⟩ := h
    have nd := scis_listed.nd
    refine ⟨_, (pss_one (ps_ret (pe_callB (kIsiT K rfl) (by rfl) m_isinstance (by decide +kernel) (pa_cons (pv 0) (pa_cons (pe_tup (pa_cons (pe_bltn (v := .ty "list") (by rfl) m_list (by decide +kernel) rfl) (pa_cons (pe_bltn (v := .ty "tuple") (by rfl) m_tuple (by decide +kernel) rfl) pa_nil))) pa_nil))))), ?_⟩
    refine ⟨.ref a, rfl, Nat.le_of_lt (small1000 (by show 2 ≤ 1000; decide)), fun tp ntp => ?_⟩
    have s1 : Same H (upd H tp (.tup [.ty "list", .ty "tuple"])) := same_new ntp
    exact ⟨.ref a, tp, _, _, _, true, rfl, upd_same, .cons (.ty _) (.cons (.ty _) .nil), tyT (s1.sqt hd), kit_seq (.tuple []), q _ s1⟩
def spBlockC (K : PySem.W.Frag) : Sp := fun vs H Q _ => ∃ (a : Addr) (m : Nat), vs = [.ref a, intV m] ∧ SqT K H a nones ∧ ∀ H' v', Same H H' → BT H' v' free4 → Q v' H'
theorem ok_block_ofC {f fL fJ : Addr} {fd fdL fdJ : FuncData} (F : Fun K "_block_of" "_block_of" s_block_of f fd) (Fis_listed : Fun K "is_listed" "is_listed" sis_listed fL fdL) (gis_listed : mg "is_listed" = some (.ref fL)) (bis_listed : Binds K fdL ["thing"] []) (Gis_listed : FnOk P w K mg base CX0 1 fL fdL ["thing"] (spListedC K))
    (F_joining_of : Fun K "_joining_of" "_joining_of" s_joining_of fJ fdJ) (g_joining_of : mg "_joining_of" = some (.ref fJ)) (b_joining_of : Binds K fdJ ["joining", "many"] []) (G_joining_of : FnOk P w K mg base CX0 4 fJ fdJ ["joining", "many"] spJoining)
    (m_len : mg "len" = none) (m_tuple : mg "tuple" = none) : FnOk P w K mg base CX0 5 f fd ["faces", "many"] (spBlockC K) := by
  refine F.ok sc_block_of (fun vs H Q E h => ?_) (fun cdv A outer s H vs Q E hr h => ?_)
  · obtain ⟨a, m, rfl, _⟩ := h
    rfl
  · obtain ⟨a, m, rfl, hd, q⟩ := h
    have nd := sc_block_of.nd
    refine ⟨_, (pss_cons (ps_if (pw_or (pt_not (pt_val (pe_call Gis_listed (hr.mono (by first | decide | omega)) (by rfl) gis_listed Fis_listed.kp bis_listed .nil pass0 (pa_cons (pv 0) pa_nil)))) (pw_or1 (pt_cmpR op_ne (pe_callB (kLen K rfl) (by rfl) m_len (by decide +kernel) (pa_cons (pv 0) pa_nil)) pe_int (nomark _)))).pt (pss_one ps_never) pss_nil)
      (pss_one (ps_ret (pe_callTy (kTupleF K rfl) (by rfl) m_tuple (by decide +kernel) (pa_cons (pe_lc (own := [("joining", 2)]) (g := gName 2) (tt := tYes) rfl nd (kPiS K rfl (pv 0)) (blkOk_by (own := [("joining", 2)]) (N := N_block_of) (sc := defScope s_block_of) (by decide +kernel)) (fun _ _ _ _ _ => (pg_name (i := 2) nd rfl (Or.inl rfl))) (fun _ _ _ _ _ => pts_nil) (fun _ _ _ _ _ => (pe_call G_joining_of (hr.mono (by first | decide | omega)) (by rfl) g_joining_of F_joining_of.kp b_joining_of .nil pass0 (pa_cons (pv 2) (pa_cons (pv 1) pa_nil))))) pa_nil))))), ?_⟩
    refine ⟨.ref a, rfl, a, _, rfl, hd, fun H1 s1 => ?_⟩
    have hd1 := s1.sqt hd
    refine ⟨_, rfl, iteF ⟨.ref a, rfl, a, _, rfl, .inr hd1, rfl, _, rfl, iteNS rfl ?_⟩⟩
    refine ⟨.ref a, rfl, a, nones, rfl, .inr hd1, fun J C hJ hC => ?_⟩
    intro D nD
    refine lc_seq (xs := nones) hJ (fun i H2 => H2 D = some (.lst (nones.take i)) ∧ Same H1 H2) ⟨upd_same, same_new nD⟩ ?_ ?_ ?_
    · rintro i H2 ⟨h2, s2⟩
      exact SeqIt.mono K hJ (fun o e => s2 _ _ e) hC
    · rintro i x H2 hx ⟨h2, s2⟩
      have hi : i < 4 := (List.getElem?_eq_some_iff.mp hx).1
      have xn : x = .non := by
        match i, hi, hx with
        | 0, _, hx => exact (Option.some.inj hx).symm
        | 1, _, hx => exact (Option.some.inj hx).symm
        | 2, _, hx => exact (Option.some.inj hx).symm
        | 3, _, hx => exact (Option.some.inj hx).symm
      subst xn
      refine ⟨rfl, .non, rfl, intV m, rfl, fun _ => False, .non, .none, none, m, rfl, .non, by simp [norm, nJ, jD], (fun n t z => by cases z), fun H3 v3 s3 j3 => ?_⟩
      have h3 := s3 _ _ h2
      have e3 : v3 = .non := j3
      subst e3
      refine ⟨_, h3, small1000 (by rw [List.length_take]; show min i 4 ≤ 1000; omega), ?_, same_fill (s2.trans s3) nD⟩
      rw [upd_same, List.take_add_one, hx]
      rfl
    · rintro H2 ⟨h2, s2⟩
      refine ⟨D, _, rfl, .inl ⟨.inl (.inl h2), fun p o np dn => ?_⟩⟩
      exact q _ _ ((s1.trans s2).trans (same_new np)) ⟨p, nones, rfl, FT.new dn, .cons rfl (.cons rfl (.cons rfl (.cons rfl .nil)))⟩
def spSpaceC (K : PySem.W.Frag) : Sp := fun vs H Q _ => ∃ (a c : Addr), vs = [.ref a] ∧ SqT K H a [.ref c] ∧ SqT K H c nones ∧ ∀ H' v', Same H H' → ST H' v' [free4] → Q v' H'
theorem good1 : Good [free4] := by
  have := Good.push (s := []) ⟨(fun b hb => absurd hb List.not_mem_nil), fun b f n t e => by
    unfold getJ at e
    simp at e⟩
  exact this
theorem okspace_ofC {f fL fB fG : Addr} {fd fdL fdB fdG : FuncData} (F : Fun K "space_of" "space_of" sspace_of f fd) (Fis_listed : Fun K "is_listed" "is_listed" sis_listed fL fdL) (gis_listed : mg "is_listed" = some (.ref fL)) (bis_listed : Binds K fdL ["thing"] []) (Gis_listed : FnOk P w K mg base CX0 1 fL fdL ["thing"] (spListedC K))
    (F_block_of : Fun K "_block_of" "_block_of" s_block_of fB fdB) (g_block_of : mg "_block_of" = some (.ref fB)) (b_block_of : Binds K fdB ["faces", "many"] []) (G_block_of : FnOk P w K mg base CX0 5 fB fdB ["faces", "many"] (spBlockC K))
    (F_goes_both_ways : Fun K "_goes_both_ways" "_goes_both_ways" s_goes_both_ways fG fdG) (g_goes_both_ways : mg "_goes_both_ways" = some (.ref fG)) (b_goes_both_ways : Binds K fdG ["space", "block", "face"] []) (G_goes_both_ways : FnOk P w K mg base CX0 2 fG fdG ["space", "block", "face"] spGoes)
    (m_len : mg "len" = none) (m_tuple : mg "tuple" = none) (m_range : mg "range" = none) : FnOk P w K mg base CX0 6 f fd ["blocks"] (spSpaceC K) := by
  refine F.ok scspace_of (fun vs H Q E h => ?_) (fun cdv A outer s H vs Q E hr h => ?_)
  · obtain ⟨a, c, rfl, _⟩ := h
    rfl
  · obtain ⟨a, c, rfl, hd, hc, q⟩ := h
    have nd := scspace_of.nd
    refine ⟨_, (pss_cons (ps_if (pw_or (pt_not (pt_val (pe_call Gis_listed (hr.mono (by first | decide | omega)) (by rfl) gis_listed Fis_listed.kp bis_listed .nil pass0 (pa_cons (pv 0) pa_nil)))) (pw_or1 (pt_not (pt_truth (pv 0) (by intro _; rfl))))).pt (pss_one ps_never) pss_nil)
      (pss_cons (ps_set (i := 1) nd rfl (.inl rfl) (pe_callTy (kTupleF K rfl) (by rfl) m_tuple (by decide +kernel) (pa_cons (pe_lc (own := [("faces", 4)]) (g := gName 4) (tt := tYes) rfl nd (kPiS K rfl (pv 0)) (blkOk_by (own := [("faces", 4)]) (N := Nspace_of) (sc := defScope sspace_of) (by decide +kernel)) (fun _ _ _ _ _ => (pg_name (i := 4) nd rfl (Or.inl rfl))) (fun _ _ _ _ _ => pts_nil) (fun _ _ _ _ _ => (pe_call G_block_of (hr.mono (by first | decide | omega)) (by rfl) g_block_of F_block_of.kp b_block_of .nil pass0 (pa_cons (pv 4) (pa_cons (pe_callB (kLen K rfl) (by rfl) m_len (by decide +kernel) (pa_cons (pv 0) pa_nil)) pa_nil))))) pa_nil)))
      (pss_cons (ps_for PassesOwn.never rfl (pi_range1 (by rfl) m_range (pa_cons (pe_callB (kLen K rfl) (by rfl) m_len (by decide +kernel) (pa_cons (pv 1) pa_nil)) pa_nil)) (pg_name (i := 2) nd rfl (.inl rfl)) (pss_one (ps_for PassesOwn.never rfl (pi_range1 (by rfl) m_range (pa_cons pe_int pa_nil)) (pg_name (i := 3) nd rfl (.inl rfl)) (pss_one (ps_if (pt_not (pt_val (pe_call G_goes_both_ways (hr.mono (by first | decide | omega)) (by rfl) g_goes_both_ways F_goes_both_ways.kp b_goes_both_ways .nil pass0 (pa_cons (pv 1) (pa_cons (pv 2) (pa_cons (pv 3) pa_nil)))))) (pss_one ps_never) pss_nil)))))
      (pss_one (ps_ret (pv 1)))))), ?_⟩
    refine ⟨.ref a, rfl, a, _, rfl, hd, fun H1 s1 => ?_⟩
    have hd1 := s1.sqt hd
    have tru : TruV K (.ref a) H1 true := .inr (.inl ⟨_, hd1, rfl⟩)
    refine ⟨_, rfl, iteF ⟨.ref a, rfl, true, tru, iteF ?_⟩⟩
    refine ⟨.ref a, rfl, a, [.ref c], rfl, .inr hd1, fun J C hJ hC => ?_⟩
    intro D nD
    refine lc_seq (xs := [.ref c]) hJ (fun i H2 => ∃ ws, H2 D = some (.lst ws) ∧ Paired (BT H2) ws ([free4].take i) ∧ Same H1 H2) ⟨[], upd_same, .nil, same_new nD⟩ ?_ ?_ ?_
    · rintro i H2 ⟨ws, h2, t2, s2⟩
      exact SeqIt.mono K hJ (fun o e => s2 _ _ e) hC
    · rintro i x H2 hx ⟨ws, h2, t2, s2⟩
      cases i with
      | succ i => simp at hx
      | zero =>
        cases Option.some.inj hx
        refine ⟨rfl, .ref c, rfl, .ref a, rfl, a, _, rfl, .inr (s2.sqt hd1), ?_⟩
        refine ⟨c, 1, rfl, (s1.trans s2).sqt hc, fun H3 v3 s3 j3 => ?_⟩
        have h3 := s3 _ _ h2
        refine ⟨ws, h3, small1000 (by rw [plen t2, List.length_take]; show min 0 1 ≤ 1000; decide), ws ++ [v3], upd_same, ?_, same_fill (s2.trans s3) nD⟩
        exact papp (pmono t2 fun _ _ z => z.mono (s3.tups.trans (tups_set h3))) (.cons (j3.mono (tups_set h3)) .nil)
    · rintro H2 ⟨ws, h2, t2, s2⟩
      refine ⟨D, ws, rfl, .inl ⟨.inl (.inl h2), fun p o np dn => ?_⟩⟩
      have s3 : Same H2 (upd H2 p (.frz o (.tup ws))) := same_new np
      have st : ST (upd H2 p (.frz o (.tup ws))) (.ref p) [free4] := ⟨p, ws, rfl, FT.new dn, pmono t2 fun _ _ z => z.mono s3.tups⟩
      have ftp : FT (upd H2 p (.frz o (.tup ws))) p ws := FT.new dn
      generalize upd H2 p (.frz o (.tup ws)) = H3 at s3 st ftp ⊢
      have s13 := (s1.trans s2).trans s3
      have lw : ws.length = 1 := plen t2
      refine ⟨.ref p, rfl, p, ws, rfl, .inr ftp.sqt, _, rfl, by rw [lw]; decide, by rw [lw]; decide, ?_⟩
      rw [lw, Int.toNat_natCast]
      refine for_range (lo := 0) (n := 1) (fun b σ H4 => ∃ y2 y3, σ = [some (.ref a), some (.ref p), y2, y3, none] ∧ Same H3 H4) ⟨none, none, rfl, Same.refl _⟩ ?_ ?_
      · rintro b σ H4 hb ⟨y2, y3, rfl, s4⟩
        rw [Int.zero_add]
        refine ⟨4, rfl, by decide, by decide, ?_⟩
        refine for_range (lo := 0) (n := 4) (fun f σ H5 => ∃ y3, σ = [some (.ref a), some (.ref p), some (intV b), y3, none] ∧ Same H3 H5) ⟨y3, rfl, s4⟩ ?_ ?_
        · rintro f σ H5 hf ⟨y3, rfl, s5⟩
          rw [Int.zero_add]
          refine ⟨.ref p, rfl, intV b, rfl, intV f, rfl, .ref p, [free4], b, f, rfl, st.mono s5.tups, good1, hb, hf, fun H6 s6 => ⟨_, rfl, iteF ?_⟩⟩
          exact ⟨_, rfl, s5.trans s6⟩
        · rintro σ H5 ⟨y3, rfl, s5⟩
          exact ⟨_, _, rfl, s5⟩
      · rintro σ H4 ⟨y2, y3, rfl, s4⟩
        exact ⟨.ref p, rfl, q H4 _ (s13.trans s4) (st.mono s4.tups)⟩
end
end Bk

namespace Bk
open PySem PySem.Spec PyProof.Rows L2 RZ
local macro_rules | `(tactic| walk_at "g") => `(tactic| (repeat first | refine ⟨_, rfl, ?_⟩ | refine ⟨cpow, ?_⟩ | refine ⟨wideM, ?_⟩ | refine ⟨_, _, rfl, rfl, ?_⟩ | refine ⟨rfl, ?_⟩))
section
variable {P : Program} {w : World} {K : PySem.W.Frag} {mg : Str → Option Value} {base : Heap}
/-! ### _is_face, _put -/
abbrev s_is_face : Stmt := topS 31
abbrev N_is_face : List Str := ["space", "block", "face"]
theorem sc_is_face : FnScope N_is_face ["space", "block", "face"] (defScope s_is_face) := ⟨rfl, rfl, rfl, by decide +kernel, rfl, by decide +kernel, by decide +kernel⟩
def spIsFace : Sp := fun vs H Q _ => ∃ (v : V) (S : Spc) (b f : Nat), vs = [v, intV b, intV f] ∧ ST H v S ∧ b < S.length ∧ f < 4 ∧ Q (.bl true) H
theorem ok_is_face {f fB : Addr} {fd fdB : FuncData} (F : Fun K "_is_face" "_is_face" s_is_face f fd) (Fis_below : Fun K "is_below" "is_below" sis_below fB fdB) (gis_below : mg "is_below" = some (.ref fB)) (bis_below : Binds K fdB ["thing", "many"] [])
    (Gis_below : FnOk P w K mg base CX0 2 fB fdB ["thing", "many"] spBelow) (m_len : mg "len" = none) : FnOk P w K mg base CX0 3 f fd ["space", "block", "face"] spIsFace := by
  refine F.ok sc_is_face (fun vs H Q E h => ?_) (fun cdv A outer s H vs Q E hr h => ?_)
  · obtain ⟨v, S, b, f, rfl, _⟩ := h
    rfl
  · obtain ⟨v, S, b, f, rfl, ⟨p, rs, rfl, fp, hb⟩, b1, b2, q⟩ := h
    have nd := sc_is_face.nd
    refine ⟨_, (pss_one (ps_ret (pe_and (pe_call Gis_below (hr.mono (by first | decide | omega)) (by rfl) gis_below Fis_below.kp bis_below .nil pass0 (pa_cons (pv 1) (pa_cons (pe_callB (kLen K rfl) (by rfl) m_len (by decide +kernel) (pa_cons (pv 0) pa_nil)) pa_nil))) (pe_one (pe_call Gis_below (hr.mono (by first | decide | omega)) (by rfl) gis_below Fis_below.kp bis_below .nil pass0 (pa_cons (pv 2) (pa_cons pe_int pa_nil))))))), ?_⟩
    have lrs : rs.length = S.length := plen hb
    have e1 : (decide ((0 : Int) ≤ (b : Int)) && decide ((b : Int) < (rs.length : Int))) = true := by
      rw [decide_eq_true (show (0 : Int) ≤ (b : Int) by omega), decide_eq_true (show (b : Int) < (rs.length : Int) by omega)]
      rfl
    have e2 : (decide ((0 : Int) ≤ (f : Int)) && decide ((f : Int) < ((4 : Nat) : Int))) = true := by
      rw [decide_eq_true (show (0 : Int) ≤ (f : Int) by omega), decide_eq_true (show (f : Int) < ((4 : Nat) : Int) by omega)]
      rfl
    refine ⟨intV b, rfl, .ref p, rfl, p, rs, rfl, .inr fp.sqt, (b : Int), rs.length, rfl, ?_⟩
    rw [e1]
    refine ⟨_, rfl, iteT ⟨intV f, rfl, (f : Int), 4, rfl, ?_⟩⟩
    rw [e2]
    exact q
def putS (S : Spc) (cs : List (Nat × Nat × Jn)) : Spc := cs.foldl (fun S c => setJ S c.1 c.2.1 c.2.2) S
theorem putS_len (cs : List (Nat × Nat × Jn)) : ∀ S : Spc, (putS S cs).length = S.length := by
  induction cs with
  | nil => intro S; rfl
  | cons c cs ih =>
    intro S
    show (putS (setJ S c.1 c.2.1 c.2.2) cs).length = S.length
    rw [ih, setJ_len]
theorem putS_l4 (cs : List (Nat × Nat × Jn)) : ∀ S : Spc, L4 S → L4 (putS S cs) := by
  induction cs with
  | nil => intro S h; exact h
  | cons c cs ih =>
    intro S h
    exact ih _ (h.set _ _ _)
theorem putS_succ {S : Spc} {cs : List (Nat × Nat × Jn)} {i : Nat} {c : Nat × Nat × Jn} (h : cs[i]? = some c) : putS S (cs.take (i + 1)) = setJ (putS S (cs.take i)) c.1 c.2.1 c.2.2 := by
  unfold putS
  rw [List.take_add_one, h, List.foldl_append]
  rfl
def CAt (H : Hp) (v : V) (c : Nat × Nat × Jn) : Prop := ∃ p x, v = .ref p ∧ FT H p [intV c.1, intV c.2.1, x] ∧ JAt H x c.2.2
theorem CAt.mono {H H' : Hp} {v : V} {c : Nat × Nat × Jn} (h : CAt H v c) (m : Tups H H') : CAt H' v c := by
  obtain ⟨p, x, e, h1, h2⟩ := h
  exact ⟨p, x, e, h1.mono m, h2.mono m⟩
abbrev s_put : Stmt := topS 32
abbrev N_put : List Str := ["space", "changes", "rows", "block", "face", "joining", "faces", "row"]
theorem sc_put : FnScope N_put ["space", "changes"] (defScope s_put) := ⟨rfl, rfl, rfl, by decide +kernel, rfl, by decide +kernel, by decide +kernel⟩
def spPut : Sp := fun vs H Q _ => ∃ (v : V) (l : Addr) (xs : List V) (S : Spc) (cs : List (Nat × Nat × Jn)), vs = [v, .ref l] ∧ ST H v S ∧ H l = some (.lst xs) ∧ Paired (CAt H) xs cs ∧ L4 S ∧ S.length ≤ 100 ∧ (∀ c ∈ cs, c.1 < S.length ∧ c.2.1 < 4) ∧ ∀ H' v', Same H H' → ST H' v' (putS S cs) → Q v' H'
theorem ok_put {f : Addr} {fd : FuncData} (F : Fun K "_put" "_put" s_put f fd) (m_tuple : mg "tuple" = none) (m_list : mg "list" = none) : FnOk P w K mg base CX0 1 f fd ["space", "changes"] spPut := by
  refine F.ok sc_put (fun vs H Q E h => ?_) (fun cdv A outer s H vs Q E hr h => ?_)
  · obtain ⟨v, l, xs, S, cs, rfl, _⟩ := h
    rfl
  · obtain ⟨v, l, xs, S, cs, rfl, ⟨p, rs, rfl, fp, hb⟩, hl, hc, h4, hz, hcs, q⟩ := h
    have nd := sc_put.nd
    refine ⟨_, (pss_cons (ps_setLc (i := 2) (own := [("faces", 6)]) (g := gName 6) (tt := tYes) rfl nd rfl rfl (sw_true rfl rfl rfl (by decide +kernel)) (kPiT K rfl (pi_tup (pv 0))) (blkOk_by (own := [("faces", 6)]) (N := N_put) (sc := defScope s_put) (by decide +kernel)) (fun _ _ _ _ _ => (pg_name (i := 6) nd rfl (Or.inl rfl))) (fun _ _ _ _ _ => pts_nil) (fun _ _ _ _ _ => (pe_callTy (kList K rfl) (by rfl) m_list (by decide +kernel) (pa_cons (pv 6) pa_nil))))
      (pss_cons (ps_for PassesOwn.never rfl (kPiL K rfl (pi_list (pv 1))) (kPgT K rfl (pg_tup (n := 3) rfl (pgs_cons (pg_name (i := 3) nd rfl (.inl rfl)) (pgs_cons (pg_name (i := 4) nd rfl (.inl rfl)) (pgs_cons (pg_name (i := 5) nd rfl (.inl rfl)) pgs_nil))))) (pss_one (ps_asg (pv 5) (pg_sub (pe_ix (kIxL K rfl) (pv 2) (pv 3) (fun _ _ => rfl)) (pv 4) set_list))))
      (pss_one (ps_ret (pe_callTy (kTupleF K rfl) (by rfl) m_tuple (by decide +kernel) (pa_cons (pe_lc (own := [("row", 7)]) (g := gName 7) (tt := tYes) rfl nd (kPiL K rfl (pi_list (pv 2))) (blkOk_by (own := [("row", 7)]) (N := N_put) (sc := defScope s_put) (by decide +kernel)) (fun _ _ _ _ _ => (pg_name (i := 7) nd rfl (Or.inl rfl))) (fun _ _ _ _ _ => pts_nil) (fun _ _ _ _ _ => (pe_callTy (kTupleF K rfl) (by rfl) m_tuple (by decide +kernel) (pa_cons (pv 7) pa_nil)))) pa_nil)))))), ?_⟩
    have lrs : rs.length = S.length := plen hb
    -- rows
    refine ⟨.ref p, rfl, p, rfl, ⟨_, fp.sqt⟩, fun D nD => ?_⟩
    refine lc_tup (xs := rs) (fun i H1 => ∃ rf, SpAt H1 D rf (S.take i) ∧ Fresh H rf ∧ Same H H1) ⟨[], ⟨upd_same, .nil, .nil⟩, fun _ z => (by cases z), same_new nD⟩ ?_ ?_ ?_
    · rintro i H1 _ ⟨rf, hf, hF, s1⟩
      exact (fp.mono s1.tups).sqt
    · rintro i x H1 hx ⟨rf, hf, hF, s1⟩
      obtain ⟨b, hbi, p1, vs, rfl, f1, h2⟩ := pget' hb hx
      have hi : i < S.length := (List.getElem?_eq_some_iff.mp hbi).1
      refine ⟨rfl, .ref p1, rfl, p1, vs, rfl, .inr (f1.mono s1.tups).sqt, fun p2 np2 => ?_⟩
      have s2 : Same H1 (upd H1 p2 (.lst vs)) := same_new np2
      refine ⟨rf, s2 _ _ hf.l, small1000 (by rw [plen hf.b, List.length_take]; omega), rf ++ [.ref p2], ?_, hF.push (fun o e => s1 _ _ e) np2, same_fill (s1.trans s2) nD⟩
      rw [List.take_add_one, hbi]
      exact hf.push s2 np2 ⟨p2, vs, rfl, upd_same, pmono h2 fun _ _ z => z.mono (s1.trans s2).tups⟩
    · rintro H1 ⟨rf, hf, hF, s1⟩
      rw [lrs, List.take_length] at hf
      -- changes
      refine ⟨.ref l, rfl, l, rfl, ⟨_, .inl (.inl (s1 _ _ hl))⟩, ?_⟩
      refine for_list (xs := xs) (fun i σ H2 => ∃ y3 y4 y5, σ = [some (.ref p), some (.ref l), some (.ref D), y3, y4, y5, none, none] ∧ SpAt H2 D rf (putS S (cs.take i)) ∧ Same H H2) ⟨none, none, none, rfl, hf, s1⟩ ?_ ?_ ?_
      · rintro i σ H2 _ ⟨y3, y4, y5, rfl, hf2, s2⟩
        exact .inl (.inl (s2 _ _ hl))
      · rintro i x σ H2 hx ⟨y3, y4, y5, rfl, hf2, s2⟩
        obtain ⟨⟨b, f, j⟩, hci, pc, vj, rfl, fc, hj⟩ := pget' hc hx
        obtain ⟨cb, cf⟩ := hcs _ (List.mem_of_getElem? hci)
        have cb' : b < (putS S (cs.take i)).length := by rw [putS_len]; exact cb
        have hj2 := hj.mono s2.tups
        obtain ⟨pb, vb, e1, e2, e3⟩ := hf2.at cb'
        have lvb : vb.length = 4 := by rw [plen e3]; exact blk_len (putS_l4 _ _ h4) cb'
        refine ⟨pc, _, rfl, (fc.mono s2.tups).sqt, rfl, _, _, rfl, _, _, rfl, _, _, rfl, rfl, ?_⟩
        refine ⟨vj, rfl, .ref D, rfl, intV b, rfl, D, rf, b, .ref pb, rfl, rfl, .inl (.inl hf2.l), atI_nat e1, intV f, rfl, pb, vb, f, f, rfl, rfl, e2, ixN_lt (by rw [lvb]; exact cf), ?_⟩
        obtain ⟨hf3, k3⟩ := hf2.set (f := f) e1 e2 hj2
        refine ⟨_, _, _, rfl, ?_, s2.inner k3 hF⟩
        rw [putS_succ hci]
        exact hf3
      · rintro σ H2 ⟨y3, y4, y5, rfl, hf2, s2⟩
        rw [plen hc, List.take_length] at hf2
        -- the result
        refine ⟨.ref D, rfl, D, rfl, ⟨_, .inl (.inl hf2.l)⟩, fun D2 nD2 => ?_⟩
        have lS : (putS S cs).length = S.length := putS_len _ _
        have lrf : rf.length = (putS S cs).length := plen hf2.b
        refine lc_list (xs := rf) (fun i H3 => ∃ ws, H3 D2 = some (.lst ws) ∧ Paired (BT H3) ws ((putS S cs).take i) ∧ Same H2 H3) ⟨[], upd_same, .nil, same_new nD2⟩ ?_ ?_ ?_
        · rintro i H3 _ ⟨ws, h3, t3, s3⟩
          exact .inl (.inl (s3 _ _ hf2.l))
        · rintro i x H3 hx ⟨ws, h3, t3, s3⟩
          obtain ⟨b, hbi, p1, vs, rfl, hp1, hv⟩ := pget' hf2.b hx
          have hi : i < (putS S cs).length := (List.getElem?_eq_some_iff.mp hbi).1
          refine ⟨rfl, .ref p1, rfl, p1, vs, rfl, .inl ⟨.inl (.inl (s3 _ _ hp1)), fun p2 o2 np2 d2 => ?_⟩⟩
          have s4 : Same H3 (upd H3 p2 (.frz o2 (.tup vs))) := same_new np2
          have b4 : BT (upd H3 p2 (.frz o2 (.tup vs))) (.ref p2) b := ⟨p2, vs, rfl, FT.new d2, pmono hv fun _ _ z => z.mono (s3.trans s4).tups⟩
          generalize upd H3 p2 (.frz o2 (.tup vs)) = H4 at s4 b4 ⊢
          have h4 := s4 _ _ h3
          refine ⟨ws, h4, small1000 (by rw [plen t3, List.length_take]; omega), ws ++ [.ref p2], upd_same, ?_, same_fill (s3.trans s4) nD2⟩
          rw [List.take_add_one, hbi]
          exact papp (pmono t3 fun _ _ z => z.mono (s4.tups.trans (tups_set h4))) (.cons (b4.mono (tups_set h4)) .nil)
        · rintro H3 ⟨ws, h3, t3, s3⟩
          rw [lrf, List.take_length] at t3
          refine ⟨D2, ws, rfl, .inl ⟨.inl (.inl h3), fun p5 o5 np5 d5 => ?_⟩⟩
          have s5 : Same H3 (upd H3 p5 (.frz o5 (.tup ws))) := same_new np5
          exact q _ _ ((s2.trans s3).trans s5) ⟨p5, ws, rfl, FT.new d5, pmono t3 fun _ _ z => z.mono s5.tups⟩
end
end Bk

namespace Bk
open PySem PySem.Spec PyProof.Rows L2 RZ
local macro_rules | `(tactic| walk_at "g") => `(tactic| (repeat first | refine ⟨_, rfl, ?_⟩ | refine ⟨cpow, ?_⟩ | refine ⟨wideM, ?_⟩ | refine ⟨_, _, rfl, rfl, ?_⟩ | refine ⟨rfl, ?_⟩))
section
variable {P : Program} {w : World} {K : PySem.W.Frag} {mg : Str → Option Value} {base : Heap}
/-! ### joined -/
abbrev sjoined : Stmt := topS 33
abbrev Njoined : List Str := ["space", "block", "face", "other", "turn", "whole", "across"]
theorem scjoined : FnScope Njoined ["space", "block", "face", "other", "turn"] (defScope sjoined) := ⟨rfl, rfl, rfl, by decide +kernel, rfl, by decide +kernel, by decide +kernel⟩
theorem kb_joined_ot {f : Addr} {fd : FuncData} (F : Fun K "joined" "joined" sjoined f fd) : KBn K fd ["space", "block", "face", "other", "turn"] 3 ["other", "turn"] (fun us ws => us ++ ws) (fun vs zs => vs ++ zs) := by
  obtain ⟨oc, od, kV, doc, pm, an, cdv, ct, osl, rfl, lk, hcd⟩ := F.ex
  exact ⟨fun s us ws _ l1 l2 => match us, ws, l1, l2 with | [_, _, _], [_, _], _, _ => .of_eq rfl, fun r1 r2 => r1.append r2⟩
theorem kb_joined_to {f : Addr} {fd : FuncData} (F : Fun K "joined" "joined" sjoined f fd) : KBn K fd ["space", "block", "face", "other", "turn"] 3 ["turn", "other"] (fun us ws => us ++ ws.reverse) (fun vs zs => vs ++ zs.reverse) := by
  obtain ⟨oc, od, kV, doc, pm, an, cdv, ct, osl, rfl, lk, hcd⟩ := F.ex
  exact ⟨fun s us ws _ l1 l2 => match us, ws, l1, l2 with | [_, _, _], [_, _], _, _ => .of_eq rfl, fun r1 r2 => r1.append r2.reverse⟩
def spJoined : Sp := fun vs H Q _ => ∃ (N N2 : Addr → Prop) (v tv : V) (d dt : PyData) (S : Spc) (b f n : Nat) (t : Trn), vs = [v, intV b, intV f, intV n, tv] ∧ Dq N H v d ∧ norm d = nS S ∧ Good S ∧ S.length ≤ 60 ∧
  Dq N2 H tv dt ∧ norm dt = .list (t.map intD) ∧ t ∈ allTurns ∧ getJ S b f = some none ∧ getJ S n (tf t f) = some none ∧ (n, tf t f) ≠ (b, f) ∧ ∀ H' v', Same H H' → ST H' v' (joinJ S b f n t) → Q v' H'
theorem okjoined {f fX fF fB fT fC fP : Addr} {fd fdX fdF fdB fdT fdC fdP : FuncData} (F : Fun K "joined" "joined" sjoined f fd)
    (Fspace_of : Fun K "space_of" "space_of" sspace_of fX fdX) (gspace_of : mg "space_of" = some (.ref fX)) (bspace_of : Binds K fdX ["blocks"] []) (Gspace_of : FnOk P w K mg base CX0 6 fX fdX ["blocks"] spSpace)
    (F_is_face : Fun K "_is_face" "_is_face" s_is_face fF fdF) (g_is_face : mg "_is_face" = some (.ref fF)) (b_is_face : Binds K fdF ["space", "block", "face"] []) (G_is_face : FnOk P w K mg base CX0 3 fF fdF ["space", "block", "face"] spIsFace)
    (Fis_below : Fun K "is_below" "is_below" sis_below fB fdB) (gis_below : mg "is_below" = some (.ref fB)) (bis_below : Binds K fdB ["thing", "many"] []) (Gis_below : FnOk P w K mg base CX0 2 fB fdB ["thing", "many"] spBelow)
    (Fis_turn : Fun K "is_turn" "is_turn" sis_turn fT fdT) (gis_turn : mg "is_turn" = some (.ref fT)) (bis_turn : Binds K fdT ["thing"] []) (Gis_turn : FnOk P w K mg base CX0 3 fT fdT ["thing"] spTurn)
    (Fcontrary : Fun K "contrary" "contrary" scontrary fC fdC) (gcontrary : mg "contrary" = some (.ref fC)) (bcontrary : Binds K fdC ["turn"] []) (Gcontrary : FnOk P w K mg base CX0 1 fC fdC ["turn"] spBackE)
    (F_put : Fun K "_put" "_put" s_put fP fdP) (g_put : mg "_put" = some (.ref fP)) (b_put : Binds K fdP ["space", "changes"] []) (G_put : FnOk P w K mg base CX0 1 fP fdP ["space", "changes"] spPut)
    (m_len : mg "len" = none) (m_tuple : mg "tuple" = none) : FnOk P w K mg base CX0 7 f fd ["space", "block", "face", "other", "turn"] spJoined := by
  refine F.ok scjoined (fun vs H Q E h => ?_) (fun cdv A outer s H vs Q E hr h => ?_)
  · obtain ⟨N, N2, v, tv, d, dt, S, b, f, n, t, rfl, _⟩ := h
    rfl
  · obtain ⟨N, N2, v, tv, d, dt, S, b, f, n, t, rfl, hd, hn, hG, hz, hdt, hnt, ht, g1, g2, hne, q⟩ := h
    have nd := scjoined.nd
    refine ⟨_, (pss_cons (ps_set (i := 5) nd rfl (.inl rfl) (pe_call Gspace_of (hr.mono (by first | decide | omega)) (by rfl) gspace_of Fspace_of.kp bspace_of .nil pass0 (pa_cons (pv 0) pa_nil)))
      (pss_cons (ps_if (pw_or (pt_not (pt_val (pe_call G_is_face (hr.mono (by first | decide | omega)) (by rfl) g_is_face F_is_face.kp b_is_face .nil pass0 (pa_cons (pv 5) (pa_cons (pv 1) (pa_cons (pv 2) pa_nil)))))) (pw_or1 (pt_not (pt_val (pe_call Gis_below (hr.mono (by first | decide | omega)) (by rfl) gis_below Fis_below.kp bis_below .nil pass0 (pa_cons (pv 3) (pa_cons (pe_callB (kLen K rfl) (by rfl) m_len (by decide +kernel) (pa_cons (pv 5) pa_nil)) pa_nil))))))).pt (pss_one ps_never) pss_nil)
      (pss_cons (ps_if (pt_cmpR op_notN (pe_ix (kIxT K rfl) (pe_ix (kIxT K rfl) (pv 5) (pv 1) (fun _ _ => rfl)) (pv 2) (fun _ _ => rfl)) pe_non (nomark _)) (pss_one ps_never) pss_nil)
      (pss_cons (ps_if (pt_not (pt_val (pe_call Gis_turn (hr.mono (by first | decide | omega)) (by rfl) gis_turn Fis_turn.kp bis_turn .nil pass0 (pa_cons (pv 4) pa_nil)))) (pss_one ps_never) pss_nil)
      (pss_cons (ps_set (i := 6) nd rfl (.inl rfl) (pe_ix (kIxE K rfl) (pv 4) (pv 2) (fun _ _ => rfl)))
      (pss_cons (ps_if (pw_or (pt_cmpR op_notN (pe_ix (kIxT K rfl) (pe_ix (kIxT K rfl) (pv 5) (pv 3) (fun _ _ => rfl)) (pv 6) (fun _ _ => rfl)) pe_non (nomark _)) (pw_or1 (pt_cmpR (kEqD K rfl hr.units) (pe_tupF (pa_cons (pv 3) (pa_cons (pv 6) pa_nil))) (pe_tupF (pa_cons (pv 1) (pa_cons (pv 2) pa_nil))) (nomark _)))).pt (pss_one ps_never) pss_nil)
      (pss_one (ps_ret (pe_call G_put (hr.mono (by first | decide | omega)) (by rfl) g_put F_put.kp b_put .nil pass0 (pa_cons (pv 5) (pa_cons (pe_lst (pa_cons (pe_tupF (pa_cons (pv 1) (pa_cons (pv 2) (pa_cons (pe_tupF (pa_cons (pv 3) (pa_cons (pe_callTy (kTupleF K rfl) (by rfl) m_tuple (by decide +kernel) (pa_cons (pv 4) pa_nil)) pa_nil))) pa_nil)))) (pa_cons (pe_tupF (pa_cons (pv 3) (pa_cons (pv 6) (pa_cons (pe_tupF (pa_cons (pv 1) (pa_cons (pe_call Gcontrary (hr.mono (by first | decide | omega)) (by rfl) gcontrary Fcontrary.kp bcontrary .nil pass0 (pa_cons (pv 4) pa_nil)) pa_nil))) pa_nil)))) pa_nil))) pa_nil))))))))))), ?_⟩
    have lb := hG.l4.of g1
    have ln := hG.l4.of g2
    have htf := tf_lt t ht f lb.2
    refine ⟨v, rfl, N, v, d, S, rfl, hd, hn, hG, by omega, by omega, fun H1 u s1 st1 => ?_⟩
    obtain ⟨p, rs, pb, vb, x, rfl, f1, k1, f2, k2, jx⟩ := st1.face g1
    obtain ⟨p', rs', pn, vn, x2, ep, f3, k3, f4, k4, jx2⟩ := st1.face g2
    cases ep
    obtain rfl := f1.inj f3
    have lrs : rs.length = S.length := by
      obtain ⟨p', rs', e1, e2, e3⟩ := st1
      cases e1
      rw [f1.inj e2]
      exact plen e3
    have e1 : (decide ((0 : Int) ≤ (n : Int)) && decide ((n : Int) < (rs.length : Int))) = true := by
      rw [decide_eq_true (show (0 : Int) ≤ (n : Int) by omega), decide_eq_true (show (n : Int) < (rs.length : Int) by omega)]
      rfl
    refine ⟨.ref p, rfl, intV b, rfl, intV f, rfl, .ref p, S, b, f, rfl, st1, lb.1, lb.2, _, rfl, iteF ?_⟩
    refine ⟨intV n, rfl, .ref p, rfl, p, rs, rfl, .inr f1.sqt, (n : Int), rs.length, rfl, ?_⟩
    rw [e1]
    refine ⟨_, rfl, iteF ?_⟩
    refine ⟨.ref p, rfl, intV b, rfl, p, rs, b, .ref pb, rfl, rfl, f1.sqt, atI_nat k1, intV f, rfl, pb, vb, f, x, rfl, rfl, f2.sqt, atI_nat k2, rfl, ?_⟩
    rw [jx.isN]
    refine ⟨_, rfl, iteF ?_⟩
    refine ⟨tv, rfl, N2, tv, dt, t, rfl, hdt.same s1, hnt, ht, fun H2 s2 => ⟨_, rfl, iteF ?_⟩⟩
    obtain ⟨a, rfl, ha⟩ := turn_of (K := K) ((hdt.same s1).same s2) hnt
    have at_t : atI (trnV t) (f : Int) = some (intV (tf t f)) := atI_nat (by unfold trnV; rw [List.getElem?_map, htf.2]; rfl)
    refine ⟨.ref a, rfl, intV f, rfl, ixE ha at_t ?_⟩
    refine ⟨.ref p, rfl, intV n, rfl, p, rs, n, .ref pn, rfl, rfl, (f1.mono s2.tups).sqt, atI_nat k3, intV (tf t f), rfl, pn, vn, (tf t f : Nat), x2, rfl, rfl, (f4.mono s2.tups).sqt, atI_nat k4, rfl, ?_⟩
    rw [jx2.isN]
    refine ⟨_, rfl, iteF ?_⟩
    refine ⟨intV n, rfl, intV (tf t f), rfl, Nat.le_of_lt (small1000 (by show 2 ≤ 1000; decide)), fun p1 o1 np1 dn1 => ?_⟩
    have sa : Same H2 (upd H2 p1 (.frz o1 (.tup [intV n, intV (tf t f)]))) := same_new np1
    have ft1 : FT (upd H2 p1 (.frz o1 (.tup [intV n, intV (tf t f)]))) p1 [intV n, intV (tf t f)] := FT.new dn1
    generalize upd H2 p1 (.frz o1 (.tup [intV n, intV (tf t f)])) = H3 at sa ft1 ⊢
    refine ⟨intV b, rfl, intV f, rfl, Nat.le_of_lt (small1000 (by show 2 ≤ 1000; decide)), fun p2 o2 np2 dn2 => ?_⟩
    have sb : Same H3 (upd H3 p2 (.frz o2 (.tup [intV b, intV f]))) := same_new np2
    have ft2 : FT (upd H3 p2 (.frz o2 (.tup [intV b, intV f]))) p2 [intV b, intV f] := FT.new dn2
    generalize upd H3 p2 (.frz o2 (.tup [intV b, intV f])) = H4 at sb ft2 ⊢
    refine ⟨.tuple [intD n, intD (tf t f)], .tuple [intD b, intD f], .tup (ft1.mono sb.tups).sqt (.cons (.int _) (.cons (.int _) .nil)), .tup ft2.sqt (.cons (.int _) (.cons (.int _) .nil)), tints_shaped [n, tf t f], tints_shaped [b, f], ?_⟩
    rw [pair_eqv, decide_eq_false hne]
    refine ⟨_, rfl, iteF ?_⟩
    have ha4 := seq_same ha (sa.trans sb)
    -- the two sides
    refine ⟨.ref p, rfl, intV b, rfl, intV f, rfl, intV n, rfl, .ref a, rfl, ?_⟩
    dsimp only [tNil, List.nil_append]
    refine tupE (K := K) ha4 (fun H5 c s5 fc => ?_)
    refine ⟨Nat.le_of_lt (small1000 (by show 2 ≤ 1000; decide)), fun p3 o3 np3 d3 => ?_⟩
    have s6 : Same H5 (upd H5 p3 (.frz o3 (.tup [intV n, .ref c]))) := same_new np3
    have f6 : FT (upd H5 p3 (.frz o3 (.tup [intV n, .ref c]))) p3 [intV n, .ref c] := FT.new d3
    generalize upd H5 p3 (.frz o3 (.tup [intV n, .ref c])) = H6 at s6 f6 ⊢
    refine ⟨Nat.le_of_lt (small1000 (by show 3 ≤ 1000; decide)), fun p4 o4 np4 d4 => ?_⟩
    have s7 : Same H6 (upd H6 p4 (.frz o4 (.tup [intV b, intV f, .ref p3]))) := same_new np4
    have c7 : CAt (upd H6 p4 (.frz o4 (.tup [intV b, intV f, .ref p3]))) (.ref p4) (b, f, some (n, t)) := ⟨p4, _, rfl, FT.new d4, p3, c, rfl, f6.mono s7.tups, fc.mono (s6.trans s7).tups⟩
    generalize upd H6 p4 (.frz o4 (.tup [intV b, intV f, .ref p3])) = H7 at s7 c7 ⊢
    have ha7 := seq_same ha4 ((s5.trans s6).trans s7)
    refine ⟨intV n, rfl, intV (tf t f), rfl, intV b, rfl, .ref a, rfl, ?_⟩
    dsimp only [tNil, List.append_nil]
    refine backE ha7 ht (fun H8 c2 s8 n8 T8 => ?_)
    refine ⟨Nat.le_of_lt (small1000 (by show 2 ≤ 1000; decide)), fun p5 o5 np5 d5 => ?_⟩
    obtain ⟨c2', ec, fc2⟩ := T8
    cases ec
    have s9 : Same H8 (upd H8 p5 (.frz o5 (.tup [intV b, .ref c2]))) := same_new np5
    have f9 : FT (upd H8 p5 (.frz o5 (.tup [intV b, .ref c2]))) p5 [intV b, .ref c2] := FT.new d5
    generalize upd H8 p5 (.frz o5 (.tup [intV b, .ref c2])) = H9 at s9 f9 ⊢
    refine ⟨Nat.le_of_lt (small1000 (by show 3 ≤ 1000; decide)), fun p6 o6 np6 d6 => ?_⟩
    have s10 : Same H9 (upd H9 p6 (.frz o6 (.tup [intV n, intV (tf t f), .ref p5]))) := same_new np6
    have c10 : CAt (upd H9 p6 (.frz o6 (.tup [intV n, intV (tf t f), .ref p5]))) (.ref p6) (n, tf t f, some (b, back t)) := ⟨p6, _, rfl, FT.new d6, p5, c2, rfl, f9.mono s10.tups, fc2.mono (s9.trans s10).tups⟩
    generalize upd H9 p6 (.frz o6 (.tup [intV n, intV (tf t f), .ref p5])) = H10 at s10 c10 ⊢
    refine ⟨Nat.le_of_lt (small1000 (by show 2 ≤ 1000; decide)), fun l nl => ?_⟩
    have s11 : Same H10 (upd H10 l (.lst [.ref p4, .ref p6])) := same_new nl
    have h11 : (upd H10 l (.lst [.ref p4, .ref p6])) l = some (.lst [.ref p4, .ref p6]) := upd_same
    generalize upd H10 l (.lst [.ref p4, .ref p6]) = H11 at s11 h11 ⊢
    have s711 := ((s8.trans s9).trans s10).trans s11
    have s111 := ((((((s2.trans sa).trans sb).trans s5).trans s6).trans s7).trans s711)
    refine ⟨.ref p, l, _, S, [(b, f, some (n, t)), (n, tf t f, some (b, back t))], rfl, st1.mono s111.tups, h11, .cons (c7.mono s711.tups) (.cons (c10.mono s11.tups) .nil), hG.l4, by omega, fun c hc => ?_, fun H' v' s' st' => q H' v' ((s1.trans s111).trans s') st'⟩
    rcases List.mem_cons.mp hc with rfl | hc
    · exact lb
    rw [List.mem_singleton.mp hc]
    exact ln
end
end Bk

namespace Bk
open PySem PySem.Spec PyProof.Rows L2 RZ
local macro_rules | `(tactic| walk_at "g") => `(tactic| (repeat first | refine ⟨_, rfl, ?_⟩ | refine ⟨cpow, ?_⟩ | refine ⟨wideM, ?_⟩ | refine ⟨_, _, rfl, rfl, ?_⟩ | refine ⟨rfl, ?_⟩))
section
variable {P : Program} {w : World} {K : PySem.W.Frag} {mg : Str → Option Value} {base : Heap}
/-! ### parted -/
abbrev sparted : Stmt := topS 34
abbrev Nparted : List Str := ["space", "block", "face", "whole", "other", "turn"]
theorem scparted : FnScope Nparted ["space", "block", "face"] (defScope sparted) := ⟨rfl, rfl, rfl, by decide +kernel, rfl, by decide +kernel, by decide +kernel⟩
def spParted : Sp := fun vs H Q _ => ∃ (N : Addr → Prop) (v : V) (d : PyData) (S : Spc) (b f n : Nat) (t : Trn), vs = [v, intV b, intV f] ∧ Dq N H v d ∧ norm d = nS S ∧ Good S ∧ S.length ≤ 60 ∧ getJ S b f = some (some (n, t)) ∧ ∀ H' v', Same H H' → ST H' v' (partS S b f n t) → Q v' H'
theorem okparted {f fX fF fP : Addr} {fd fdX fdF fdP : FuncData} (F : Fun K "parted" "parted" sparted f fd)
    (Fspace_of : Fun K "space_of" "space_of" sspace_of fX fdX) (gspace_of : mg "space_of" = some (.ref fX)) (bspace_of : Binds K fdX ["blocks"] []) (Gspace_of : FnOk P w K mg base CX0 6 fX fdX ["blocks"] spSpace)
    (F_is_face : Fun K "_is_face" "_is_face" s_is_face fF fdF) (g_is_face : mg "_is_face" = some (.ref fF)) (b_is_face : Binds K fdF ["space", "block", "face"] []) (G_is_face : FnOk P w K mg base CX0 3 fF fdF ["space", "block", "face"] spIsFace)
    (F_put : Fun K "_put" "_put" s_put fP fdP) (g_put : mg "_put" = some (.ref fP)) (b_put : Binds K fdP ["space", "changes"] []) (G_put : FnOk P w K mg base CX0 1 fP fdP ["space", "changes"] spPut) : FnOk P w K mg base CX0 7 f fd ["space", "block", "face"] spParted := by
  refine F.ok scparted (fun vs H Q E h => ?_) (fun cdv A outer s H vs Q E hr h => ?_)
  · obtain ⟨N, v, d, S, b, f, n, t, rfl, _⟩ := h
    rfl
  · obtain ⟨N, v, d, S, b, f, n, t, rfl, hd, hn, hG, hz, g1, q⟩ := h
    have nd := scparted.nd
    refine ⟨_, (pss_cons (ps_set (i := 3) nd rfl (.inl rfl) (pe_call Gspace_of (hr.mono (by first | decide | omega)) (by rfl) gspace_of Fspace_of.kp bspace_of .nil pass0 (pa_cons (pv 0) pa_nil)))
      (pss_cons (ps_if (pt_not (pt_val (pe_call G_is_face (hr.mono (by first | decide | omega)) (by rfl) g_is_face F_is_face.kp b_is_face .nil pass0 (pa_cons (pv 3) (pa_cons (pv 1) (pa_cons (pv 2) pa_nil)))))) (pss_one ps_never) pss_nil)
      (pss_cons (ps_if (pt_cmpR op_isN (pe_ix (kIxT K rfl) (pe_ix (kIxT K rfl) (pv 3) (pv 1) (fun _ _ => rfl)) (pv 2) (fun _ _ => rfl)) pe_non (nomark _)) (pss_one ps_never) pss_nil)
      (pss_cons (ps_asg (pe_ix (kIxT K rfl) (pe_ix (kIxT K rfl) (pv 3) (pv 1) (fun _ _ => rfl)) (pv 2) (fun _ _ => rfl)) (kPgT K rfl (pg_tup (n := 2) rfl (pgs_cons (pg_name (i := 4) nd rfl (.inl rfl)) (pgs_cons (pg_name (i := 5) nd rfl (.inl rfl)) pgs_nil)))))
      (pss_one (ps_ret (pe_call G_put (hr.mono (by first | decide | omega)) (by rfl) g_put F_put.kp b_put .nil pass0 (pa_cons (pv 3) (pa_cons (pe_lst (pa_cons (pe_tupF (pa_cons (pv 1) (pa_cons (pv 2) (pa_cons pe_non pa_nil)))) (pa_cons (pe_tupF (pa_cons (pv 4) (pa_cons (pe_ix (kIxT K rfl) (pv 5) (pv 2) (fun _ _ => rfl)) (pa_cons pe_non pa_nil)))) pa_nil))) pa_nil))))))))), ?_⟩
    have lb := hG.l4.of g1
    obtain ⟨htm, hne, g2⟩ := hG.both _ _ _ _ g1
    have ln := hG.l4.of g2
    have htf := tf_lt t htm f lb.2
    refine ⟨v, rfl, N, v, d, S, rfl, hd, hn, hG, by omega, by omega, fun H1 u s1 st1 => ?_⟩
    obtain ⟨p, rs, pb, vb, x, rfl, f1, k1, f2, k2, jx⟩ := st1.face g1
    refine ⟨.ref p, rfl, intV b, rfl, intV f, rfl, .ref p, S, b, f, rfl, st1, lb.1, lb.2, _, rfl, iteF ?_⟩
    refine ⟨.ref p, rfl, intV b, rfl, p, rs, b, .ref pb, rfl, rfl, f1.sqt, atI_nat k1, intV f, rfl, pb, vb, f, x, rfl, rfl, f2.sqt, atI_nat k2, rfl, ?_⟩
    rw [jx.isN]
    refine ⟨_, rfl, iteF ?_⟩
    obtain ⟨pj, pq, rfl, f3, f4⟩ := jx
    refine ⟨.ref p, rfl, intV b, rfl, p, rs, b, .ref pb, rfl, rfl, f1.sqt, atI_nat k1, intV f, rfl, pb, vb, f, .ref pj, rfl, rfl, f2.sqt, atI_nat k2, ?_⟩
    refine ⟨pj, _, rfl, f3.sqt, rfl, _, _, rfl, _, _, rfl, rfl, ?_⟩
    refine ⟨.ref p, rfl, intV b, rfl, intV f, rfl, Nat.le_of_lt (small1000 (by show 3 ≤ 1000; decide)), fun p4 o4 np4 d4 => ?_⟩
    have s7 : Same H1 (upd H1 p4 (.frz o4 (.tup [intV b, intV f, .non]))) := same_new np4
    have c7 : CAt (upd H1 p4 (.frz o4 (.tup [intV b, intV f, .non]))) (.ref p4) (b, f, none) := ⟨p4, _, rfl, FT.new d4, rfl⟩
    generalize upd H1 p4 (.frz o4 (.tup [intV b, intV f, .non])) = H7 at s7 c7 ⊢
    refine ⟨intV n, rfl, .ref pq, rfl, intV f, rfl, pq, trnV t, f, intV (tf t f), rfl, rfl, (f4.mono s7.tups).sqt, atI_nat (by unfold trnV; rw [List.getElem?_map, htf.2]; rfl), Nat.le_of_lt (small1000 (by show 3 ≤ 1000; decide)), fun p6 o6 np6 d6 => ?_⟩
    have s10 : Same H7 (upd H7 p6 (.frz o6 (.tup [intV n, intV (tf t f), .non]))) := same_new np6
    have c10 : CAt (upd H7 p6 (.frz o6 (.tup [intV n, intV (tf t f), .non]))) (.ref p6) (n, tf t f, none) := ⟨p6, _, rfl, FT.new d6, rfl⟩
    generalize upd H7 p6 (.frz o6 (.tup [intV n, intV (tf t f), .non])) = H10 at s10 c10 ⊢
    refine ⟨Nat.le_of_lt (small1000 (by show 2 ≤ 1000; decide)), fun l nl => ?_⟩
    have s11 : Same H10 (upd H10 l (.lst [.ref p4, .ref p6])) := same_new nl
    have h11 : (upd H10 l (.lst [.ref p4, .ref p6])) l = some (.lst [.ref p4, .ref p6]) := upd_same
    generalize upd H10 l (.lst [.ref p4, .ref p6]) = H11 at s11 h11 ⊢
    have s111 := (s7.trans s10).trans s11
    refine ⟨.ref p, l, _, S, [(b, f, none), (n, tf t f, none)], rfl, st1.mono s111.tups, h11, .cons (c7.mono (s10.trans s11).tups) (.cons (c10.mono s11.tups) .nil), hG.l4, by omega, fun c hc => ?_, fun H' v' s' st' => q H' v' ((s1.trans s111).trans s') st'⟩
    rcases List.mem_cons.mp hc with rfl | hc
    · exact lb
    rw [List.mem_singleton.mp hc]
    exact ln
end
end Bk

namespace Bk
open PySem PySem.Spec PyProof.Rows L2 RZ
local macro_rules | `(tactic| walk_at "g") => `(tactic| (repeat first | refine ⟨_, rfl, ?_⟩ | refine ⟨cpow, ?_⟩ | refine ⟨_, _, rfl, rfl, ?_⟩ | refine ⟨rfl, ?_⟩))
/-! ### the reel of two numbers -/
def Rl (R : Addr) (H : Hp) : Prop := ∃ g st : Int, H R = some (.lst [.int g, .int st]) ∧ 0 ≤ g ∧ 0 ≤ st ∧ st < 2147483647
theorem Rl.same {R : Addr} {H H' : Hp} (h : Rl R H) (s : Same H H') : Rl R H' := by
  obtain ⟨g, st, e, a⟩ := h
  exact ⟨g, st, s _ _ e, a⟩
theorem Rl.ne {R p : Addr} {H : Hp} {o : HO} (h : Rl R H) (hp : H p = some o) (n : ∀ g st : Int, o ≠ .lst [.int g, .int st]) : p ≠ R := fun z => by
  obtain ⟨g, st, e, _⟩ := h
  rw [z, e] at hp
  exact n g st (Option.some.inj hp).symm
theorem Rl.tups {R : Addr} {H H' : Hp} (h : Rl R H) (k : Keep R H H') : Tups H H' := fun b o xs e => k b _ e (h.ne e fun _ _ z => by cases z)
theorem perm_erase {l : List Nat} {r : Nat} (h : r < l.length) : ([l[r]] ++ l.eraseIdx r).Perm l := by
  induction l generalizing r with
  | nil => cases h
  | cons x l ih =>
    cases r with
    | zero => exact .refl _
    | succ r =>
      have h' : r < l.length := by
        rw [List.length_cons] at h
        omega
      show (l[r] :: x :: l.eraseIdx r).Perm (x :: l)
      exact (List.Perm.swap x l[r] _).trans ((ih h').cons x)
theorem map_eraseIdx {α β : Type} (f : α → β) : ∀ (l : List α) (r : Nat), (l.map f).eraseIdx r = (l.eraseIdx r).map f
  | [], _ => rfl
  | _ :: _, 0 => rfl
  | x :: l, r + 1 => congrArg (f x :: ·) (map_eraseIdx f l r)
theorem turnsB4 : ((List.range 4).all fun a => (List.range 4).all fun b => (List.range 4).all fun c => (List.range 4).all fun d => !decide ([a, b, c, d].Nodup) || decide ([a, b, c, d] ∈ allTurns)) = true := by decide +kernel
theorem turn_of_perm4 {t : List Nat} (h : t.Perm (List.range 4)) : t ∈ allTurns := by
  have l : t.length = 4 := h.length_eq
  have nd : t.Nodup := h.symm.nodup List.nodup_range
  have lt : ∀ x ∈ t, x ∈ List.range 4 := fun x hx => h.mem_iff.mp hx
  match t, l with
  | [a, b, c, d], _ =>
    have h1 := List.all_eq_true.mp turnsB4 a (lt a (by simp))
    have h2 := List.all_eq_true.mp h1 b (lt b (by simp))
    have h3 := List.all_eq_true.mp h2 c (lt c (by simp))
    have h4 := List.all_eq_true.mp h3 d (lt d (by simp))
    rw [decide_eq_true nd] at h4
    exact of_decide_eq_true (by simpa using h4)
section
variable {P : Program} {w : World} {K : PySem.W.Frag} {mg : Str → Option Value} {base : Heap}
abbrev s_law_reel : Stmt := topS 170
abbrev N_law_reel : List Str := ["cell", "k"]
theorem sc_law_reel : FnScope N_law_reel ["cell", "k"] (defScope s_law_reel) := ⟨rfl, rfl, rfl, by decide +kernel, rfl, by decide +kernel, by decide +kernel⟩
def spReelD : Sp := fun vs H Q _ => ∃ (c : Int) (k : Nat), vs = [.int c, intV k] ∧ k ≤ 1000 ∧ ∀ H' R, Same H H' → H R = none → Rl R H' → Q (.ref R) H'
theorem ok_law_reel {f : Addr} {fd : FuncData} (F : Fun K "_law_reel" "_law_reel" s_law_reel f fd) (m_abs : mg "abs" = none) : FnOk P w K mg base CX0 1 f fd ["cell", "k"] spReelD := by
  refine F.ok sc_law_reel (fun vs H Q E h => ?_) (fun cdv A outer s H vs Q E hr h => ?_)
  · obtain ⟨c, k, rfl, _⟩ := h
    rfl
  · obtain ⟨c, k, rfl, hk, q⟩ := h
    have nd := sc_law_reel.nd
    refine ⟨_, (pss_one (ps_ret (pe_lst (pa_cons (pe_callB call_abs (by rfl) m_abs (by decide +kernel) (pa_cons (pv 0) pa_nil)) (pa_cons (pe_op op_modN (pe_op op_mul (pe_op op_add (pe_op op_modN (pe_callB call_abs (by rfl) m_abs (by decide +kernel) (pa_cons (pv 0) pa_nil)) pe_int) pe_int) (pe_op op_add (pe_op op_mul pe_int (pv 1)) pe_int)) pe_int) pa_nil))))), ?_⟩
    refine ⟨.int c, rfl, c, rfl, .int c, rfl, c, rfl, _, _, rfl, rfl, (show (2147483629 : Int) ≠ 0 by decide), _, _, rfl, rfl, ?_⟩
    have fm := fmod_pos (a := (if c < 0 then -c else c)) (b := 2147483629) (by decide)
    generalize (if c < 0 then -c else c).fmod 2147483629 = z at fm ⊢
    refine ⟨intV k, rfl, _, _, rfl, rfl, .inl ⟨by decide, by decide⟩, _, _, rfl, rfl, _, _, rfl, rfl, .inl ⟨by omega, by omega⟩, _, _, rfl, rfl, (show (2147483647 : Int) ≠ 0 by decide), Nat.le_of_lt (small1000 (by show 2 ≤ 1000; decide)), fun l nl => ?_⟩
    have fm2 := fmod_pos (a := (z + 1) * (2 * (k : Int) + 16807)) (b := 2147483647) (by decide)
    exact q _ _ (same_new nl) nl ⟨_, _, upd_same, by split <;> omega, fm2.1, fm2.2⟩
abbrev s_law_draw : Stmt := topS 171
abbrev N_law_draw : List Str := ["reel", "many", "found", "turned"]
theorem sc_law_draw : FnScope N_law_draw ["reel", "many"] (defScope s_law_draw) := ⟨rfl, rfl, rfl, by decide +kernel, rfl, by decide +kernel, by decide +kernel⟩
def spDrawD : Sp := fun vs H Q _ => ∃ (R : Addr) (m : Nat), vs = [.ref R, intV m] ∧ 0 < m ∧ m ≤ 1000 ∧ Rl R H ∧ ∀ H' (r : Nat), Keep R H H' → Rl R H' → r < m → Q (intV r) H'
theorem ok_law_draw {f : Addr} {fd : FuncData} (F : Fun K "_law_draw" "_law_draw" s_law_draw f fd) : FnOk P w K mg base CX0 1 f fd ["reel", "many"] spDrawD := by
  refine F.ok sc_law_draw (fun vs H Q E h => ?_) (fun cdv A outer s H vs Q E hr h => ?_)
  · obtain ⟨R, m, rfl, _⟩ := h
    rfl
  · obtain ⟨R, m, rfl, hm0, hm1, ⟨g, st, r, g0, s0, s1⟩, q⟩ := h
    have nd := sc_law_draw.nd
    refine ⟨_, (pss_cons (ps_if (pt_cmpR op_ge (pe_ix (kIxL K rfl) (pv 0) pe_int (fun _ _ => rfl)) (pe_op op_pow pe_int pe_int) (nomark _)) (pss_cons (ps_set (i := 2) nd rfl (.inl rfl) (pe_op op_modN (pe_ix (kIxL K rfl) (pv 0) pe_int (fun _ _ => rfl)) (pv 1)))
      (pss_cons (ps_asg (pe_op op_fdivN (pe_ix (kIxL K rfl) (pv 0) pe_int (fun _ _ => rfl)) (pv 1)) (pg_sub (pv 0) pe_int set_list))
      (pss_one (ps_ret (pv 2))))) pss_nil)
      (pss_cons (ps_asg (pe_op op_modN (pe_op op_mul (pe_op op_add (pe_ix (kIxL K rfl) (pv 0) pe_int (fun _ _ => rfl)) pe_int) pe_int) pe_int) (pg_sub (pv 0) pe_int set_list))
      (pss_cons (ps_set (i := 3) nd rfl (.inl rfl) (pe_op op_modN (pe_op op_mul (pe_ix (kIxL K rfl) (pv 0) pe_int (fun _ _ => rfl)) (pe_ix (kIxL K rfl) (pv 0) pe_int (fun _ _ => rfl))) pe_int))
      (pss_one (ps_ret (pe_op op_modN (pe_op op_fdivN (pe_op op_modN (pe_op op_mul (pv 3) pe_int) pe_int) pe_int) (pv 1))))))), ?_⟩
    walk_at "g"
    refine ⟨R, _, 0, .int g, rfl, rfl, .inl (.inl r), rfl, ?_⟩
    walk_at "g"
    refine ite2 (fun e => ?_) (fun e => ?_)
    · walk_at "g"
      refine ⟨R, _, 0, .int g, rfl, rfl, .inl (.inl r), rfl, ?_⟩
      walk_at "g"
      refine ⟨by omega, ?_⟩
      walk_at "g"
      refine ⟨R, _, 0, .int g, rfl, rfl, .inl (.inl r), rfl, ?_⟩
      walk_at "g"
      refine ⟨⟨by omega, by omega⟩, ?_⟩
      walk_at "g"
      refine ⟨R, _, 0, 0, rfl, rfl, r, rfl, ?_⟩
      walk_at "g"
      have fm := fmod_pos (a := g) (b := (m : Int)) (by omega)
      have e2 : (V.int (g.fmod m)) = intV (g.fmod m).toNat := congrArg V.int (by omega)
      have z := q _ (g.fmod m).toNat keep_set ⟨g.fdiv (m : Int), st, upd_same, Int.fdiv_nonneg g0 (by omega), s0, s1⟩ (by omega)
      rw [← e2] at z
      exact z
    · walk_at "g"
      refine ⟨R, _, 1, .int st, rfl, rfl, .inl (.inl r), rfl, ?_⟩
      walk_at "g"
      refine ⟨.inl ⟨by omega, by omega⟩, ?_⟩
      walk_at "g"
      refine ⟨(show (2147483647 : Int) ≠ 0 by decide), ?_⟩
      walk_at "g"
      refine ⟨R, _, 1, 1, rfl, rfl, r, rfl, ?_⟩
      have fm := fmod_pos (a := (st + 1) * 48271) (b := 2147483647) (by decide)
      dsimp only
      generalize ((st + 1) * 48271).fmod 2147483647 = st2 at fm ⊢
      have h2 : (upd H R (.lst [.int g, .int st2])) R = some (.lst [.int g, .int st2]) := upd_same
      have k2 : Keep R H (upd H R (.lst [.int g, .int st2])) := keep_set
      rw [show ([V.int g, V.int st] : List V).set 1 (V.int st2) = [.int g, .int st2] from rfl]
      generalize upd H R (.lst [.int g, .int st2]) = H2 at h2 k2 ⊢
      walk_at "g"
      refine ⟨R, _, 1, .int st2, rfl, rfl, .inl (.inl h2), rfl, .ref R, rfl, R, _, 1, .int st2, rfl, rfl, .inl (.inl h2), rfl, _, _, rfl, rfl, .inl ⟨by omega, by omega⟩, _, _, rfl, rfl, (show (2147483629 : Int) ≠ 0 by decide), ?_⟩
      have fm2 := fmod_pos (a := st2 * st2) (b := 2147483629) (by decide)
      walk_at "g"
      refine ⟨.inl ⟨by omega, by omega⟩, ?_⟩
      walk_at "g"
      refine ⟨(show (2147483587 : Int) ≠ 0 by decide), ?_⟩
      walk_at "g"
      refine ⟨⟨by decide, by decide⟩, ?_⟩
      walk_at "g"
      refine ⟨by omega, ?_⟩
      dsimp only
      generalize ((st2 * st2).fmod 2147483629 * 69621).fmod 2147483587 = y
      have fm3 := fmod_pos (a := y.fdiv 8) (b := (m : Int)) (by omega)
      have e2 : (V.int ((y.fdiv 8).fmod m)) = intV ((y.fdiv 8).fmod m).toNat := congrArg V.int (by omega)
      have z := q H2 ((y.fdiv 8).fmod m).toNat k2 ⟨g, st2, h2, g0, fm⟩ (by omega)
      rw [← e2] at z
      exact z
abbrev s_law_cell : Stmt := topS 172
abbrev N_law_cell : List Str := ["script", "k"]
theorem sc_law_cell : FnScope N_law_cell ["script", "k"] (defScope s_law_cell) := ⟨rfl, rfl, rfl, by decide +kernel, rfl, by decide +kernel, by decide +kernel⟩
def spCell (K : PySem.W.Frag) : Sp := fun vs H Q _ => ∃ (a : Addr) (ns : List Int) (k : Nat), vs = [.ref a, intV k] ∧ SqL K H a (ns.map V.int) ∧ ∀ c, Q (.int c) H
theorem ok_law_cell {f : Addr} {fd : FuncData} (F : Fun K "_law_cell" "_law_cell" s_law_cell f fd) (m_len : mg "len" = none) : FnOk P w K mg base CX0 1 f fd ["script", "k"] (spCell K) := by
  refine F.ok sc_law_cell (fun vs H Q E h => ?_) (fun cdv A outer s H vs Q E hr h => ?_)
  · obtain ⟨a, ns, k, rfl, _⟩ := h
    rfl
  · obtain ⟨a, ns, k, rfl, hS, q⟩ := h
    have nd := sc_law_cell.nd
    refine ⟨_, (pss_cons (ps_if (pt_cmpR op_lt (pv 1) (pe_callB (kLen K rfl) (by rfl) m_len (by decide +kernel) (pa_cons (pv 0) pa_nil)) (nomark _)) (pss_one (ps_ret (pe_ix (kIxL K rfl) (pv 0) (pv 1) (fun _ _ => rfl)))) pss_nil)
      (pss_one (ps_ret pe_int))), ?_⟩
    walk_at "g"
    refine ⟨a, _, rfl, .inl hS, ?_⟩
    walk_at "g"
    refine ite2 (fun e => ?_) (fun e => ?_)
    · have e : (k : Int) < ((ns.map V.int).length : Int) := by simpa using e
      have hk : k < ns.length := by rw [List.length_map] at e; omega
      refine ⟨.ref a, rfl, intV k, rfl, a, _, k, .int ns[k], rfl, rfl, hS, atI_nat (by rw [List.getElem?_map, List.getElem?_eq_getElem hk]; rfl), ?_⟩
      exact q _
    · exact q _
abbrev s_law_way : Stmt := topS 173
abbrev N_law_way : List Str := ["reel", "face", "goal", "left", "found", "corner"]
theorem sc_law_way : FnScope N_law_way ["reel", "face", "goal"] (defScope s_law_way) := ⟨rfl, rfl, rfl, by decide +kernel, rfl, by decide +kernel, by decide +kernel⟩
def spWayD : Sp := fun vs H Q _ => ∃ (R : Addr) (f g : Nat), vs = [.ref R, intV f, intV g] ∧ f < 4 ∧ g < 4 ∧ Rl R H ∧ ∀ H' p t, Keep R H H' → Rl R H' → H p = none → FT H' p (trnV t) → t ∈ allTurns → tf t f = g → Q (.ref p) H'
theorem ok_law_way {f fD : Addr} {fd fdD : FuncData} (F : Fun K "_law_way" "_law_way" s_law_way f fd) (F_law_draw : Fun K "_law_draw" "_law_draw" s_law_draw fD fdD) (g_law_draw : mg "_law_draw" = some (.ref fD)) (b_law_draw : Binds K fdD ["reel", "many"] [])
    (G_law_draw : FnOk P w K mg base CX0 1 fD fdD ["reel", "many"] spDrawD) (m_range : mg "range" = none) (m_len : mg "len" = none) (m_tuple : mg "tuple" = none) : FnOk P w K mg base CX0 2 f fd ["reel", "face", "goal"] spWayD := by
  refine F.ok sc_law_way (fun vs H Q E h => ?_) (fun cdv A outer s H vs Q E hr h => ?_)
  · obtain ⟨R, f, g, rfl, _⟩ := h
    rfl
  · obtain ⟨R, f, g, rfl, hf, hg, hR, q⟩ := h
    have nd := sc_law_way.nd
    refine ⟨_, (pss_cons (ps_setLc (i := 3) (own := [("corner", 5)]) (g := gName 5) rfl nd rfl rfl (sw_true rfl rfl rfl (by decide +kernel)) (pi_range1 (by rfl) m_range (pa_cons pe_int pa_nil)) (blkOk_by (own := [("corner", 5)]) (N := N_law_way) (sc := defScope s_law_way) (by decide +kernel)) (fun _ _ _ _ _ => (pg_name (i := 5) nd rfl (Or.inl rfl))) (fun _ _ _ _ _ => (pts_one (pt_cmpR op_ne (pv 5) (pv 2) (nomark _)))) (fun _ _ _ _ _ => (pv 5)))
      (pss_cons (ps_set (i := 4) nd rfl (.inl rfl) (pe_lst pa_nil))
      (pss_cons (ps_for PassesOwn.never rfl (pi_range1 (by rfl) m_range (pa_cons pe_int pa_nil)) (pg_name (i := 5) nd rfl (.inl rfl)) (pss_one (ps_if (pt_cmpR op_eq (pv 5) (pv 1) (nomark _)) (pss_one (ps_expr (kBM K rfl (pe_bm PySem.F.plainAttrs_list PySem.F.slot_list_append PySem.F.type_list_append mt_append (pv 4) (pa_cons (pv 2) pa_nil))))) (pss_one (ps_expr (kBM K rfl (pe_bm PySem.F.plainAttrs_list PySem.F.slot_list_append PySem.F.type_list_append mt_append (pv 4) (pa_cons (kBM K rfl (pe_bm PySem.F.plainAttrs_list PySem.F.slot_list_pop PySem.F.type_list_pop mt_popAt (pv 3) (pa_cons (pe_call G_law_draw (hr.mono (by first | decide | omega)) (by rfl) g_law_draw F_law_draw.kp b_law_draw .nil pass0 (pa_cons (pv 0) (pa_cons (pe_callB (kLen K rfl) (by rfl) m_len (by decide +kernel) (pa_cons (pv 3) pa_nil)) pa_nil))) pa_nil))) pa_nil))))))))
      (pss_one (ps_ret (pe_callTy (kTupleF K rfl) (by rfl) m_tuple (by decide +kernel) (pa_cons (pv 4) pa_nil))))))), ?_⟩
    obtain ⟨gR, sR, hRR, _⟩ := id hR
    refine ⟨4, rfl, by decide, by decide, fun D nD => ?_⟩
    have nRD : R ≠ D := ne_of_none hRR nD
    refine lc_range (lo := 0) (n := 4) (fun i H1 => H1 D = some (.lst (((List.range i).filter fun c => !(c == g)).map intV)) ∧ Same H H1) ⟨upd_same, same_new nD⟩ ?_ ?_
    · rintro i H1 hi ⟨h1, s1⟩
      rw [Int.zero_add]
      refine ⟨rfl, ?_⟩
      walk_at "g"
      have rs := range_filter_succ (fun c => !(c == g)) i
      rw [show (!decide (V.int (i : Int) = intV g)) = !(i == g) from ne_int i g]
      refine ite2 (fun e => ?_) (fun e => ?_)
      · rw [if_pos e] at rs
        refine ⟨_, rfl, _, h1, small1000 (by
          rw [List.length_map]
          refine Nat.le_trans (List.length_filter_le _ _) ?_
          rw [List.length_range]
          have : i < 4 := hi
          omega), ?_, same_fill s1 nD⟩
        rw [upd_same, rs, List.map_append]
        rfl
      · rw [if_neg e, List.append_nil] at rs
        exact ⟨by rw [rs]; exact h1, s1⟩
    · rintro H1 ⟨h1, s1⟩
      refine ⟨Nat.zero_le _, fun L nL => ?_⟩
      have nDL : D ≠ L := ne_of_none h1 nL
      have nRL : R ≠ L := ne_of_none (s1 _ _ hRR) nL
      have s2 : Same H (upd H1 L (.lst [])) := s1.trans (same_new nL)
      have h2 : (upd H1 L (.lst [])) D = some (.lst ((((List.range 4).filter fun c => !(c == g))).map intV)) := by
        rw [upd_ne nDL]
        exact h1
      have l2 : (upd H1 L (.lst [])) L = some (.lst (([] : List Nat).map intV)) := upd_same
      have nL0 : H L = none := s1.free nL
      generalize upd H1 L (.lst []) = H2 at s2 h2 l2 ⊢
      refine ⟨4, rfl, by decide, by decide, ?_⟩
      have pm0 : ∀ g < 4, (([] : List Nat) ++ ((List.range 4).filter fun c => !(c == g)) ++ [g]).Perm (List.range 4) := by decide +kernel
      refine for_range (lo := 0) (n := 4) (fun i σ H3 => ∃ (y5 : Option V) (u l : List Nat), σ = [some (.ref R), some (intV f), some (intV g), some (.ref D), some (.ref L), y5] ∧ H3 D = some (.lst (l.map intV)) ∧ H3 L = some (.lst (u.map intV)) ∧ (u ++ l ++ (if i ≤ f then [g] else [])).Perm (List.range 4) ∧ u.length = i ∧ (f < i → u[f]? = some g) ∧ Keep R H H3 ∧ Rl R H3)
        ⟨none, [], _, rfl, h2, l2, by rw [if_pos (Nat.zero_le _)]; exact pm0 g hg, rfl, (fun z => absurd z (Nat.not_lt_zero _)), Keep.of s2, hR.same s2⟩ ?_ ?_
      · rintro i σ H3 hi ⟨y5, u, l, rfl, h3, l3, pm, lu, fu, k3, r3⟩
        have hi4 : i < 4 := hi
        rw [Int.zero_add]
        have lpm := pm.length_eq
        rw [List.length_append, List.length_append, List.length_range] at lpm
        walk_at "g"
        by_cases hif : i = f
        · rw [show decide (V.int (i : Int) = intV f) = true from decide_eq_true (by rw [hif]; rfl)]
          rw [if_pos (by omega)] at pm
          refine iteT ⟨.ref L, rfl, .inl ⟨rfl, _, .inl (.inl l3)⟩, intV g, rfl, L, _, _, rfl, rfl, l3, small1000 (by rw [List.length_map]; omega), ?_⟩
          refine ⟨_, u ++ [g], l, rfl, by rw [upd_ne nDL]; exact h3, by rw [upd_same, List.map_append]; rfl, ?_, by rw [List.length_append, lu]; rfl, fun _ => by rw [← hif, ← lu, List.getElem?_append_right (Nat.le_refl _), Nat.sub_self]; rfl, keep_fill k3 nL0, ?_⟩
          · rw [if_neg (by omega), List.append_nil]
            refine List.Perm.trans ?_ pm
            rw [List.append_assoc, List.append_assoc]
            exact (List.perm_append_comm).append_left u
          · obtain ⟨g3, s3, e3, q3⟩ := r3
            exact ⟨g3, s3, by rw [upd_ne nRL]; exact e3, q3⟩
        · rw [show decide (V.int (i : Int) = intV f) = false from decide_eq_false (fun z => hif (by injection z with z; omega))]
          have ll : 0 < l.length := by
            by_cases c : i ≤ f
            · rw [if_pos c] at lpm
              simp only [List.length_cons, List.length_nil] at lpm
              omega
            · rw [if_neg c] at lpm
              simp only [List.length_nil] at lpm
              omega
          refine iteF ?_
          refine ⟨.ref L, rfl, .inl ⟨rfl, _, .inl (.inl l3)⟩, .ref D, rfl, .inl ⟨rfl, _, .inl (.inl h3)⟩, .ref R, rfl, .ref D, rfl, D, _, rfl, .inl (.inl (.inl h3)), R, l.length, by rw [List.length_map]; rfl, ll, by omega, r3, fun H4 r k4 r4 hr => ?_⟩
          have h4 := k4 _ _ h3 nRD.symm
          have l4 := k4 _ _ l3 nRL.symm
          refine ⟨D, _, (r : Int), r, intV l[r], rfl, rfl, h4, by omega, by omega, seqIx_nat (by rw [List.length_map]; exact hr), by rw [List.getElem?_map, List.getElem?_eq_getElem hr]; rfl, ?_⟩
          have l5 : (upd H4 D (.lst ((l.map intV).eraseIdx r))) L = some (.lst (u.map intV)) := by
            rw [upd_ne nDL.symm]
            exact l4
          refine ⟨L, _, _, rfl, rfl, l5, small1000 (by rw [List.length_map]; omega), ?_⟩
          have nD0 : H D = none := nD
          have pe : (u ++ [l[r]] ++ l.eraseIdx r).Perm (u ++ l) := by
            rw [List.append_assoc]
            refine List.Perm.append_left u ?_
            exact perm_erase hr
          refine ⟨_, u ++ [l[r]], l.eraseIdx r, rfl, ?_, ?_, ?_, by rw [List.length_append, lu]; rfl, fun hfi => ?_, keep_fill (keep_fill (k3.trans k4) nD0) nL0, ?_⟩
          · rw [upd_ne nDL, upd_same, map_eraseIdx]
          · rw [upd_same, List.map_append]
            rfl
          · have e1 : (if i + 1 ≤ f then [g] else []) = (if i ≤ f then [g] else ([] : List Nat)) := by
              by_cases c : i ≤ f
              · rw [if_pos c, if_pos (by omega)]
              · rw [if_neg c, if_neg (by omega)]
            rw [e1]
            exact (pe.append_right _).trans pm
          · rw [List.getElem?_append_left (by omega)]
            exact fu (by omega)
          · obtain ⟨g3, s3, e3, q3⟩ := r4
            exact ⟨g3, s3, by rw [upd_ne nRL, upd_ne nRD]; exact e3, q3⟩
      · rintro σ H3 ⟨y5, u, l, rfl, h3, l3, pm, lu, fu, k3, r3⟩
        have lpm := pm.length_eq
        rw [List.length_append, List.length_append, List.length_range] at lpm
        have l0 : l = [] := List.eq_nil_of_length_eq_zero (by omega)
        subst l0
        rw [if_neg (by omega), List.append_nil, List.append_nil] at pm
        refine ⟨.ref L, rfl, L, _, rfl, .inl ⟨.inl (.inl l3), fun p o np dn => ?_⟩⟩
        refine q _ p u (k3.trans (Keep.of (same_new np))) (r3.same (same_new np)) (k3.free np fun z => ?_) (FT.new dn) (turn_of_perm4 pm) ?_
        · obtain ⟨g3, s3, e3, q3⟩ := r3
          rw [z, e3] at np
          cases np
        · unfold tf
          rw [fu hf]
          rfl
end
end Bk

namespace Bk
open PySem PySem.Spec PyProof.Rows L2
local macro_rules | `(tactic| walk_at "g") => `(tactic| (repeat first | refine ⟨_, rfl, ?_⟩ | refine ⟨cpow, ?_⟩ | refine ⟨wideM, ?_⟩ | refine ⟨_, _, rfl, rfl, ?_⟩ | refine ⟨rfl, ?_⟩))
/-! ### texts -/
def figT (t : Trn) : Str := Txt.join (Str.ofString "") (t.map numT)
def wordT : Jn → Str
  | none => Str.ofString "-"
  | some (n, t) => numT n ++ Str.ofString ":" ++ figT t
def lineT (b : Blk) : Str := Txt.join (Str.ofString " ") (b.map wordT)
def textT (S : Spc) : Str := Txt.join (Str.ofString "\n") (S.map lineT)
theorem fig_len : ∀ n < 4, (numT n).length ≤ 1 := by decide +kernel
theorem sum_le {ys : List Str} {c : Nat} (h : ∀ y ∈ ys, y.length ≤ c) : (ys.map (·.length)).sum ≤ ys.length * c := by
  induction ys with
  | nil => simp
  | cons y r ih =>
    have h1 := h y List.mem_cons_self
    have h2 := ih fun z hz => h z (List.mem_cons_of_mem _ hz)
    rw [List.map_cons, List.sum_cons, List.length_cons, Nat.add_mul, Nat.one_mul]
    omega
theorem join_le {a : Str} {ys : List Str} {c : Nat} (h : ∀ y ∈ ys, y.length ≤ c) : (Txt.join a ys).length ≤ ys.length * c + ys.length * a.length := by
  rw [show Txt.join a ys = Str.join a ys from TL.join_eq a ys]
  have h1 := StrLaws.join_length_le a ys
  have h2 := sum_le h
  omega
theorem fig_le {t : Trn} (hl : t.length = 4) (h : ∀ x ∈ t, x < 4) : (figT t).length ≤ 4 := by
  have h1 : (figT t).length ≤ (t.map numT).length * 1 + (t.map numT).length * (Str.ofString "").length := join_le fun y hy => by
    obtain ⟨x, hx, rfl⟩ := List.mem_map.mp hy
    exact fig_len x (h x hx)
  rw [List.length_map, hl] at h1
  exact h1
theorem word_len {j : Jn} (h : Jb j) : (wordT j).length ≤ 7 := by
  cases j with
  | none => decide +kernel
  | some k =>
    obtain ⟨n, t⟩ := k
    obtain ⟨h1, h2, h3⟩ := h n t rfl
    show (numT n ++ Str.ofString ":" ++ figT t).length ≤ 7
    rw [strLen_append, strLen_append]
    have := num_len n h1
    have := fig_le h2 h3
    have e : (Str.ofString ":").length = 1 := by decide +kernel
    omega
theorem line_len {b : Blk} (h4 : b.length = 4) (h : ∀ j ∈ b, Jb j) : (lineT b).length ≤ 32 := by
  have h1 : (lineT b).length ≤ (b.map wordT).length * 7 + (b.map wordT).length * (Str.ofString " ").length := join_le fun y hy => by
    obtain ⟨j, hj, rfl⟩ := List.mem_map.mp hy
    exact word_len (h j hj)
  rw [List.length_map, h4] at h1
  exact h1
section
variable {P : Program} {w : World} {K : PySem.W.Frag} {mg : Str → Option Value} {base : Heap}
/-! ### _word_of -/
abbrev s_word_of : Stmt := topS 136
abbrev N_word_of : List Str := ["joining", "other", "turn", "figures", "corner"]
theorem sc_word_of : FnScope N_word_of ["joining"] (defScope s_word_of) := ⟨rfl, rfl, rfl, by decide +kernel, rfl, by decide +kernel, by decide +kernel⟩
def spWord (K : PySem.W.Frag) : Sp := fun vs H Q _ => ∃ (N : Addr → Prop) (v : V) (d : PyData) (j : Jn), vs = [v] ∧ Dp K H v d ∧ norm d = nJ j ∧ Jb j ∧ ∀ H', Same H H' → Q (.str (wordT j)) H'
theorem ok_word_of {f : Addr} {fd : FuncData} (F : Fun K "_word_of" "_word_of" s_word_of f fd) (m_str : mg "str" = none) : FnOk P w K mg base CX0 1 f fd ["joining"] (spWord K) := by
  refine F.ok sc_word_of (fun vs H Q E h => ?_) (fun cdv A outer s H vs Q E hr h => ?_)
  · obtain ⟨N, v, d, j, rfl, _⟩ := h
    rfl
  · obtain ⟨N, v, d, j, rfl, hd, hn, hb, q⟩ := h
    have nd := sc_word_of.nd
    refine ⟨_, (pss_cons (ps_if (pt_cmpR op_isN (pv 0) pe_non (nomark _)) (pss_one (ps_ret pe_str)) pss_nil)
      (pss_cons (ps_asg (pv 0) (kPgS K rfl (pg_tup (n := 2) rfl (pgs_cons (pg_name (i := 1) nd rfl (.inl rfl)) (pgs_cons (pg_name (i := 2) nd rfl (.inl rfl)) pgs_nil))) (pg_unl (n := 2) rfl (pgs_cons (pg_name (i := 1) nd rfl (.inl rfl)) (pgs_cons (pg_name (i := 2) nd rfl (.inl rfl)) pgs_nil)))))
      (pss_cons (ps_set (i := 3) nd rfl (.inl rfl) (kJoin K rfl (pe_join pe_str (pe_lc (own := [("corner", 4)]) (g := gName 4) (tt := tYes) rfl nd (kPiS K rfl (pv 2)) (blkOk_by (own := [("corner", 4)]) (N := N_word_of) (sc := defScope s_word_of) (by decide +kernel)) (fun _ _ _ _ _ => (pg_name (i := 4) nd rfl (Or.inl rfl))) (fun _ _ _ _ _ => pts_nil) (fun _ _ _ _ _ => (pe_callTy call_str_int (by rfl) m_str (by decide +kernel) (pa_cons (pv 4) pa_nil)))))))
      (pss_one (ps_ret (pe_joined (.cons (pe_fmt (pv 1)) (.cons pe_str (.cons (pe_fmt (pv 3)) .nil))))))))), ?_⟩
    refine ⟨v, rfl, rfl, _, rfl, ?_⟩
    cases j with
    | none =>
      rw [nJ_none] at hn
      have ev := hd.isNon hn
      subst ev
      refine iteT ?_
      exact q H (Same.refl H)
    | some k =>
      obtain ⟨n, t⟩ := k
      obtain ⟨hn64, ht4, htx⟩ := hb n t rfl
      rw [nJ_some] at hn
      obtain ⟨a, xs, ds, rfl, hq, _, hds, en⟩ := hd.seq (K := K) hn
      refine iteF ?_
      obtain ⟨v1, v2, d1, d2, rfl, h1, en1, h2, en2⟩ := hds.pair en
      have e1 := h1.isInt en1
      obtain ⟨a2, xs2, ds2, rfl, hq2, _, hds2, en2⟩ := h2.seq (K := K) en2
      subst e1
      refine ⟨.ref a, rfl, a, _, rfl, hq, rfl, _, _, rfl, _, _, rfl, rfl, ?_⟩
      have l2 : xs2.length = t.length := by rw [hds2.len, ← norms_len, en2, List.length_map]
      refine ⟨⟨_, rfl⟩, .ref a2, rfl, a2, xs2, rfl, hq2, fun J C hJ hC => ?_⟩
      intro D nD
      refine lc_seq (xs := xs2) hJ (fun i H2 => H2 = upd H D (.lst (((t.take i).map numT).map V.str))) rfl ?_ ?_ ?_
      · rintro i H2 rfl
        exact SeqIt.mono K hJ (fun o e => same_new nD _ _ e) hC
      · rintro i x H2 hx rfl
        obtain ⟨di, hdi, hxi⟩ := hds2.get hx
        have hi : i < t.length := by rw [← l2]; exact (List.getElem?_eq_some_iff.mp hx).1
        have hti : t[i]? = some t[i] := List.getElem?_eq_getElem hi
        have edi : norm di = intD t[i] := by
          have z : (norms ds2)[i]? = some (norm di) := by rw [norms_map, List.getElem?_map, hdi]; rfl
          rw [en2, List.getElem?_map, hti] at z
          exact (Option.some.inj z).symm
        have ex := hxi.isInt (i := (t[i] : Int)) edi
        subst ex
        have hx4 := htx _ (List.getElem_mem hi)
        refine ⟨rfl, intV t[i], rfl, (t[i] : Int), rfl, num_log (by omega), _, upd_same, small1000 (by rw [List.length_map, List.length_map, List.length_take]; omega), ?_⟩
        rw [upd_upd, List.take_add_one, hti, List.map_append, List.map_append]
        rfl
      · rintro H2 rfl
        rw [l2, List.take_length]
        have lsum := sum_le (ys := t.map numT) (c := 1) fun y hy => by
          obtain ⟨x, hx, rfl⟩ := List.mem_map.mp hy
          exact fig_len x (htx x hx)
        rw [List.length_map, ht4] at lsum
        refine ⟨_, D, t.map numT, rfl, rfl, .inl (.inl (.inl upd_same)), ?_, ?_⟩
        · rw [List.length_map, ht4]
          exact Nat.le_trans (Nat.add_le_add lsum (Nat.le_refl _)) (by decide +kernel)
        have lf := fig_le ht4 htx
        have ln := num_len n hn64
        have e1 : (Str.ofString ":").length = 1 := by decide +kernel
        have e0 : (Str.empty ++ numT n : Str) = numT n := by
          show (⟨#[] ++ (numT n).cps⟩ : Str) = numT n
          rw [Array.empty_append]
        refine ⟨intV n, rfl, .inr ⟨n, rfl, num_log hn64, _, rfl, ?_, _, rfl, ?_, .str (figT t), rfl, .inl ⟨_, rfl, Nat.le_of_lt (small1000 (by omega)), _, rfl, ?_, ?_⟩⟩⟩
        · show (Str.empty ++ numT n).length ≤ sizeLine
          rw [e0]
          exact Nat.le_of_lt (small1000 (by omega))
        · show (Str.empty ++ numT n ++ Str.ofString ":").length ≤ sizeLine
          rw [e0, strLen_append]
          exact Nat.le_of_lt (small1000 (by omega))
        · show (Str.empty ++ numT n ++ Str.ofString ":" ++ figT t).length ≤ sizeLine
          rw [e0, strLen_append, strLen_append]
          exact Nat.le_of_lt (small1000 (by omega))
        · show Q (.str (Str.empty ++ numT n ++ Str.ofString ":" ++ figT t)) _
          rw [e0]
          exact q _ (same_new nD)
/-! ### _line_of -/
abbrev s_line_of : Stmt := topS 135
abbrev N_line_of : List Str := ["block", "joining"]
theorem sc_line_of : FnScope N_line_of ["block"] (defScope s_line_of) := ⟨rfl, rfl, rfl, by decide +kernel, rfl, by decide +kernel, by decide +kernel⟩
def spLine (K : PySem.W.Frag) : Sp := fun vs H Q _ => ∃ (N : Addr → Prop) (v : V) (d : PyData) (b : Blk), vs = [v] ∧ Dp K H v d ∧ norm d = nB b ∧ b.length = 4 ∧ (∀ j ∈ b, Jb j) ∧ ∀ H', Same H H' → Q (.str (lineT b)) H'
theorem ok_line_of {f fW : Addr} {fd fdW : FuncData} (F : Fun K "_line_of" "_line_of" s_line_of f fd) (F_word_of : Fun K "_word_of" "_word_of" s_word_of fW fdW) (g_word_of : mg "word_of_texts" = some (.ref fW)) (b_word_of : Binds K fdW ["joining"] [])
    (m_str : mg "str" = none) : FnOk P w K mg base CX0 2 f fd ["block"] (spLine K) := by
  have G_word_of : FnOk P w K mg base CX0 1 fW fdW ["joining"] (spWord K) := ok_word_of F_word_of m_str
  refine F.ok sc_line_of (fun vs H Q E h => ?_) (fun cdv A outer s H vs Q E hr h => ?_)
  · obtain ⟨N, v, d, b, rfl, _⟩ := h
    rfl
  · obtain ⟨N, v, d, b, rfl, hd, hn, h4, hb, q⟩ := h
    have nd := sc_line_of.nd
    refine ⟨_, (pss_one (ps_ret (kJoin K rfl (pe_join pe_str (pe_lc (own := [("joining", 1)]) (g := gName 1) (tt := tYes) rfl nd (kPiS K rfl (pv 0)) (blkOk_by (own := [("joining", 1)]) (N := N_line_of) (sc := defScope s_line_of) (by decide +kernel)) (fun _ _ _ _ _ => (pg_name (i := 1) nd rfl (Or.inl rfl))) (fun _ _ _ _ _ => pts_nil) (fun _ _ _ _ _ => (pe_call G_word_of (hr.mono (by first | decide | omega)) (by rfl) g_word_of F_word_of.kp b_word_of .nil pass0 (pa_cons (pv 1) pa_nil)))))))), ?_⟩
    obtain ⟨a, xs, ds, rfl, hq, _, hds, en⟩ := hd.seq (K := K) hn
    have lx : xs.length = b.length := by rw [hds.len, norm_len en]
    refine ⟨⟨_, rfl⟩, .ref a, rfl, a, xs, rfl, hq, fun J C hJ hC => ?_⟩
    intro D nD
    refine lc_seq (xs := xs) hJ (fun i H2 => H2 D = some (.lst (((b.take i).map wordT).map V.str)) ∧ Same H H2) ⟨upd_same, same_new nD⟩ ?_ ?_ ?_
    · rintro i H2 ⟨h2, s2⟩
      exact SeqIt.mono K hJ (fun o e => s2 _ _ e) hC
    · rintro i x H2 hx ⟨h2, s2⟩
      obtain ⟨di, hdi, hxi⟩ := hds.get hx
      obtain ⟨j, hj, ej⟩ := norm_at en hdi
      have hi : i < b.length := (List.getElem?_eq_some_iff.mp hj).1
      refine ⟨rfl, x, rfl, N, x, di, j, rfl, hxi.same s2, ej, hb j (List.mem_of_getElem? hj), fun H3 s3 => ?_⟩
      refine ⟨_, s3 _ _ h2, small1000 (by rw [List.length_map, List.length_map, List.length_take]; omega), ?_, same_fill (s2.trans s3) nD⟩
      rw [upd_same, List.take_add_one, hj, List.map_append, List.map_append]
      rfl
    · rintro H2 ⟨h2, s2⟩
      rw [lx, List.take_length] at h2
      have ls := sum_le (ys := b.map wordT) (c := 7) fun y hy => by
        obtain ⟨j, hj, rfl⟩ := List.mem_map.mp hy
        exact word_len (hb j hj)
      rw [List.length_map, h4] at ls
      refine ⟨_, D, b.map wordT, rfl, rfl, .inl (.inl (.inl h2)), ?_, q H2 s2⟩
      rw [List.length_map, h4]
      exact Nat.le_trans (Nat.add_le_add ls (Nat.le_refl _)) (by decide +kernel)
/-! ### space_text -/
abbrev sspace_text : Stmt := topS 134
abbrev Nspace_text : List Str := ["space", "block"]
theorem scspace_text : FnScope Nspace_text ["space"] (defScope sspace_text) := ⟨rfl, rfl, rfl, by decide +kernel, rfl, by decide +kernel, by decide +kernel⟩
def spText (K : PySem.W.Frag) : Sp := fun vs H Q _ => ∃ (N : Addr → Prop) (v : V) (d : PyData) (S : Spc), vs = [v] ∧ Dp K H v d ∧ norm d = nS S ∧ Sb S ∧ ∀ H', Same H H' → Q (.str (textT S)) H'
theorem ok_space_text {f fL fW : Addr} {fd fdL fdW : FuncData} (F : Fun K "space_text" "space_text" sspace_text f fd) (F_line_of : Fun K "_line_of" "_line_of" s_line_of fL fdL) (g_line_of : mg "_line_of" = some (.ref fL)) (b_line_of : Binds K fdL ["block"] [])
    (F_word_of : Fun K "_word_of" "_word_of" s_word_of fW fdW) (g_word_of : mg "word_of_texts" = some (.ref fW)) (b_word_of : Binds K fdW ["joining"] []) (m_str : mg "str" = none) : FnOk P w K mg base CX0 3 f fd ["space"] (spText K) := by
  have G_line_of : FnOk P w K mg base CX0 2 fL fdL ["block"] (spLine K) := ok_line_of F_line_of F_word_of g_word_of b_word_of m_str
  refine F.ok scspace_text (fun vs H Q E h => ?_) (fun cdv A outer s H vs Q E hr h => ?_)
  · obtain ⟨N, v, d, S, rfl, _⟩ := h
    rfl
  · obtain ⟨N, v, d, S, rfl, hd, hn, hS, q⟩ := h
    have nd := scspace_text.nd
    refine ⟨_, (pss_one (ps_ret (kJoin K rfl (pe_join pe_str (pe_lc (own := [("block", 1)]) (g := gName 1) (tt := tYes) rfl nd (kPiS K rfl (pv 0)) (blkOk_by (own := [("block", 1)]) (N := Nspace_text) (sc := defScope sspace_text) (by decide +kernel)) (fun _ _ _ _ _ => (pg_name (i := 1) nd rfl (Or.inl rfl))) (fun _ _ _ _ _ => pts_nil) (fun _ _ _ _ _ => (pe_call G_line_of (hr.mono (by first | decide | omega)) (by rfl) g_line_of F_line_of.kp b_line_of .nil pass0 (pa_cons (pv 1) pa_nil)))))))), ?_⟩
    obtain ⟨a, xs, ds, rfl, hq, _, hds, en⟩ := hd.seq (K := K) hn
    have lx : xs.length = S.length := by rw [hds.len, norm_len en]
    have hS1 := hS.1
    refine ⟨⟨_, rfl⟩, .ref a, rfl, a, xs, rfl, hq, fun J C hJ hC => ?_⟩
    intro D nD
    refine lc_seq (xs := xs) hJ (fun i H2 => H2 D = some (.lst (((S.take i).map lineT).map V.str)) ∧ Same H H2) ⟨upd_same, same_new nD⟩ ?_ ?_ ?_
    · rintro i H2 ⟨h2, s2⟩
      exact SeqIt.mono K hJ (fun o e => s2 _ _ e) hC
    · rintro i x H2 hx ⟨h2, s2⟩
      obtain ⟨di, hdi, hxi⟩ := hds.get hx
      obtain ⟨b, hb, eb⟩ := norm_at en hdi
      have hi : i < S.length := (List.getElem?_eq_some_iff.mp hb).1
      obtain ⟨hb4, hbj⟩ := hS.2 b (List.mem_of_getElem? hb)
      refine ⟨rfl, x, rfl, N, x, di, b, rfl, hxi.same s2, eb, hb4, hbj, fun H3 s3 => ?_⟩
      refine ⟨_, s3 _ _ h2, small1000 (by rw [List.length_map, List.length_map, List.length_take]; omega), ?_, same_fill (s2.trans s3) nD⟩
      rw [upd_same, List.take_add_one, hb, List.map_append, List.map_append]
      rfl
    · rintro H2 ⟨h2, s2⟩
      rw [lx, List.take_length] at h2
      have ls := sum_le (ys := S.map lineT) (c := 32) fun y hy => by
        obtain ⟨b, hb, rfl⟩ := List.mem_map.mp hy
        exact line_len (hS.2 b hb).1 (hS.2 b hb).2
      rw [List.length_map] at ls
      refine ⟨_, D, S.map lineT, rfl, rfl, .inl (.inl (.inl h2)), ?_, q H2 s2⟩
      rw [List.length_map]
      have e1 : (Str.ofString "\n").length = 1 := by decide +kernel
      show _ + S.length * (Str.ofString "\n").length ≤ 16777216
      rw [e1]
      omega
end
end Bk

namespace Bk
open PySem PySem.Spec PyProof.Rows L2 TL
local macro_rules | `(tactic| walk_at "g") => `(tactic| (repeat first | refine ⟨_, rfl, ?_⟩ | refine ⟨cpow, ?_⟩ | refine ⟨wideM, ?_⟩ | refine ⟨_, _, rfl, rfl, ?_⟩ | refine ⟨rfl, ?_⟩))
/-! ### a def whose return leaves a token out -/
def PSsP (X : Cx) (st : List Stmt) (t : TS) : Prop :=
  ∀ (pins : List (Addr × Obj)) (s : Shared) (σ : L2.St) (H : Hp) (D : Ends), Inv X pins σ H s → t D σ H → wpAny (model X.prog X.w) X.A (execs st X.env) (fun fl s' => 1 ≤ s'.toks ∧ SP X pins D fl s') X.xe s
def rJn (K : PySem.W.Frag) : V → List V → Hp → VK → Prop := fun x xs H Q => ∃ a p, ∃ ys : List Str, x = .str a ∧ xs = [.ref p] ∧ (SqL K H p (ys.map V.str) ∨ SqT K H p (ys.map V.str)) ∧ (ys.map (·.length)).sum + ys.length * a.length ≤ 16777216 ∧ Q (.str (Txt.join a ys)) H
section
variable {X : Cx} {e : Expr} {te : TE} {y : Str} {j : Nat} {c0 apos pos p : Pos}
theorem pss_toks (he : PE X e te) (hs : starEach [e] X.env = [(false, eval e X.env)] := by rfl) (hbase : attributeBase (.Constant (.str y) j c0) "join" X.env (eval (.Constant (.str y) j c0) X.env) = eval (.Constant (.str y) j c0) X.env := by rfl) (hline : (apos.endLine == pos.line) = true := by rfl) :
    PSsP X [.Return (some (.Call (.Attribute (.Constant (.str y) j c0) "join" apos) [e] [] pos)) p] (tRet (tM1 (rJn X.K) (tC (.str y)) te)) := by
  intro pins s σ H D I h
  obtain ⟨_, h⟩ := h
  refine wpAny_execs_cons (wpAny_Return_some (PySem.Call_method1 hbase hs hline (Calls.Constant_str ?_)))
  refine ⟨"str", _, PySem.F.plainAttrs_str, PySem.F.slot_str_join, PySem.F.type_str_join, typeIs_str _ _ _, (fun _ e => nomatch e), Calls.callWith_builtin rfl (Calls.evalArgs_plain (Calls.spliced_cons ?_))⟩
  refine wpAny_mono (PySem.wpAny_toks_of (n := 1) (by show 1 ≤ s.toks + 1; omega) (he.run pins { s with toks := s.toks + 1 } σ H _ (I.tok _) h)) (fun u s2 q => ?_) fun _ _ z => z.2
  obtain ⟨hk, z, H2, I2, r2, q2⟩ := q
  refine Calls.spliced_nil ?_
  refine wpAny_mono (PySem.wpAny_toks_of (n := 1) hk (mt_join (X := X) pins s2 σ H2 (.str y) [z] _ [u] _ I2 ⟨_, rfl⟩ (.cons r2 .nil) q2)) (fun v s3 q => ?_) fun _ _ z => z.2
  obtain ⟨hk3, z3, H3, I3, r3, q3⟩ := q
  exact ⟨hk3, z3, σ, H3, I3, r3, q3⟩
end
structure FnP (P : Program) (w : World) (K : PySem.W.Frag) (mg : Str → Option Value) (base : Heap) (k : Nat) (f : Addr) (fd : FuncData) (ps : List Str) (sp : Sp) : Prop where
  len : ∀ vs H Q E, sp vs H Q E → vs.length = ps.length
  run : ∀ (A : Around) (outer : List Env) (s : Shared) (H : Hp) (args : Args) (us : List Value) (vs : List V) (Q : VK) (E : XK), Room k A → Env0 P w K mg base A outer s H → BindsTo s fd args (ps.zip us) → Vals vs us → sp vs H Q E →
    codeAny (model P w) A (.call (.ref f) args) (fun r s' => 1 ≤ s'.toks ∧ CR CX0 outer P w H s Q E r s') s
theorem PSsP.nox {X : Cx} {st : List Stmt} {t : TS} (h : PSsP X.nox st t) : PSsP X st t := fun pins s σ H D I hw =>
  wpAny_mono (h pins s σ H D (I.wish _) hw) (fun _ _ q => ⟨q.1, q.2.unwish⟩) fun _ _ z => False.elim z
theorem fn_ofP {P : Program} {w : World} {K : PySem.W.Frag} {mg : Str → Option Value} {base : Heap} {k : Nat} {f : Addr} {name qual : Str} {params : Arguments} {body : List Stmt} {scope : Scope} {dV kV doc pm cdv ct oc : Value} {an od : Option Addr}
    {osl : Array (Option Value)} {N ps : List Str} {sp : Sp} (lk : K.lookup f = some ⟨oc, od, .func (PySem.W.fnOf name qual params body scope dV kV doc pm an cdv ct), osl⟩) (hcd : PySem.W.codeIn K cdv qual = true) (S : FnScope N ps scope)
    (len : ∀ vs H Q E, sp vs H Q E → vs.length = ps.length)
    (hbody : ∀ (A : Around) (outer : List Env) (s : Shared) (H : Hp) (vs : List V) (Q : VK) (E : XK), Room k (A.deeper (envOfC qual scope s.heap.objs.size f cdv)) → sp vs H Q E →
      ∃ t, PSsP (cxOf CX0 P w K mg base N qual scope f cdv A outer s H E) body t ∧ t { nx := fun _ H' => Q .non H', rt := Q } (start N vs) H) :
    FnP P w K mg base (k + 1) f (PySem.W.fnOf name qual params body scope dV kV doc pm an cdv ct) ps sp := by
  refine ⟨len, fun A outer s H args us vs Q E hr e0 hb r hsp => ?_⟩
  have hl := len _ _ _ _ hsp
  have KX : K.In s.heap := e0.mod.kin.keeps fun b o e => (e0.bs b o e).1
  have lim : s.heap.NoLimit := e0.mod.nolimit.keeps fun b o e => (e0.bs b o e).1
  have hkind : ∀ y ∈ ps.zip us, scope.names.lookup y.1 = some .local ∨ (scope.names.lookup y.1 = some .cell ∧ ((cellsFrom (s.heap.objs.size + 1) scope.names []).lookup y.1).isSome = true) := fun ⟨n, v⟩ hy => by
    rcases S.par n (List.of_mem_zip hy).1 with q | q
    · exact .inl q
    · exact .inr ⟨q, PySem.W.cellsFrom_some _ _ _ (.inl q)⟩
  refine codeAny_call_function hr.depth (KX _ _ lk) rfl S.co S.gen rfl (PySem.W.codeRec_of KX hcd) (hb _ _ _ _ ?_)
  refine wpAny_newFunctionEnv_cells S.kind hkind fun env he s1 x => ?_
  subst he
  refine ⟨lim.keeps x.toInCall.keep, codeAny_func ?_⟩
  obtain ⟨t, ht, hq⟩ := hbody A outer s H vs Q E (hr.deeper _) hsp
  have I : Inv (cxOf CX0 P w K mg base N qual scope f cdv A outer s H E) [] (start N vs) H s1 := inv_start S hr.hd e0 hl r x
  refine wpAny_mono (ht [] s1 (start N vs) H _ I hq) (fun fl s' hs => ?_) fun e s' hs => wpAny_mono hs (fun _ _ z => False.elim z) fun _ _ z => False.elim z
  obtain ⟨hk, hs⟩ := hs
  have fin : ∀ {σ' : L2.St} {H' : Hp} {v : V} {u : Value}, Inv (cxOf CX0 P w K mg base N qual scope f cdv A outer s H E) [] σ' H' s' → RelV v u → Q v H' → CE outer P w H s Q u s' :=
    fun {σ' H' v u} J rv q => ⟨v, H', J.os, J.bare, J.base, J.hok, rv, q⟩
  cases fl with
  | ret u =>
    obtain ⟨v, σ', H', J, rv, q⟩ := hs
    exact ⟨hk, fin J rv q⟩
  | next =>
    obtain ⟨σ', H', J, q⟩ := hs
    exact ⟨hk, fin (v := V.non) (u := Value.none) J rfl q⟩
  | brk =>
    obtain ⟨_, _, _, q⟩ := hs
    exact False.elim q
  | cont =>
    obtain ⟨_, _, _, q⟩ := hs
    exact False.elim q
theorem _root_.L2.Fun.okP {P : Program} {w : World} {K : PySem.W.Frag} {mg : Str → Option Value} {base : Heap} {x qual : Str} {st : Stmt} {f : Addr} {fd : FuncData} {N ps : List Str} {k : Nat} {sp : Sp} (F : Fun K x qual st f fd) (S : FnScope N ps (defScope st)) (len : ∀ vs H Q E, sp vs H Q E → vs.length = ps.length)
    (hbody : ∀ (cdv : Value) (A : Around) (outer : List Env) (s : Shared) (H : Hp) (vs : List V) (Q : VK) (E : XK), Room k (A.deeper (envOfC qual (defScope st) s.heap.objs.size f cdv)) → sp vs H Q E →
      ∃ t, PSsP (cxOf CX0 P w K mg base N qual (defScope st) f cdv A outer s H E).nox (defBody st) t ∧ t { nx := fun _ H' => Q .non H', rt := Q } (start N vs) H) : FnP P w K mg base (k + 1) f fd ps sp := by
  obtain ⟨oc, od, kV, doc, pm, an, cdv, ct, osl, rfl, lk, hcd⟩ := F.ex
  refine fn_ofP lk hcd S len fun A outer s H vs Q E hr hsp => ?_
  obtain ⟨t, h, q⟩ := hbody cdv A outer s H vs Q E hr hsp
  exact ⟨t, h.nox, q⟩
section
variable {X : Cx} {k : Nat} {f : Addr} {fd : FuncData} {ps : List Str} {sp : Sp} {x y z : Str} {E : XK} {e : Expr} {es : List Expr} {t : TA} {p p2 apos pos c0 c1 : Pos} {j0 j1 : Nat}
theorem run_fnP {pins : List (Addr × Obj)} {σ : L2.St} {H : Hp} {s : Shared} {Q : VK} {us : List Value} {vs : List V} (F : FnP X.prog X.w X.K X.mg X.base k f fd ps sp) (hr : Room k X.A) (hb : Binds X.K fd ps [])
    (I : Inv X pins σ H s) (r : Vals vs us) (h : sp vs H Q E) : wpAny (model X.prog X.w) X.A (call (.ref f) us) (fun v s' => 1 ≤ s'.toks ∧ EP X pins σ Q v s') X.xe s := by
  have hl : us.length = ps.length := by rw [← r.length]; exact F.len _ _ _ _ h
  have hb' := hb s us I.kIn (by rw [List.append_nil]; exact hl)
  rw [List.append_nil] at hb'
  refine wpAny_call (codeAny_mono (F.run X.A X.stack s H ⟨us, []⟩ us vs Q E hr I.env0 hb' r h) fun r s' hq => ?_)
  obtain ⟨hk, hq⟩ := hq
  cases r with
  | error e => exact False.elim hq
  | ok fl =>
    cases fl with
    | ret u => exact ⟨hk, I.after hq⟩
    | next => exact False.elim hq
    | brk => exact False.elim hq
    | cont => exact False.elim hq
/-- f(..).replace(y, z) -/
theorem pe_replP (F : FnP X.prog X.w X.K X.mg X.base k f fd ps sp) (hr : Room k X.A) (hg : Gl X x) (hm : X.mg x = some (.ref f)) (hk : PySem.W.keepIn X.K (.ref f) = true) (hb : Binds X.K fd ps [])
    (ha : PA X (e :: es) t) (hdb : (x == ("__debug__" : Str)) = false := by decide) (he : starEach (e :: es) X.env = (false, eval e X.env) :: starEach es X.env := by rfl) (hpl : (backTo p2 (starEach es X.env)).any (·.1) = false := by rfl)
    (hyz : (y == z) = false := by decide)
    (hst : starEach [.Constant (.str y) j0 c0, .Constant (.str z) j1 c1] X.env = [(false, eval (.Constant (.str y) j0 c0) X.env), (false, eval (.Constant (.str z) j1 c1) X.env)] := by rfl)
    (hbase : attributeBase (.Call (.Name x p) (e :: es) [] p2) "replace" X.env (eval (.Call (.Name x p) (e :: es) [] p2) X.env) = eval (.Call (.Name x p) (e :: es) [] p2) X.env := by rfl) (hline : (apos.endLine == pos.line) = true := by rfl) :
    PE X (.Call (.Attribute (.Call (.Name x p) (e :: es) [] p2) "replace" apos) [.Constant (.str y) j0 c0, .Constant (.str z) j1 c1] [] pos) (CwR.tReplC (tCall sp [] E0 t) y z) := by
  refine ⟨fun pins s σ H Q I h => ?_⟩
  refine PySem.Call_method2 hbase hst hline ?_
  refine wpAny_Call_Name_kw (ld_glob I hg hm ?_ hdb)
  refine PySem.W.callWith_K (h₀ := X.base) I.ok.mod.kin hk (thn (ha.run p2 pins s σ H _ I h) fun us s1 ⟨vs, H1, I1, r, q⟩ => ⟨I1.kIn, ?_⟩) he hpl
  have q : sp vs H1 (fun v H1 => ∃ x, v = V.str x ∧ x.length + (x.length + 1) * z.length ≤ 16777216 ∧ Q (V.str (Txt.replace x y z)) H1) E0 := by
    have q' := q
    simp only [List.append_nil] at q'
    exact q'
  show wpAny _ _ (call (.ref f) us) _ _ s1
  refine wpAny_mono (run_fnP F hr hb I1 r q) (fun v s1 q => ?_) fun _ _ z => z
  obtain ⟨hk, v', H1, I1, r1, x, e1, hb, q⟩ := q
  subst e1
  obtain ⟨tx, e2⟩ := r1
  subst e2
  refine ⟨"str", _, PySem.F.plainAttrs_str, PySem.F.slot_str_replace, PySem.F.type_str_replace, typeIs_str _ _ _, (fun _ e => nomatch e), Calls.callWith_builtin rfl (Calls.evalArgs_plain (Calls.spliced_cons ?_))⟩
  refine Calls.Constant_str (Calls.spliced_cons (Calls.Constant_str (Calls.spliced_nil ?_)))
  exact PySem.SC.replace (by show s1.toks ≠ 0; omega) (by show s1.toks + 1 ≠ 0; omega) (by show s1.toks ≠ s1.toks + 1; omega) hyz hb fun t' k => ⟨.str (Txt.replace x y z), H1, I1.tok k, ⟨t', rfl⟩, q⟩
end
section
variable {P : Program} {w : World} {K : PySem.W.Frag} {mg : Str → Option Value} {base : Heap}
theorem okspace_textP {f fL fW : Addr} {fd fdL fdW : FuncData} (F : Fun K "space_text" "space_text" sspace_text f fd) (F_line_of : Fun K "_line_of" "_line_of" s_line_of fL fdL) (g_line_of : mg "_line_of" = some (.ref fL)) (b_line_of : Binds K fdL ["block"] [])
    (F_word_of : Fun K "_word_of" "_word_of" s_word_of fW fdW) (g_word_of : mg "word_of_texts" = some (.ref fW)) (b_word_of : Binds K fdW ["joining"] []) (m_str : mg "str" = none) : FnP P w K mg base 3 f fd ["space"] (spText K) := by
  have G_line_of : FnOk P w K mg base CX0 2 fL fdL ["block"] (spLine K) := ok_line_of F_line_of F_word_of g_word_of b_word_of m_str
  refine F.okP scspace_text (fun vs H Q E h => ?_) (fun cdv A outer s H vs Q E hr h => ?_)
  · obtain ⟨N, v, d, S, rfl, _⟩ := h
    rfl
  · obtain ⟨N, v, d, S, rfl, hd, hn, hS, q⟩ := h
    have nd := scspace_text.nd
    refine ⟨_, pss_toks (pe_lc (own := [("block", 1)]) (g := gName 1) (tt := tYes) rfl nd (kPiS K rfl (pv 0)) (blkOk_by (own := [("block", 1)]) (N := Nspace_text) (sc := defScope sspace_text) (by decide +kernel)) (fun _ _ _ _ _ => (pg_name (i := 1) nd rfl (Or.inl rfl))) (fun _ _ _ _ _ => pts_nil) (fun _ _ _ _ _ => (pe_call G_line_of (hr.mono (by first | decide | omega)) (by rfl) g_line_of F_line_of.kp b_line_of .nil pass0 (pa_cons (pv 1) pa_nil)))), ?_⟩
    obtain ⟨a, xs, ds, rfl, hq, _, hds, en⟩ := hd.seq (K := K) hn
    have lx : xs.length = S.length := by rw [hds.len, norm_len en]
    have hS1 := hS.1
    refine ⟨⟨_, rfl⟩, .ref a, rfl, a, xs, rfl, hq, fun J C hJ hC => ?_⟩
    intro D nD
    refine lc_seq (xs := xs) hJ (fun i H2 => H2 D = some (.lst (((S.take i).map lineT).map V.str)) ∧ Same H H2) ⟨upd_same, same_new nD⟩ ?_ ?_ ?_
    · rintro i H2 ⟨h2, s2⟩
      exact SeqIt.mono K hJ (fun o e => s2 _ _ e) hC
    · rintro i x H2 hx ⟨h2, s2⟩
      obtain ⟨di, hdi, hxi⟩ := hds.get hx
      obtain ⟨b, hb, eb⟩ := norm_at en hdi
      have hi : i < S.length := (List.getElem?_eq_some_iff.mp hb).1
      obtain ⟨hb4, hbj⟩ := hS.2 b (List.mem_of_getElem? hb)
      refine ⟨rfl, x, rfl, N, x, di, b, rfl, hxi.same s2, eb, hb4, hbj, fun H3 s3 => ?_⟩
      refine ⟨_, s3 _ _ h2, small1000 (by rw [List.length_map, List.length_map, List.length_take]; omega), ?_, same_fill (s2.trans s3) nD⟩
      rw [upd_same, List.take_add_one, hb, List.map_append, List.map_append]
      rfl
    · rintro H2 ⟨h2, s2⟩
      rw [lx, List.take_length] at h2
      have ls := sum_le (ys := S.map lineT) (c := 32) fun y hy => by
        obtain ⟨b, hb, rfl⟩ := List.mem_map.mp hy
        exact line_len (hS.2 b hb).1 (hS.2 b hb).2
      rw [List.length_map] at ls
      refine ⟨_, D, S.map lineT, rfl, rfl, .inl (.inl (.inl h2)), ?_, q H2 s2⟩
      rw [List.length_map]
      have e1 : (Str.ofString "\n").length = 1 := by decide +kernel
      show _ + S.length * (Str.ofString "\n").length ≤ 16777216
      rw [e1]
      omega
end
end Bk

/-! sorted(x), x a text. -/
namespace Bk
open PySem PySem.Spec PyProof.Rows L2 TL
def charsOf (x : Str) : List Str := (tl x).map fun c => (⟨#[c]⟩ : Str)
theorem chars_are {x : Str} {acc : Array Value} (h : ItemsOf (SignAt x) acc x.cps.size) : StrsAre acc.toList (charsOf x) := by
  obtain ⟨hz, hv⟩ := h
  have lv : acc.toList.length = (tl x).length := by
    rw [Array.length_toList, hz]
    rfl
  have go : ∀ (l : List Nat) (us : List Value), us.length = l.length → (∀ (j : Nat) (v : Value), us[j]? = some v → ∃ (c : Nat) (t : Tok), l[j]? = some c ∧ v = Value.str ⟨#[c]⟩ t) → Vals ((l.map fun c => (⟨#[c]⟩ : Str)).map V.str) us := by
    intro l
    induction l with
    | nil =>
      intro us e _
      have : us = [] := List.length_eq_zero_iff.mp e
      subst this
      exact .nil
    | cons c l ih =>
      intro us e hu
      cases us with
      | nil => cases e
      | cons u us =>
        obtain ⟨c', t, h1, rfl⟩ := hu 0 u rfl
        have e1 : c = c' := by simpa using h1
        subst e1
        exact .cons ⟨t, rfl⟩ (ih us (by simpa using e) fun j v hj => by
          obtain ⟨c'', t', h2, h3⟩ := hu (j + 1) v (by simpa using hj)
          exact ⟨c'', t', by simpa using h2, h3⟩)
  refine strs_of_vals (go (tl x) acc.toList lv fun j v hj => ?_)
  obtain ⟨c, t, h1, h2⟩ := hv j v (by simpa using hj)
  exact ⟨c, t, by simpa [tl] using h1, h2⟩
section
variable {P : Program} {w : World} {A : Around} {E : Value → Shared → Prop} {s : Shared}
theorem sorted_text (hh : A.handled = none) (x : Str) (t : Tok) {Q : Value → Shared → Prop} (h64 : x.length < 64)
    (hQ : ∀ s' p (out : Array Value) (c : Nat) (ys : List Str), (∀ b o, s.heap.get? b = some o → s'.heap.get? b = some o) → s'.gens = s.gens → s'.os = s.os → s.heap.get? p = none → s'.heap.get? p = some (seqObj "list" out c) → StrsAre out.toList ys → ys.Perm (charsOf x) → sortedS ys = true → Q (.ref p) s') :
    wpAny (model P w) A (call (.builtin "sorted") [.str x t]) Q E s := by
  have short : x.cps.size < 64 := h64
  refine Calls.call_function_entry kind_sorted plain_sorted entry_sorted (args_sorted1 _) (show wpAny _ _ (Builtin.«sorted» _) _ _ _ from ?_)
  unfold Builtin.«sorted»
  refine wpAny_bind (m := checkCount "sorted" 1 1 _) (wpAny_pure (wpAny_bind (wpAny_collect_str (A := A.in1) hh x t (fun s1 acc k1 g1 _ o1 items => ?_) (by rw [sizeLine_eq]; omega))))
  have hS := chars_are items
  have lv : acc.toList.length < 64 := by
    rw [Array.length_toList, items.1]
    exact short
  refine wpAny_bind (wpAny_newList ?_ (by rw [sizeLine_eq]; omega))
  have laid : (s1.heap.push (seqObj "list" acc.toList.toArray 0)).get? s1.heap.objs.size = some (seqObj "list" acc.toList.toArray 0) := Heap.get?_push_size _ rfl
  refine wpAny_bind (wpAny_holding (wpAny_call_entry slot_list_sort ⟨_, laid, rfl⟩ entry_list_sort (list_sort_treeK strKind_oneLt laid hS.keysOf (fun v₁ v₂ rest e => keyKind_strs (by rw [← e]; exact hS)) lv fun st' pm so => ⟨_, rfl, ?_⟩) (args_list_sort _)))
  obtain ⟨ys, y1, y2, y3⟩ := sorted_out_str hS pm so
  obtain ⟨c, hc⟩ := sortedHeap_at (vs := acc.toList) (out := (arrOf st').map (·.2)) laid
  refine wpAny_pure ⟨_, rfl, hQ _ s1.heap.objs.size _ c ys (fun b u e => ?_) g1 o1 ?_ hc y1 y2 y3⟩
  · have q := k1 b u e
    have lt := Heap.lt_size q
    refine (sortedHeap_old (Nat.ne_of_lt lt) (Nat.lt_of_lt_of_le lt (by rw [size_push']; exact Nat.le_succ _))).trans ?_
    exact Heap.get?_push_of_some _ q
  · cases e : s.heap.get? s1.heap.objs.size with
    | none => rfl
    | some o => exact absurd (Heap.lt_size (k1 _ _ e)) (Nat.lt_irrefl _)
end
/-- sorted(x): a new list of x's signs, from the least on -/
def rSortTxt : List V → Hp → VK → Prop := fun vs H Q => ∃ x : Str, vs = [.str x] ∧ x.length < 64 ∧ ∀ (ys : List Str) (p : Addr), ys.Perm (charsOf x) → sortedS ys = true → H p = none → Q (.ref p) (upd H p (.lst (ys.map V.str)))
theorem cr_sortTxt {X : Cx} (hc : X.calm = true) : CallR X (.builtin "sorted") rSortTxt := by
  rintro pins s σ H vs us Q I r ⟨x, rfl, h64, q⟩
  obtain ⟨u, rfl, t, rfl⟩ := r.one
  refine sorted_text (I.ok.hd hc) x t h64 fun s' p out c ys k g o hp at_ hS pm so => ?_
  have nH : H p = none := I.hok.gone hp
  have ln : (ys.map V.str).length ≤ sizeLine := by
    rw [List.length_map, pm.length_eq, charsOf, List.length_map, ← len_tl, sizeLine_eq]
    omega
  have J : Inv X pins σ (upd H p (.lst (ys.map V.str))) s' := I.call' (ch := []) o (Un.laidN k hp nH) (I.hok.laidN k nH ⟨ln, out.toList, c, vals_of_strs hS, by simpa using at_⟩) (by rw [g]; exact I.bare) (fun _ z => nomatch z)
  exact ⟨.ref p, _, J, rfl, q ys p pm so nH⟩
end Bk

namespace Bk
open PySem PySem.Spec PyProof.Rows L2 TL
local macro_rules | `(tactic| walk_at "g") => `(tactic| (repeat first | refine ⟨_, rfl, ?_⟩ | refine ⟨cpow, ?_⟩ | refine ⟨wideM, ?_⟩ | refine ⟨_, _, rfl, rfl, ?_⟩ | refine ⟨rfl, ?_⟩))
def digsS : Str := Str.ofString "0123456789"
def isDig (c : Nat) : Bool := decide (c ∈ tl digsS)
def isNumL : List Nat → Bool
  | [] => false
  | c :: r => (c :: r).all isDig && (decide (c :: r = [48]) || decide (c ≠ 48))
def isNumW (x : Str) : Bool := isNumL (tl x)
section
variable {P : Program} {w : World} {K : PySem.W.Frag} {mg : Str → Option Value} {base : Heap}
abbrev sis_number_word : Stmt := topS 139
abbrev Nis_number_word : List Str := ["word", "sign"]
theorem scis_number_word : FnScope Nis_number_word ["word"] (defScope sis_number_word) := ⟨rfl, rfl, rfl, by decide +kernel, rfl, by decide +kernel, by decide +kernel⟩
def spNumW : Sp := fun vs H Q _ => ∃ x : Str, vs = [.str x] ∧ x.length ≤ 100 ∧ ∀ H', Same H H' → Q (.bl (isNumW x)) H'
theorem okis_number_word {f : Addr} {fd : FuncData} {tF : Tok} (F : Fun K "is_number_word" "is_number_word" sis_number_word f fd) (g_FIGURES : mg "FIGURES" = some (.str digsS tF)) (m_all : mg "all" = none) : FnOk P w K mg base CX0 1 f fd ["word"] spNumW := by
  have r_FIGURES : RelV (V.str digsS) (.str digsS tF) := ⟨_, rfl⟩
  refine F.ok scis_number_word (fun vs H Q E h => ?_) (fun cdv A outer s H vs Q E hr h => ?_)
  · obtain ⟨x, rfl, _⟩ := h
    rfl
  · obtain ⟨x, rfl, hx, q⟩ := h
    have nd := scis_number_word.nd
    refine ⟨_, (pss_cons (ps_if (pw_or (pt_cmpR op_eq (pv 0) pe_str (nomark _)) (pw_or1 (pt_not (pt_val (pe_callB (kAll K rfl rfl) (by rfl) m_all (by decide +kernel) (pa_cons (pe_lc (own := [("sign", 1)]) (g := gName 1) (tt := tYes) rfl nd (pi_str (pv 0)) (blkOk_by (own := [("sign", 1)]) (N := Nis_number_word) (sc := defScope sis_number_word) (by decide +kernel)) (fun _ _ _ _ _ => (pg_name (i := 1) nd rfl (Or.inl rfl))) (fun _ _ _ _ _ => pts_nil) (fun _ _ _ _ _ => (pe_cmpR op_in_sign (pv 1) (pe_glob (by rfl) g_FIGURES r_FIGURES) (by rfl)))) pa_nil)))))).pt (pss_one (ps_ret pe_bl)) pss_nil)
      (pss_one (ps_ret (pe_or (pe_cmpR op_eq (pv 0) pe_str (nomark _)) (pe_one (pe_cmpR op_ne (pe_ix ix_str (pv 0) pe_int (fun _ _ => rfl)) pe_str (nomark _))))))), ?_⟩
    have hl : x.cps.size = (tl x).length := len_tl x
    have hx' : (tl x).length ≤ 100 := by rw [← hl]; exact hx
    have e0 : decide (V.str x = V.str (Str.ofString "")) = (tl x).isEmpty := by
      cases e : tl x with
      | nil =>
        have : x = Str.ofString "" := ext_tl (by rw [e]; decide +kernel)
        rw [this]
        rfl
      | cons c r =>
        refine decide_eq_false fun z => ?_
        injection z with z
        rw [z] at e
        have : tl (Str.ofString "") = [] := by decide +kernel
        rw [this] at e
        cases e
    refine ⟨.str x, rfl, rfl, _, congrArg V.bl e0, ?_⟩
    cases e : tl x with
    | nil =>
      refine iteT (iteT ?_)
      have := q H (Same.refl H)
      rw [show isNumW x = false by unfold isNumW; rw [e]; rfl] at this
      exact this
    | cons c r =>
      refine iteF ?_
      refine ⟨.str x, rfl, x, rfl, fun D nD => ?_⟩
      refine lc_it walk_str (fun i H2 => H2 = upd H D (.lst ((((tl x).take i).map isDig).map V.bl))) rfl (fun _ _ _ _ => trivial) ?_ ?_
      · rintro i v H2 H3 hi rfl ⟨rfl, d, hd, rfl⟩
        have hd' : (tl x)[i]? = some d := by rw [← hd]; exact Array.getElem?_toList
        refine ⟨rfl, .str ⟨#[d]⟩, rfl, d, digsS, rfl, rfl, _, upd_same, small1000 (by rw [List.length_map, List.length_map, List.length_take]; omega), ?_⟩
        rw [upd_upd, List.take_add_one, hd', List.map_append, List.map_append]
        rfl
      · rintro H2 rfl
        rw [hl, List.take_length]
        refine ⟨D, _, rfl, .inl (.inl upd_same), _, rfl, ?_⟩
        have s2 : Same H (upd H D (.lst (((tl x).map isDig).map V.bl))) := same_new nD
        generalize upd H D (.lst (((tl x).map isDig).map V.bl)) = H2 at s2 ⊢
        have ea : ((tl x).map isDig).all id = (c :: r).all isDig := by
          rw [List.all_map, e]
          rfl
        rw [ea]
        have q2 := q H2 s2
        unfold isNumW at q2
        rw [e] at q2
        rw [show isNumL (c :: r) = ((c :: r).all isDig && (decide (c :: r = [48]) || decide (c ≠ 48))) from rfl] at q2
        cases ha : (c :: r).all isDig with
        | false =>
          rw [ha] at q2
          refine iteT ?_
          exact q2
        | true =>
          rw [ha, Bool.true_and] at q2
          refine iteF ?_
          refine ⟨.str x, rfl, rfl, ?_⟩
          have e48 : decide (V.str x = V.str (Str.ofString "0")) = decide (c :: r = [48]) := by
            refine decide_eq_decide.mpr ⟨fun z => ?_, fun z => ?_⟩
            · injection z with z
              rw [← e, z]
              decide +kernel
            · rw [z] at e
              exact congrArg V.str (ext_tl (by rw [e]; decide +kernel))
          rw [e48]
          refine ⟨_, rfl, ?_⟩
          cases h0 : decide (c :: r = [48]) with
          | true =>
            rw [h0] at q2
            exact iteT q2
          | false =>
            rw [h0, Bool.false_or] at q2
            refine iteF ?_
            have hat : atI x.cps.toList 0 = some c := by
              show atI (tl x) 0 = some c
              rw [e]
              exact atI_nat (xs := c :: r) (j := 0) rfl
            refine ⟨.str x, rfl, x, 0, c, rfl, rfl, Nat.le_of_lt (small1000 (by omega)), hat, rfl, ?_⟩
            have e1 : (!decide (V.str ⟨#[c]⟩ = V.str (Str.ofString "0"))) = decide (c ≠ 48) := by
              have e2 : decide (V.str ⟨#[c]⟩ = V.str (Str.ofString "0")) = decide (c = 48) := by
                refine decide_eq_decide.mpr ⟨fun z => ?_, fun z => ?_⟩
                · injection z with z
                  have : tl (⟨#[c]⟩ : Str) = tl (Str.ofString "0") := congrArg tl z
                  rw [show tl (Str.ofString "0") = [48] by decide +kernel] at this
                  exact (List.cons.inj this).1
                · rw [z]
                  exact congrArg V.str (ext_tl (by decide +kernel))
              rw [e2]
              exact decide_not.symm
            rw [e1]
            exact q2
/-! ### is_joining_word -/
def fourS : List Str := [Str.ofString "0", Str.ofString "1", Str.ofString "2", Str.ofString "3"]
def isTurnW (x : Str) : Bool := decide ((charsOf x).Perm fourS)
def isJoinW (x : Str) : Bool := isNumW (Txt.partition x (Str.ofString ":")).1 && isTurnW (Txt.partition x (Str.ofString ":")).2.2
theorem dp_strs {H : Hp} : ∀ ns : List Str, DpAll K H (ns.map V.str) (ns.map PyData.str)
  | [] => .nil
  | n :: ns => .cons (.str n) (dp_strs ns)
theorem strs_lay : ∀ ns : List Str, (∀ n ∈ ns, ∀ c ∈ tl n, c < 1000) → PyData.canLayAll0 (ns.map PyData.str) = true ∧ PyData.depthAll (ns.map PyData.str) ≤ 1
  | [], _ => by simp [PyData.canLayAll0, PyData.depthAll]
  | n :: ns, hn => by
    have h := strs_lay ns fun m hm => hn m (List.mem_cons_of_mem _ hm)
    have h0 : PyData.strOk n = true := by
      show n.cps.all (· < 0x110000) = true
      rw [← Array.all_toList]
      refine List.all_eq_true.mpr fun c hc => decide_eq_true ?_
      have := hn n List.mem_cons_self c hc
      omega
    simp only [List.map_cons, PyData.canLayAll0, PyData.depthAll, PyData.canLay0, PyData.depth, h0, Bool.true_and]
    exact ⟨h.1, by omega⟩
theorem strs_shaped {ns : List Str} (hn : ∀ n ∈ ns, ∀ c ∈ tl n, c < 1000) : SeqAt.shaped (.list (ns.map PyData.str)) = true := by
  have h := strs_lay ns hn
  have h2 : PyData.depth (.list (ns.map PyData.str)) ≤ 64 := by
    simp only [PyData.depth]
    omega
  show (PyData.canLay0 (.list (ns.map PyData.str)) && decide (PyData.depth (.list (ns.map PyData.str)) ≤ 64)) = true
  rw [Bool.and_eq_true]
  exact ⟨by simp only [PyData.canLay0]; exact h.1, decide_eq_true h2⟩
theorem eqv_strs : ∀ xs ys : List Str, PyData.eqvAll (xs.map PyData.str) (ys.map PyData.str) = decide (xs = ys)
  | [], [] => rfl
  | [], y :: ys => rfl
  | x :: xs, [] => rfl
  | x :: xs, y :: ys => by
    simp only [List.map_cons, PyData.eqvAll, PyData.eqv, eqv_strs xs ys]
    by_cases h : x = y
    · subst h
      simp
    · simp [h]
theorem four_sorted : ∀ a ∈ fourS, ∀ b ∈ fourS, ∀ c ∈ fourS, ∀ d ∈ fourS, sortedS [a, b, c, d] = true → [a, b, c, d].Nodup → [a, b, c, d] = fourS := by decide +kernel
theorem four_uniq {ys : List Str} (h : ys.Perm fourS) (so : sortedS ys = true) : ys = fourS := by
  have hl : ys.length = 4 := h.length_eq
  have hn : ys.Nodup := h.symm.nodup (by decide +kernel)
  match ys, hl with
  | [a, b, c, d], _ =>
    exact four_sorted a (h.mem_iff.mp (by simp)) b (h.mem_iff.mp (by simp)) c (h.mem_iff.mp (by simp)) d (h.mem_iff.mp (by simp)) so hn
abbrev sis_joining_word : Stmt := topS 138
abbrev Nis_joining_word : List Str := ["word", "number", "_", "turn"]
theorem scis_joining_word : FnScope Nis_joining_word ["word"] (defScope sis_joining_word) := ⟨rfl, rfl, rfl, by decide +kernel, rfl, by decide +kernel, by decide +kernel⟩
def spJoinW : Sp := fun vs H Q _ => ∃ x : Str, vs = [.str x] ∧ x.length ≤ 60 ∧ (∀ c ∈ tl x, c < 1000) ∧ ∀ H', Same H H' → Q (.bl (isJoinW x)) H'
theorem par_le (S : List Nat) : ∀ (l acc a b : List Nat), par S acc l = some (a, b) → a.length ≤ acc.length + l.length ∧ b.length ≤ l.length
  | [], acc, a, b, h => by cases h
  | c :: r, acc, a, b, h => by
    cases hp : pre S (c :: r) with
    | true =>
      rw [par_hit hp] at h
      injection h with h
      injection h with h1 h2
      subst h1 h2
      rw [List.length_drop]
      exact ⟨by omega, by omega⟩
    | false =>
      rw [par_miss hp] at h
      have := par_le S r (acc ++ [c]) a b h
      rw [List.length_append] at this
      simp only [List.length_cons, List.length_nil] at this ⊢
      omega
theorem par_mem (S : List Nat) : ∀ (l acc a b : List Nat), par S acc l = some (a, b) → ∀ c ∈ b, c ∈ l
  | [], acc, a, b, h => by cases h
  | c :: r, acc, a, b, h => by
    cases hp : pre S (c :: r) with
    | true =>
      rw [par_hit hp] at h
      injection h with h
      injection h with h1 h2
      subst h1 h2
      exact fun d hd => List.mem_of_mem_drop hd
    | false =>
      rw [par_miss hp] at h
      exact fun d hd => List.mem_cons_of_mem _ (par_mem S r (acc ++ [c]) a b h d hd)
theorem part_mem (x y : Str) (hy : tl y ≠ []) : ∀ c ∈ tl (Txt.partition x y).2.2, c ∈ tl x := by
  rw [partition_par x y hy]
  cases h : par (tl y) [] (tl x) with
  | none => exact fun c hc => by cases hc
  | some ab =>
    obtain ⟨a, b⟩ := ab
    exact par_mem _ _ _ _ _ h
theorem part_le (x y : Str) (hy : tl y ≠ []) : (Txt.partition x y).1.length ≤ x.length ∧ (Txt.partition x y).2.2.length ≤ x.length := by
  rw [partition_par x y hy, len_tl x]
  cases h : par (tl y) [] (tl x) with
  | none => exact ⟨Nat.le_of_eq (len_tl x), Nat.zero_le _⟩
  | some ab =>
    obtain ⟨a, b⟩ := ab
    have := par_le _ _ _ _ _ h
    simp only [List.length_nil, Nat.zero_add] at this
    exact this
theorem okis_joining_word {f fN : Addr} {fd fdN : FuncData} (F : Fun K "is_joining_word" "is_joining_word" sis_joining_word f fd) (Fis_number_word : Fun K "is_number_word" "is_number_word" sis_number_word fN fdN) (gis_number_word : mg "is_number_word" = some (.ref fN)) (bis_number_word : Binds K fdN ["word"] [])
    (Gis_number_word : FnOk P w K mg base CX0 1 fN fdN ["word"] spNumW) (m_sorted : mg "sorted" = none) : FnOk P w K mg base CX0 2 f fd ["word"] spJoinW := by
  refine F.ok scis_joining_word (fun vs H Q E h => ?_) (fun cdv A outer s H vs Q E hr h => ?_)
  · obtain ⟨x, rfl, _⟩ := h
    rfl
  · obtain ⟨x, rfl, hx, hc, q⟩ := h
    have nd := scis_joining_word.nd
    refine ⟨_, (pss_cons (ps_asg (pe_partition (pv 0) pe_str) (kPgT K rfl (pg_tup (n := 3) rfl (pgs_cons (pg_name (i := 1) nd rfl (.inl rfl)) (pgs_cons (pg_name (i := 2) nd rfl (.inl rfl)) (pgs_cons (pg_name (i := 3) nd rfl (.inl rfl)) pgs_nil))))))
      (pss_one (ps_ret (pe_and (pe_call Gis_number_word (hr.mono (by first | decide | omega)) (by rfl) gis_number_word Fis_number_word.kp bis_number_word .nil pass0 (pa_cons (pv 1) pa_nil)) (pe_one (pe_cmpR (kEqD K rfl hr.units) (pe_callB (cr_sortTxt rfl) (by rfl) m_sorted (by decide +kernel) (pa_cons (pv 3) pa_nil)) (pe_lst (pa_cons pe_str (pa_cons pe_str (pa_cons pe_str (pa_cons pe_str pa_nil))))) (nomark _))))))), ?_⟩
    obtain ⟨p1, p2⟩ := part_le x (Str.ofString ":") (by decide +kernel)
    refine ⟨.str x, rfl, ⟨x, rfl⟩, x, Str.ofString ":", rfl, rfl, by decide +kernel, Nat.le_of_lt (small1000 (by omega)), fun p np => ?_⟩
    have s1 : Same H (upd H p (.tup [.str (Txt.partition x (Str.ofString ":")).1, .str (Txt.partition x (Str.ofString ":")).2.1, .str (Txt.partition x (Str.ofString ":")).2.2])) := same_new np
    refine ⟨p, _, rfl, .inl (.inl upd_same), rfl, _, _, rfl, _, _, rfl, _, _, rfl, rfl, ?_⟩
    generalize upd H p (.tup [.str (Txt.partition x (Str.ofString ":")).1, .str (Txt.partition x (Str.ofString ":")).2.1, .str (Txt.partition x (Str.ofString ":")).2.2]) = H1 at s1 ⊢
    refine ⟨.str (Txt.partition x (Str.ofString ":")).1, rfl, _, rfl, by omega, fun H2 s2 => ⟨_, rfl, ?_⟩⟩
    have q' := fun H' (z : Same H1 H') => q H' (s1.trans z)
    unfold isJoinW at q'
    cases hN : isNumW (Txt.partition x (Str.ofString ":")).1 with
    | false =>
      rw [hN] at q'
      exact iteF (q' H2 s2)
    | true =>
      rw [hN] at q'
      refine iteT ?_
      refine ⟨.str (Txt.partition x (Str.ofString ":")).2.2, rfl, _, rfl, by omega, fun ys p' pm so np' => ?_⟩
      have s3 : Same H2 (upd H2 p' (.lst (ys.map V.str))) := same_new np'
      have h3 : (upd H2 p' (.lst (ys.map V.str))) p' = some (.lst (ys.map V.str)) := upd_same
      generalize upd H2 p' (.lst (ys.map V.str)) = H3 at s3 h3 ⊢
      refine ⟨by decide, fun L nL => ?_⟩
      have s4 : Same H3 (upd H3 L (.lst (fourS.map V.str))) := same_new nL
      have hys : ∀ n ∈ ys, ∀ c ∈ tl n, c < 1000 := fun n hn c hcn => by
        have := pm.mem_iff.mp hn
        unfold charsOf at this
        obtain ⟨d, hd, rfl⟩ := List.mem_map.mp this
        have e1 : c ∈ [d] := hcn
        rw [List.mem_singleton.mp e1]
        exact hc d (part_mem x (Str.ofString ":") (by decide +kernel) d hd)
      refine ⟨.list (ys.map PyData.str), .list (fourS.map PyData.str), .lst (.inl (.inl (s4 _ _ h3))) (dp_strs ys), .lst (.inl (.inl upd_same)) (dp_strs fourS), strs_shaped hys, strs_shaped (by decide +kernel), ?_⟩
      have ee : PyData.eqv (.list (ys.map PyData.str)) (.list (fourS.map PyData.str)) = isTurnW (Txt.partition x (Str.ofString ":")).2.2 := by
        show PyData.eqvAll _ _ = _
        rw [eqv_strs]
        unfold isTurnW
        refine decide_eq_decide.mpr ⟨fun z => ?_, fun z => four_uniq (pm.trans z) so⟩
        rw [← z]
        exact pm.symm
      rw [ee]
      exact q' _ ((s2.trans s3).trans s4)
end
end Bk

namespace Bk
open PySem PySem.Spec PyProof.Rows L2 TL
local macro_rules | `(tactic| walk_at "g") => `(tactic| (repeat first | refine ⟨_, rfl, ?_⟩ | refine ⟨cpow, ?_⟩ | refine ⟨wideM, ?_⟩ | refine ⟨_, _, rfl, rfl, ?_⟩ | refine ⟨rfl, ?_⟩))
def hasForm (ws : List Str) : Bool := decide (ws.length = 4) && ws.all fun x => decide (V.str x = V.str (Str.ofString "-")) || isJoinW x
/-! ### texts of words -/
theorem joinL_nil : ∀ ps : List (List Nat), joinL [] ps = ps.flatten
  | [] => rfl
  | [p] => by simp [joinL]
  | p :: q :: r => by
    show p ++ ([] ++ joinL [] (q :: r)) = _
    rw [joinL_nil (q :: r)]
    rfl
theorem tl_numT (n : Nat) : tl (numT n) = numL n := tl_num n
theorem tl_fig {t : Trn} (h : ∀ x ∈ t, x < 4) : tl (figT t) = t.map (48 + ·) := by
  unfold figT
  rw [join_eq, tl_join, show tl (Str.ofString "") = [] by decide +kernel, joinL_nil, List.map_map]
  induction t with
  | nil => rfl
  | cons x t ih =>
    rw [List.map_cons, List.flatten_cons, ih fun y hy => h y (List.mem_cons_of_mem _ hy), Function.comp, tl_numT, numL_lt (by have := h x List.mem_cons_self; omega)]
    rfl
theorem numT_inj {m n : Nat} (h : numT m = numT n) : m = n := numL_inj (by rw [← tl_numT, ← tl_numT, h])
theorem tl_word (n : Nat) (t : Trn) : tl (wordT (some (n, t))) = numL n ++ 58 :: tl (figT t) := by
  show tl (numT n ++ Str.ofString ":" ++ figT t) = _
  rw [tl_append, tl_append, tl_numT, show tl (Str.ofString ":") = [58] by decide +kernel, List.append_assoc]
  rfl
theorem word_no (n : Nat) (t : Trn) : decide (V.str (wordT (some (n, t))) = V.str (Str.ofString "-")) = false := by
  refine decide_eq_false fun z => ?_
  injection z with z
  have := congrArg tl z
  rw [tl_word, show tl (Str.ofString "-") = [45] by decide +kernel] at this
  have h58 : 58 ∈ [45] := by
    rw [← this]
    simp
  revert h58
  decide
theorem word_part (n : Nat) (t : Trn) : Txt.partition (wordT (some (n, t))) (Str.ofString ":") = (numT n, Str.ofString ":", figT t) :=
  partition_app (s := 58) (S := []) (by decide +kernel) (by rw [tl_numT]; exact numL_free (by omega))
theorem num_word : ∀ n < 64, isNumW (numT n) = true := by decide +kernel
theorem turn_word : ∀ t ∈ allTurns, isTurnW (figT t) = true := by decide +kernel
/-- the numbers below m -/
def Jt (j : Jn) : Prop := ∀ n t, j = some (n, t) → n < 64 ∧ t ∈ allTurns
theorem Jt.jb {j : Jn} (h : Jt j) : Jb j := fun n t e => ⟨(h n t e).1, (turns4 t (h n t e).2).1, (turns4 t (h n t e).2).2.1⟩
theorem word_form {j : Jn} (h : Jt j) : (decide (V.str (wordT j) = V.str (Str.ofString "-")) || isJoinW (wordT j)) = true := by
  cases j with
  | none => rfl
  | some k =>
    obtain ⟨n, t⟩ := k
    obtain ⟨h1, h2⟩ := h n t rfl
    rw [word_no, Bool.false_or]
    unfold isJoinW
    rw [word_part]
    show (isNumW (numT n) && isTurnW (figT t)) = true
    rw [num_word n h1, turn_word t h2]
    rfl
theorem line_form {b : Blk} (h4 : b.length = 4) (h : ∀ j ∈ b, Jt j) : hasForm (b.map wordT) = true := by
  unfold hasForm
  rw [List.length_map, h4, List.all_map]
  refine List.all_eq_true.mpr fun j hj => ?_
  exact word_form (h j hj)
theorem word_mem {j : Jn} (h : Jb j) : ∀ c ∈ tl (wordT j), c = 45 ∨ (48 ≤ c ∧ c ≤ 58) := by
  cases j with
  | none => decide +kernel
  | some k =>
    obtain ⟨n, t⟩ := k
    obtain ⟨h1, h2, h3⟩ := h n t rfl
    intro c hc
    rw [tl_word] at hc
    rcases List.mem_append.mp hc with z | z
    · refine .inr ⟨?_, ?_⟩
      · by_cases y : 48 ≤ c
        · exact y
        · exact absurd z (numL_free (by omega))
      · by_cases y : c ≤ 57
        · omega
        · exact absurd z (numL_free (by omega))
    · rcases List.mem_cons.mp z with z | z
      · omega
      · rw [tl_fig h3] at z
        obtain ⟨x, hx, rfl⟩ := List.mem_map.mp z
        have := h3 x hx
        show 48 + x = 45 ∨ 48 ≤ 48 + x ∧ 48 + x ≤ 58
        omega
theorem word_free {j : Jn} (h : Jb j) : 32 ∉ tl (wordT j) ∧ 10 ∉ tl (wordT j) := ⟨fun z => by have := word_mem h _ z; omega, fun z => by have := word_mem h _ z; omega⟩
theorem line_split {b : Blk} (h4 : b.length = 4) (h : ∀ j ∈ b, Jb j) : Txt.split (lineT b) (Str.ofString " ") = b.map wordT :=
  split_join (s := 32) (S := []) (by decide +kernel) (by decide +kernel) (by
    intro e
    have := congrArg List.length e
    rw [List.length_map, h4] at this
    cases this) fun p hp => by
      obtain ⟨j, hj, rfl⟩ := List.mem_map.mp hp
      exact (word_free (h j hj)).1
theorem mem_joinL {S : List Nat} {c : Nat} : ∀ {ps : List (List Nat)}, c ∈ joinL S ps → c ∈ S ∨ ∃ p ∈ ps, c ∈ p
  | [], h => by cases h
  | [p], h => .inr ⟨p, List.mem_singleton.mpr rfl, h⟩
  | p :: q :: r, h => by
    rcases List.mem_append.mp (show c ∈ p ++ (S ++ joinL S (q :: r)) from h) with z | z
    · exact .inr ⟨p, List.mem_cons_self, z⟩
    · rcases List.mem_append.mp z with z | z
      · exact .inl z
      · rcases mem_joinL z with z | ⟨p', hp, z⟩
        · exact .inl z
        · exact .inr ⟨p', List.mem_cons_of_mem _ hp, z⟩
theorem tl_join' (y : Str) (ps : List Str) : tl (Txt.join y ps) = joinL (tl y) (ps.map tl) := by rw [join_eq, tl_join]
theorem line_free {b : Blk} (h : ∀ j ∈ b, Jb j) : 10 ∉ tl (lineT b) := by
  intro z
  unfold lineT at z
  rw [tl_join'] at z
  rcases mem_joinL z with z | ⟨p, hp, z⟩
  · revert z
    decide +kernel
  · rw [List.map_map] at hp
    obtain ⟨j, hj, rfl⟩ := List.mem_map.mp hp
    exact (word_free (h j hj)).2 z
theorem text_split {S : Spc} (h : Sb S) (h1 : 1 ≤ S.length) : Txt.split (textT S) (Str.ofString "\n") = S.map lineT :=
  split_join (s := 10) (S := []) (by decide +kernel) (by decide +kernel) (by
    intro e
    have := congrArg List.length e
    rw [List.length_map] at this
    simp only [List.length_nil] at this
    omega) fun p hp => by
      obtain ⟨b, hb, rfl⟩ := List.mem_map.mp hp
      exact line_free (h.2 b hb).2
theorem text_len {S : Spc} (h : Sb S) : (textT S).length ≤ 1400 := by
  have h1 : (textT S).length ≤ (S.map lineT).length * 32 + (S.map lineT).length * (Str.ofString "\n").length := join_le fun y hy => by
    obtain ⟨b, hb, rfl⟩ := List.mem_map.mp hy
    exact line_len (h.2 b hb).1 (h.2 b hb).2
  have e1 : (Str.ofString "\n").length = 1 := by decide +kernel
  have := h.1
  rw [List.length_map, e1] at h1
  omega
theorem Good.jt {S : Spc} (h : Good S) (hl : S.length ≤ 40) : ∀ b ∈ S, ∀ j ∈ b, Jt j := by
  intro b hb j hj n t e
  subst e
  obtain ⟨i, hi⟩ := List.mem_iff_getElem?.mp hb
  obtain ⟨f, hf⟩ := List.mem_iff_getElem?.mp hj
  have g : getJ S i f = some (some (n, t)) := by
    unfold getJ
    rw [hi]
    exact hf
  have := h.lt g
  exact ⟨by omega, (h.both _ _ _ _ g).1⟩
/-- a comprehension of a dict over a range -/
theorem dc_range {lo : Int} {n : Nat} {g : TG} {tt : TT} {tk tv : TE} {vs : List Nat} {σ : L2.St} {H1 : Hp} {D : Addr} {Qd : Hp → Prop} (Pv : Nat → Hp → Prop) (h0 : Pv 0 (upd H1 D (.dK [])))
    (hs : ∀ i H, i < n → Pv i H → g (.int (lo + i)) (wipe σ vs) H fun σ2 H2 => wipe σ2 vs = wipe σ vs ∧ tt σ2 H2 fun b H3 =>
      if b = true then tk σ2 H3 fun y H4 => tv σ2 H4 fun z H5 => ∃ kvs k, y = kV k ∧ H5 D = some (.dK kvs) ∧ kvs.length < sizeLine ∧ Pv (i + 1) (upd H5 D (.dK (putK kvs k z))) else Pv (i + 1) H3) (hd : ∀ H, Pv n H → Qd H) :
    ∃ W : Nat → Nat → Hp → Prop, (∃ m, W 0 m (upd H1 D (.dK []))) ∧ ∀ i m H, W i m H →
      ((Itr lo n).stop i H ∧ Qd H) ∨ ((Itr lo n).go i H ∧ ∃ Nx : Hp → Prop, (∀ H', Nx H' → ∃ m', m' < m ∧ W (i + 1) m' H') ∧ ∀ x H', (Itr lo n).yld i H x H' → g x (wipe σ vs) H' fun σ2 H2 => wipe σ2 vs = wipe σ vs ∧ tt σ2 H2 fun b H3 =>
        if b = true then tk σ2 H3 fun y H4 => tv σ2 H4 fun z H5 => ∃ kvs k, y = kV k ∧ H5 D = some (.dK kvs) ∧ kvs.length < sizeLine ∧ Nx (upd H5 D (.dK (putK kvs k z))) else Nx H3) := by
  refine ⟨fun i m H => m = n - i ∧ i ≤ n ∧ Pv i H, ⟨n, by simp, Nat.zero_le _, h0⟩, ?_⟩
  rintro i m H ⟨rfl, hi, p⟩
  by_cases hlt : i < n
  · refine .inr ⟨hlt, Pv (i + 1), fun H' p' => ⟨n - (i + 1), by omega, rfl, hlt, p'⟩, fun x H' y => ?_⟩
    obtain ⟨e, y⟩ := y
    subst e y
    exact hs i _ hlt p
  · have e : i = n := by omega
    subst e
    exact .inl ⟨Nat.le_refl _, hd H p⟩
section
variable {P : Program} {w : World} {K : PySem.W.Frag} {mg : Str → Option Value} {base : Heap}
/-! ### _has_form -/
def spHasForm : Sp := fun vs H Q _ => ∃ (a : Addr) (ws : List Str), vs = [.ref a] ∧ H a = some (.lst (ws.map V.str)) ∧ ws.length ≤ 60 ∧ (∀ x ∈ ws, x.length ≤ 60 ∧ ∀ c ∈ tl x, c < 1000) ∧ ∀ H', Same H H' → Q (.bl (hasForm ws)) H'
/-! ### _joining_told -/
def Nums (H : Hp) (dd : Addr) (m : Nat) : Prop := ∃ kvs, H dd = some (.dK kvs) ∧ ∀ n < m, valV kvs (.inr (numT n)) = some (intV n)
theorem Nums.same {H H' : Hp} {dd : Addr} {m : Nat} (h : Nums H dd m) (s : Same H H') : Nums H' dd m := by
  obtain ⟨kvs, h1, h2⟩ := h
  exact ⟨kvs, s _ _ h1, h2⟩
def NewD (H H' : Hp) (v : V) (d : PyData) : Prop := ∀ N : Addr → Prop, (∀ a, N a → H a ≠ none) → Dq N H' v d
def spJTold : Sp := fun vs H Q _ => ∃ (j : Jn) (dd : Addr) (m : Nat), vs = [.str (wordT j), .ref dd] ∧ Nums H dd m ∧ Jb j ∧ (∀ n t, j = some (n, t) → n < m) ∧ ∀ H' v d, Same H H' → NewD H H' v d → norm d = nJ j → Q v H'
end
end Bk

namespace Bk
open PySem PySem.Spec PyProof.Rows L2 RZ TL
local macro_rules | `(tactic| walk_at "g") => `(tactic| (repeat first | refine ⟨_, rfl, ?_⟩ | refine ⟨cpow, ?_⟩ | refine ⟨_, _, rfl, rfl, ?_⟩ | refine ⟨rfl, ?_⟩))
/-! ### rows that change a space of two blocks -/
inductive Stp : Spc → Str → Spc → Prop
  | p0 {S : Spc} {f n : Nat} {t : Trn} : f < 4 → getJ S 0 f = some (some (n, t)) → Stp S (Str.ofString "part 0 " ++ numT f) (partS S 0 f n t)
  | p1 {S : Spc} {f n : Nat} {t : Trn} : f < 4 → getJ S 1 f = some (some (n, t)) → Stp S (Str.ofString "part 1 " ++ numT f) (partS S 1 f n t)
  | j {S : Spc} {f : Nat} {t : Trn} : f < 4 → t ∈ allTurns → getJ S 0 f = some none → getJ S 1 (tf t f) = some none → Stp S (Str.ofString "join 0 " ++ numT f ++ Str.ofString " 1:" ++ figT t) (joinJ S 0 f 1 t)
theorem Stp.good {S S' : Spc} {x : Str} (h : Stp S x S') (g : Good S) : Good S' ∧ S'.length = S.length := by
  cases h with
  | p0 _ e => exact ⟨g.part e, partS_len _ _ _ _ _⟩
  | p1 _ e => exact ⟨g.part e, partS_len _ _ _ _ _⟩
  | j h1 h2 h3 h4 => exact ⟨g.join h2 h3 h4 (fun z => by injection z with z _; cases z), joinJ_len _ _ _ _ _⟩
/-- a text on one line -/
def shownT (S : Spc) : Str := Txt.replace (textT S) (Str.ofString "\n") (Str.ofString "/")
def spShown (K : PySem.W.Frag) : Sp := fun vs H Q _ => ∃ (v : V) (d : PyData) (S : Spc), vs = [v] ∧ Dp K H v d ∧ norm d = nS S ∧ Sb S ∧ ∀ H', Same H H' → Q (.str (shownT S)) H'
section
variable {P : Program} {w : World} {K : PySem.W.Frag} {mg : Str → Option Value} {base : Heap}
abbrev s_law_row : Stmt := topS 174
abbrev N_law_row : List Str := ["reel", "space", "face", "goal", "way", "row", "one"]
theorem sc_law_row : FnScope N_law_row ["reel", "space"] (defScope s_law_row) := ⟨rfl, rfl, rfl, by decide +kernel, rfl, by decide +kernel, by decide +kernel⟩
def spRow : Sp := fun vs H Q _ => ∃ (R : Addr) (v : V) (S : Spc), vs = [.ref R, v] ∧ Rl R H ∧ ST H v S ∧ Good S ∧ S.length = 2 ∧ ∀ H' p x v' S', Keep R H H' → Rl R H' → FT H' p [.str x, v'] → Stp S x S' → ST H' v' S' → Q (.ref p) H'
theorem ok_law_row {f fD fW fP fJ : Addr} {fd fdD fdW fdP fdJ : FuncData} (F : Fun K "_law_row" "_law_row" s_law_row f fd) (F_law_draw : Fun K "_law_draw" "_law_draw" s_law_draw fD fdD) (g_law_draw : mg "_law_draw" = some (.ref fD)) (b_law_draw : Binds K fdD ["reel", "many"] [])
    (G_law_draw : FnOk P w K mg base CX0 1 fD fdD ["reel", "many"] spDrawD)
    (F_law_way : Fun K "_law_way" "_law_way" s_law_way fW fdW) (g_law_way : mg "_law_way" = some (.ref fW)) (b_law_way : Binds K fdW ["reel", "face", "goal"] []) (G_law_way : FnOk P w K mg base CX0 2 fW fdW ["reel", "face", "goal"] spWayD)
    (Fparted : Fun K "parted" "parted" sparted fP fdP) (gparted : mg "parted" = some (.ref fP)) (bparted : Binds K fdP ["space", "block", "face"] []) (Gparted : FnOk P w K mg base CX0 7 fP fdP ["space", "block", "face"] spParted)
    (Fjoined : Fun K "joined" "joined" sjoined fJ fdJ) (gjoined : mg "joined" = some (.ref fJ)) (kbjoined_other_turn : KBn K fdJ ["space", "block", "face", "other", "turn"] 3 ["other", "turn"] (fun us ws => us ++ ws) (fun vs zs => vs ++ zs)) (Gjoined : FnOk P w K mg base CX0 7 fJ fdJ ["space", "block", "face", "other", "turn"] spJoined)
    (m_str : mg "str" = none) : FnOk P w K mg base CX0 8 f fd ["reel", "space"] spRow := by
  refine F.ok sc_law_row (fun vs H Q E h => ?_) (fun cdv A outer s H vs Q E hr h => ?_)
  · obtain ⟨R, v, S, rfl, _⟩ := h
    rfl
  · obtain ⟨R, v, S, rfl, hR, hst, hG, h2, q⟩ := h
    have nd := sc_law_row.nd
    refine ⟨_, (pss_cons (ps_asg (pe_lst (pa_cons (pe_call G_law_draw (hr.mono (by first | decide | omega)) (by rfl) g_law_draw F_law_draw.kp b_law_draw .nil pass0 (pa_cons (pv 0) (pa_cons pe_int pa_nil))) (pa_cons (pe_call G_law_draw (hr.mono (by first | decide | omega)) (by rfl) g_law_draw F_law_draw.kp b_law_draw .nil pass0 (pa_cons (pv 0) (pa_cons pe_int pa_nil))) pa_nil))) (kPgS K rfl (pg_tup (n := 2) rfl (pgs_cons (pg_name (i := 2) nd rfl (.inl rfl)) (pgs_cons (pg_name (i := 3) nd rfl (.inl rfl)) pgs_nil))) (pg_unl (n := 2) rfl (pgs_cons (pg_name (i := 2) nd rfl (.inl rfl)) (pgs_cons (pg_name (i := 3) nd rfl (.inl rfl)) pgs_nil)))))
      (pss_cons (ps_set (i := 4) nd rfl (.inl rfl) (pe_call G_law_way (hr.mono (by first | decide | omega)) (by rfl) g_law_way F_law_way.kp b_law_way .nil pass0 (pa_cons (pv 0) (pa_cons (pv 2) (pa_cons (pv 3) pa_nil)))))
      (pss_cons (ps_if (pt_cmpR op_notN (pe_ix (kIxT K rfl) (pe_ix (kIxT K rfl) (pv 1) pe_int (fun _ _ => rfl)) (pv 2) (fun _ _ => rfl)) pe_non (nomark _)) (pss_one (ps_ret (pe_tupF (pa_cons (pe_op op_add_str pe_str (pe_callTy call_str_int (by rfl) m_str (by decide +kernel) (pa_cons (pv 2) pa_nil))) (pa_cons (pe_call Gparted (hr.mono (by first | decide | omega)) (by rfl) gparted Fparted.kp bparted .nil pass0 (pa_cons (pv 1) (pa_cons pe_int (pa_cons (pv 2) pa_nil)))) pa_nil))))) pss_nil)
      (pss_cons (ps_if (pt_cmpR op_notN (pe_ix (kIxT K rfl) (pe_ix (kIxT K rfl) (pv 1) pe_int (fun _ _ => rfl)) (pv 3) (fun _ _ => rfl)) pe_non (nomark _)) (pss_one (ps_ret (pe_tupF (pa_cons (pe_op op_add_str pe_str (pe_callTy call_str_int (by rfl) m_str (by decide +kernel) (pa_cons (pv 3) pa_nil))) (pa_cons (pe_call Gparted (hr.mono (by first | decide | omega)) (by rfl) gparted Fparted.kp bparted .nil pass0 (pa_cons (pv 1) (pa_cons pe_int (pa_cons (pv 3) pa_nil)))) pa_nil))))) pss_nil)
      (pss_cons (ps_set (i := 5) nd rfl (.inl rfl) (pe_op op_add_str (pe_op op_add_str (pe_op op_add_str pe_str (pe_callTy call_str_int (by rfl) m_str (by decide +kernel) (pa_cons (pv 2) pa_nil))) pe_str) (kJoin K rfl (pe_join pe_str (pe_lc (own := [("one", 6)]) (g := gName 6) (tt := tYes) rfl nd (kPiT K rfl (pi_tup (pv 4))) (blkOk_by (own := [("one", 6)]) (N := N_law_row) (sc := defScope s_law_row) (by decide +kernel)) (fun _ _ _ _ _ => (pg_name (i := 6) nd rfl (Or.inl rfl))) (fun _ _ _ _ _ => pts_nil) (fun _ _ _ _ _ => (pe_callTy call_str_int (by rfl) m_str (by decide +kernel) (pa_cons (pv 6) pa_nil))))))))
      (pss_one (ps_ret (pe_tupF (pa_cons (pv 5) (pa_cons (pe_callN Gjoined (hr.mono (by first | decide | omega)) (by rfl) gjoined Fjoined.kp kbjoined_other_turn pass0 (pa_cons (pv 1) (pa_cons pe_int (pa_cons (pv 2) pa_nil))) (pk_cons pe_int (pk_cons (pv 4) pk_nil))) pa_nil)))))))))), ?_⟩
    refine ⟨.ref R, rfl, R, 4, rfl, by decide, by decide, hR, fun H1 f k1 R1 hf => ?_⟩
    refine ⟨.ref R, rfl, R, 4, rfl, by decide, by decide, R1, fun H2 g k2 R2 hg => ?_⟩
    refine ⟨Nat.le_of_lt (small1000 (by show 2 ≤ 1000; decide)), fun l nl => ?_⟩
    have k12 := k1.trans k2
    have s3 : Same H2 (upd H2 l (.lst [intV f, intV g])) := same_new nl
    have h3 : (upd H2 l (.lst [intV f, intV g])) l = some (.lst [intV f, intV g]) := upd_same
    generalize upd H2 l (.lst [intV f, intV g]) = H3 at s3 h3 ⊢
    refine ⟨l, _, rfl, .inl (.inl (.inl h3)), rfl, _, _, rfl, _, _, rfl, rfl, ?_⟩
    refine ⟨.ref R, rfl, intV f, rfl, intV g, rfl, R, f, g, rfl, hf, hg, R2.same s3, fun H4 pw t k4 R4 nw fw ht tg => ?_⟩
    have k04 := (k12.same s3).trans k4
    have st4 := hst.mono (hR.tups k04)
    have dq4 : ∀ {H' : Hp}, Same H4 H' → Dq (fun _ => False) H' v (shutD S) := fun s => (st4.dq).same s
    clear k12 k4 nl h3 s3
    obtain ⟨j0, hj0⟩ := hG.l4.get (b := 0) (f := f) (by omega) hf
    obtain ⟨j1, hj1⟩ := hG.l4.get (b := 1) (f := g) (by omega) hg
    obtain ⟨p, rs, pb, vb, x, ev, f1, e1, f2, e2, jx⟩ := st4.face hj0
    obtain ⟨p', rs', pb', vb', x', ev', f1', e1', f2', e2', jx'⟩ := st4.face hj1
    subst ev
    cases ev'
    have fin : ∀ {y : Str} {S' : Spc} {H5 : Hp} {v5 : V}, Same H4 H5 → Stp S y S' → ST H5 v5 S' → ∀ p6 o6, H5 p6 = none → o6.dict = none → Q (.ref p6) (upd H5 p6 (.frz o6 (.tup [.str y, v5]))) := fun {y S' H5 v5} s5 hs st5 p6 o6 n6 d6 => by
      have s6 : Same H5 (upd H5 p6 (.frz o6 (.tup [.str y, v5]))) := same_new n6
      exact q _ p6 y v5 S' ((k04.same s5).same s6) ((R4.same s5).same s6) (FT.new d6) hs (st5.mono s6.tups)
    have nf := num_len f (by omega)
    have ng := num_len g (by omega)
    refine ⟨.ref p, rfl, p, rs, 0, .ref pb, rfl, rfl, f1.sqt, at_of (j := 0) rfl e1, intV f, rfl, pb, vb, f, x, rfl, rfl, f2.sqt, atI_nat e2, rfl, ?_⟩
    rw [jx.isN]
    cases j0 with
    | some k =>
      obtain ⟨n, t'⟩ := k
      refine ⟨_, rfl, iteT ?_⟩
      refine ⟨intV f, rfl, (f : Int), rfl, num_log (by omega), _, _, rfl, rfl, ?_, ?_⟩
      · show (Str.ofString "part 0 ").length + (numT f).length ≤ sizeLine
        rw [show (Str.ofString "part 0 ").length = 7 by decide +kernel]
        exact Nat.le_of_lt (small1000 (by omega))
      refine ⟨.ref p, rfl, intV f, rfl, fun _ => False, .ref p, _, S, 0, f, n, t', rfl, dq4 (Same.refl _), norm_shut S, hG, by omega, hj0, fun H5 v5 s5 st5 => ?_⟩
      exact ⟨Nat.le_of_lt (small1000 (by show 2 ≤ 1000; decide)), fin s5 (.p0 hf hj0) st5⟩
    | none =>
      refine ⟨_, rfl, iteF ?_⟩
      refine ⟨.ref p, rfl, p, rs', 1, .ref pb', rfl, rfl, f1'.sqt, at_of (j := 1) rfl e1', intV g, rfl, pb', vb', g, x', rfl, rfl, f2'.sqt, atI_nat e2', rfl, ?_⟩
      rw [jx'.isN]
      cases j1 with
      | some k =>
        obtain ⟨n, t'⟩ := k
        refine ⟨_, rfl, iteT ?_⟩
        refine ⟨intV g, rfl, (g : Int), rfl, num_log (by omega), _, _, rfl, rfl, ?_, ?_⟩
        · show (Str.ofString "part 1 ").length + (numT g).length ≤ sizeLine
          rw [show (Str.ofString "part 1 ").length = 7 by decide +kernel]
          exact Nat.le_of_lt (small1000 (by omega))
        refine ⟨.ref p, rfl, intV g, rfl, fun _ => False, .ref p, _, S, 1, g, n, t', rfl, dq4 (Same.refl _), norm_shut S, hG, by omega, hj1, fun H5 v5 s5 st5 => ?_⟩
        exact ⟨Nat.le_of_lt (small1000 (by show 2 ≤ 1000; decide)), fin s5 (.p1 hg hj1) st5⟩
      | none =>
        refine ⟨_, rfl, iteF ?_⟩
        have t4 := turns4 t ht
        refine ⟨intV f, rfl, (f : Int), rfl, num_log (by omega), _, _, rfl, rfl, ?_, _, _, rfl, rfl, ?_, ?_⟩
        · show (Str.ofString "join 0 ").length + (numT f).length ≤ sizeLine
          rw [show (Str.ofString "join 0 ").length = 7 by decide +kernel]
          exact Nat.le_of_lt (small1000 (by omega))
        · show (Str.ofString "join 0 " ++ numT f).length + (Str.ofString " 1:").length ≤ sizeLine
          rw [strLen_append, show (Str.ofString "join 0 ").length = 7 by decide +kernel, show (Str.ofString " 1:").length = 3 by decide +kernel]
          exact Nat.le_of_lt (small1000 (by omega))
        refine ⟨⟨_, rfl⟩, .ref pw, rfl, pw, rfl, ⟨_, fw.sqt⟩, fun D nD => ?_⟩
        refine lc_tup (xs := trnV t) (fun i H5 => H5 = upd H4 D (.lst (((t.take i).map numT).map V.str))) rfl ?_ ?_ ?_
        · rintro i H5 _ rfl
          exact (fw.mono (same_new nD).tups).sqt
        · rintro i y H5 hy rfl
          unfold trnV at hy
          rw [List.getElem?_map] at hy
          cases hti : t[i]? with
          | none =>
            rw [hti] at hy
            cases hy
          | some m =>
            rw [hti] at hy
            have ey : intV m = y := Option.some.inj hy
            subst ey
            have hm4 := t4.2.1 m (List.mem_of_getElem? hti)
            refine ⟨rfl, intV m, rfl, (m : Int), rfl, num_log (by omega), _, upd_same, small1000 (by rw [List.length_map, List.length_map, List.length_take]; omega), ?_⟩
            rw [upd_upd, List.take_add_one, hti, List.map_append, List.map_append]
            rfl
        · rintro H5 rfl
          rw [show (trnV t).length = t.length from List.length_map .., List.take_length]
          have lf := fig_le t4.1 t4.2.1
          have lsum := sum_le (ys := t.map numT) (c := 1) fun y hy => by
            obtain ⟨x, hx, rfl⟩ := List.mem_map.mp hy
            exact fig_len x (t4.2.1 x hx)
          rw [List.length_map, t4.1] at lsum
          refine ⟨_, D, t.map numT, rfl, rfl, .inl (.inl (.inl upd_same)), ?_, _, _, rfl, rfl, ?_, ?_⟩
          · rw [List.length_map, t4.1]
            exact Nat.le_trans (Nat.add_le_add lsum (Nat.le_refl _)) (by decide +kernel)
          · show (Str.ofString "join 0 " ++ numT f ++ Str.ofString " 1:").length + (figT t).length ≤ sizeLine
            rw [strLen_append, strLen_append, show (Str.ofString "join 0 ").length = 7 by decide +kernel, show (Str.ofString " 1:").length = 3 by decide +kernel]
            exact Nat.le_of_lt (small1000 (by omega))
          have s5 : Same H4 (upd H4 D (.lst ((t.map numT).map V.str))) := same_new nD
          show _
          generalize upd H4 D (.lst ((t.map numT).map V.str)) = H5 at s5 ⊢
          refine ⟨_, rfl, .ref p, rfl, intV f, rfl, .ref pw, rfl, rfl, rfl, fun _ => False, fun _ => False, .ref p, .ref pw, _, .tuple (t.map intD), S, 0, f, 1, t, rfl, dq4 s5, norm_shut S, hG, by omega, .tup (fw.mono s5.tups) (dqs_ints t), (by simp only [norm, norm_ints]), ht, hj0, by rw [tg]; exact hj1, (fun z => by injection z with z _; cases z), fun H6 v6 s6 st6 => ?_⟩
          exact ⟨Nat.le_of_lt (small1000 (by show 2 ≤ 1000; decide)), fin (s5.trans s6) (.j hf ht hj0 (by rw [tg]; exact hj1)) st6⟩
abbrev s_law_shown : Stmt := topS 175
abbrev N_law_shown : List Str := ["space"]
theorem sc_law_shown : FnScope N_law_shown ["space"] (defScope s_law_shown) := ⟨rfl, rfl, rfl, by decide +kernel, rfl, by decide +kernel, by decide +kernel⟩
theorem ok_law_shown {f fX : Addr} {fd fdX : FuncData} (F : Fun K "_law_shown" "_law_shown" s_law_shown f fd) (Fspace_text : Fun K "space_text" "space_text" sspace_text fX fdX) (gspace_text : mg "space_text" = some (.ref fX)) (bspace_text : Binds K fdX ["space"] [])
    (Pspace_text : FnP P w K mg base 3 fX fdX ["space"] (spText K)) : FnOk P w K mg base CX0 4 f fd ["space"] (spShown K) := by
  refine F.ok sc_law_shown (fun vs H Q E h => ?_) (fun cdv A outer s H vs Q E hr h => ?_)
  · obtain ⟨v, d, S, rfl, _⟩ := h
    rfl
  · obtain ⟨v, d, S, rfl, hd, hn, hS, q⟩ := h
    have nd := sc_law_shown.nd
    refine ⟨_, (pss_one (ps_ret (pe_replP Pspace_text (hr.mono (by first | decide | omega)) (by rfl) gspace_text Fspace_text.kp bspace_text (pa_cons (pv 0) pa_nil)))), ?_⟩
    refine ⟨v, rfl, fun _ => False, v, d, S, rfl, hd, hn, hS, fun H1 s1 => ?_⟩
    have tl := text_len hS
    refine ⟨_, rfl, ?_, q H1 s1⟩
    rw [show (Str.ofString "/").length = 1 by decide +kernel]
    omega
end
end Bk

/-! zip(a list, a tuple) -/
namespace Bk
open PySem PySem.Spec PyProof.Rows L2
theorem drawsT {P : Program} {w : World} {A : Around} (hh : A.handled = none) (it l : Addr) (hne : l ≠ it) (its : Array Value) :
    Draws P w A it [it, l] its.size (fun i v => its[i]? = some v) (fun i h => h.IsTupleIter it l i ∧ h.IsTuple l its) where
  live := fun _ _ st => by
    obtain ⟨o, ho, _⟩ := st.1
    exact ⟨o, ho⟩
  frame := fun _ _ _ st hk => by
    obtain ⟨⟨o1, a1, r1⟩, ⟨o2, a2, r2⟩⟩ := st
    exact ⟨⟨o1, hk it (by simp) o1 a1, r1⟩, ⟨o2, hk l (by simp) o2 a2, r2⟩⟩
  item := fun i s Q E hi st hQ => by
    obtain ⟨h1, h2⟩ := st
    refine RZ.nextOf_tuple_item h1 h2 (Array.getElem?_eq_getElem hi) fun h' h1' sb => ?_
    obtain ⟨o2, a2, r2⟩ := h2
    exact hQ _ h' s.toks (Array.getElem?_eq_getElem hi) ⟨h1', ⟨o2, sb.extBut _ _ hne a2, r2⟩⟩ sb
  done := fun s Q E st hE => RZ.nextOf_tuple_end hh st.1 st.2 (Array.getElem?_eq_none (Nat.le_refl _)) hE
/-- a list and a tuple as they stand at each turn, the items in new pairs -/
def ItzM (K : PySem.W.Frag) (a b : Addr) : It :=
  ⟨fun i H => ∃ (xs ys : List V) (x y : V), SqL K H a xs ∧ SqT K H b ys ∧ xs[i]? = some x ∧ ys[i]? = some y,
    fun i H v H' => ∃ T x y, v = .ref T ∧ H T = none ∧ H' = upd H T (.tup [x, y]) ∧ (∀ xs, SqL K H a xs → xs[i]? = some x) ∧ ∀ ys, SqT K H b ys → ys[i]? = some y,
    fun i H => ∃ xs ys : List V, SqL K H a xs ∧ SqT K H b ys ∧ ((i = xs.length ∧ i ≤ ys.length) ∨ (i = ys.length ∧ i ≤ xs.length))⟩
theorem sepM {z TI TO i1 i2 a b : Addr} (D : ZipApart z TI TO i1 i2 a b) : ZipSep2 z TI TO i1 i2 [i1, a] [i2, b] where
  TIz := D.TIz
  TOz := D.TOz
  TITO := D.TITO
  TIi1 := D.TIi1
  mem1 := by simp
  zf1 := by simp [D.i1z.symm, D.l1z.symm]
  Tf1 := by simp [D.TOi1, D.l1TO.symm]
  TIi2 := D.TIi2
  mem2 := by simp
  zf2 := by simp [D.i2z.symm, D.l2z.symm]
  Tf2 := by simp [D.TOi2, D.l2TO.symm]
  sep1_2 := by simp [D.i12, D.l2i1.symm]
  sep2_1 := by simp [D.i12.symm, D.l1i2.symm]
def five (z TI TO i1 i2 : Addr) : List Addr := [z, TI, TO, i1, i2]
theorem five_mem {z TI TO i1 i2 c : Addr} (h : c ∈ five z TI TO i1 i2) : c = z ∨ c = TI ∨ c = TO ∨ c = i1 ∨ c = i2 := by simpa [five] using h
theorem five_out {z TI TO i1 i2 c : Addr} (h : c ∉ five z TI TO i1 i2) : c ≠ z ∧ c ≠ TO ∧ c ≠ i1 ∧ c ≠ i2 := by
  refine ⟨fun e => h ?_, fun e => h ?_, fun e => h ?_, fun e => h ?_⟩ <;> (rw [e]; simp [five])
theorem turn_zipM {P : Program} {w : World} {K : PySem.W.Frag} {elts : List Expr} {kk : Nat} {tpos : Pos} {a b z TI TO i1 i2 : Addr} (D : ZipApart z TI TO i1 i2 a b) :
    Turn P w K (.Tuple elts kk tpos) (ItzM K a b) (five z TI TO i1 i2) z (fun i h => IsZip h z TI TO .none ∧ IsPair h TI (.ref i1) (.ref i2) ∧ (∃ x y, IsPair h TO x y) ∧ h.IsListIter i1 a i ∧ h.IsTupleIter i2 b i) where
  mem := by simp [five]
  obj := fun i h st c hc => by
    obtain ⟨g0, g1, ⟨x, y, g2⟩, ⟨o1, e1, _, d1⟩, ⟨o2, e2, _, d2⟩⟩ := st
    rcases five_mem hc with q | q | q | q | q <;> subst q
    · exact ⟨_, g0, fun v q => nomatch q⟩
    · exact ⟨_, g1, fun v q => nomatch q⟩
    · exact ⟨_, g2, fun v q => nomatch q⟩
    · refine ⟨o1, e1, fun v q => ?_⟩
      rw [d1] at q
      cases q
    · refine ⟨o2, e2, fun v q => ?_⟩
      rw [d2] at q
      cases q
  keep := fun i h h' st k => by
    obtain ⟨g0, g1, ⟨x, y, g2⟩, ⟨o1, e1, r1⟩, ⟨o2, e2, r2⟩⟩ := st
    have m : ∀ c, c = z ∨ c = TI ∨ c = TO ∨ c = i1 ∨ c = i2 → ∀ o, h.get? c = some o → h'.get? c = some o := fun c hc => k c (by simpa [five] using hc)
    exact ⟨m z (by simp) _ g0, m TI (by simp) _ g1, ⟨x, y, m TO (by simp) _ g2⟩, ⟨o1, m i1 (by simp) _ e1, r1⟩, ⟨o2, m i2 (by simp) _ e2, r2⟩⟩
  item := by
    intro X hP hw hK hc i pins s σ H E I hf st hg
    subst hP hw hK
    obtain ⟨g0, g1, ⟨x0, y0, g2⟩, j1, j2⟩ := st
    obtain ⟨xs, ys, x, y, qx, qy, hx, hy⟩ := hg
    obtain ⟨us, rv, pu, _⟩ := I.list qx
    obtain ⟨ws, rw', pw, _⟩ := I.tuple qy
    have lu := rv.length
    have lw := rw'.length
    have hi1 : i < xs.length := (List.getElem?_eq_some_iff.mp hx).1
    have hi2 : i < ys.length := (List.getElem?_eq_some_iff.mp hy).1
    have zl : z < s.heap.objs.size := Heap.lt_size g0
    have hh := I.ok.hd hc
    have d1 := Draws.list (prog := X.prog) (w := X.w) (A := X.A.in1) hh i1 a D.l1i1 us.toArray
    have d2 := drawsT (P := X.prog) (w := X.w) (A := X.A.in1) hh i2 b D.l2i2 ws.toArray
    refine wpAny_pyNext_zipD2_item (i := i) (sepM D) d1 d2 g0 g1 g2 ⟨j1, pu.isList⟩ ⟨j2, pw⟩ (by simp; omega) (by simp; omega) fun u u2 h' tk hu hu2 z' TO' s1' s2' hT hsz hk => ?_
    obtain ⟨v1, hv1, ru⟩ := rv.get hx
    obtain ⟨v2, hv2, ru2⟩ := rw'.get hy
    have eu : u = v1 := by
      have : us[i]? = some u := by simpa using hu
      exact Option.some.inj (this.symm.trans hv1)
    have eu2 : u2 = v2 := by
      have : ws[i]? = some u2 := by simpa using hu2
      exact Option.some.inj (this.symm.trans hv2)
    subst eu eu2
    refine ⟨_, rfl, wpAny_letOwnedTupleGo_zip (s := { s with heap := h', toks := tk }) z' fun h2 z2 sb => ?_⟩
    have hT2 : h2.get? s.heap.objs.size = some { cls := .type "tuple", data := .seq #[u, u2] } := (sb.2 _ (Nat.ne_of_gt zl)).trans hT
    have new : ObjOk X.prog X.w (upd H s.heap.objs.size (.tup [x, y])) h2 s.heap.objs.size (.tup [x, y]) :=
      ⟨(show 2 ≤ sizeLine by decide), [u, u2], .cons ru (.cons ru2 .nil), ⟨_, hT2, rfl, _, rfl⟩⟩
    have J : Inv X pins σ (upd H s.heap.objs.size (.tup [x, y])) { s with heap := h2, toks := tk } :=
      I.turnedNew (t' := tk) (ch := five z TI TO i1 i2) (fun c o hb q => by
        obtain ⟨n1, n2, n3, n4⟩ := five_out hb
        exact (sb.2 c n1).trans (hk c o n1 n2 n3 n4 q)) hf (Nat.le_refl _) new
    refine ⟨.ref s.heap.objs.size, _, J, rfl, ⟨_, x, y, rfl, I.hok.fresh (Nat.le_refl _), rfl, fun l hl => ?_, fun l hl => ?_⟩, ⟨z2, ?_, ⟨u, u2, ?_⟩, ?_, ?_⟩, fun c hcm => ?_⟩
    · rw [I.list_inj hl qx]
      exact hx
    · rw [I.tuple_inj hl qy]
      exact hy
    · exact (sb.2 _ D.TIz).trans (hk _ _ D.TIz D.TITO D.TIi1 D.TIi2 g1)
    · exact (sb.2 _ D.TOz).trans TO'
    · obtain ⟨o1, e1, r1⟩ := s1'.1
      exact ⟨o1, (sb.2 _ D.i1z).trans e1, r1⟩
    · obtain ⟨o2, e2, r2⟩ := s2'.1
      exact ⟨o2, (sb.2 _ D.i2z).trans e2, r2⟩
    · have lt : c < s.heap.objs.size := by
        rcases five_mem hcm with q | q | q | q | q <;> subst q
        · exact zl
        · exact Heap.lt_size g1
        · exact Heap.lt_size g2
        · obtain ⟨_, e1, _⟩ := j1
          exact Heap.lt_size e1
        · obtain ⟨_, e2, _⟩ := j2
          exact Heap.lt_size e2
      rw [upd_ne (Nat.ne_of_lt lt)]
      exact (hf c hcm).1
  done := by
    intro X hP hw hK hc i pins s σ H E I hf st hg
    subst hP hw hK
    obtain ⟨g0, g1, ⟨x0, y0, g2⟩, j1, j2⟩ := st
    obtain ⟨xs, ys, qx, qy, hend⟩ := hg
    obtain ⟨us, rv, pu, _⟩ := I.list qx
    obtain ⟨ws, rw', pw, _⟩ := I.tuple qy
    have lu := rv.length
    have lw := rw'.length
    have hh := I.ok.hd hc
    have d1 := Draws.list (prog := X.prog) (w := X.w) (A := X.A.in1) hh i1 a D.l1i1 us.toArray
    have d2 := drawsT (P := X.prog) (w := X.w) (A := X.A.in1) hh i2 b D.l2i2 ws.toArray
    refine wpAny_pyNext_zipD2_end (i := i) (sepM D) d1 d2 g0 g1 g2 ⟨j1, pu.isList⟩ ⟨j2, pw⟩ (by simp; omega) (by simp; omega) (by simp; omega) fun h' tk hk => ⟨rfl, ?_⟩
    exact I.turnedL (t' := tk) (ch := five z TI TO i1 i2) (fun c o hb q => by
      obtain ⟨n1, n2, n3, n4⟩ := five_out hb
      exact hk c o n1 n2 n3 n4 q) hf
  self := fun A i s Q E st h => wpAny_pyIter_zip st.1 h
abbrev zm1 (h : Heap) (a : Addr) : Heap := h.push { cls := .type "list_iterator", data := .fields #[.ref a, .int 0 0] }
abbrev zm2 (h : Heap) (a b : Addr) : Heap := (zm1 h a).push { cls := .type "tuple_iterator", data := .fields #[.ref b, .int 0 0] }
abbrev zm3 (h : Heap) (a b : Addr) : Heap := (zm2 h a b).push { cls := .type "tuple", data := .seq #[.ref h.objs.size, .ref (zm1 h a).objs.size] }
abbrev zm4 (h : Heap) (a b : Addr) : Heap := (zm3 h a b).push { cls := .type "tuple", data := .seq #[.none, .none] }
abbrev zm5 (h : Heap) (a b : Addr) : Heap := (zm4 h a b).push { cls := .type "zip", data := .fields #[.none, .bool false, .bool false, .ref (zm2 h a b).objs.size, .ref (zm3 h a b).objs.size] }
theorem meets_zipM (a b : Addr) (xs ys : Array Value) :
    Meets (Builtin.«zip.__new__» ⟨[.type "zip", .ref a, .ref b], []⟩) (fun _ R s => s.heap.IsList a xs ∧ s.heap.IsTuple b ys ∧ R (.ok (.ret (.ref (zm4 s.heap a b).objs.size))) { s with heap := zm5 s.heap a b }) :=
  .of_wp fun prog w A R s h => by
    obtain ⟨hp, g, d, tk, os⟩ := s
    obtain ⟨h1, h2, h⟩ := h
    have hsub := sub_zip
    have q1 : Heap.IsList (Shared.heap ⟨hp, g, d, tk, os⟩) a xs := h1
    have q2 : Heap.IsTuple (Shared.heap ⟨hp.push { cls := .type "list_iterator", data := .fields #[.ref a, .int 0 0] }, g, d, tk, os⟩) b ys := Heap.IsTuple.push h2 _
    wp_walk using wpAny_pyIter_list q1, wpAny_pyIter_tuple q2
    exact ⟨_, rfl, h⟩
section
variable {prog : Program} {w : World} {A : Around} {E : Value → Shared → Prop} {s : Shared}
theorem call_zipM {a b : Addr} {xs ys : Array Value} {Q : Value → Shared → Prop} (h1 : s.heap.IsList a xs) (h2 : s.heap.IsTuple b ys)
    (h : ∀ h', IsZip h' (s.heap.objs.size + 4) (s.heap.objs.size + 2) (s.heap.objs.size + 3) .none → IsPair h' (s.heap.objs.size + 2) (.ref s.heap.objs.size) (.ref (s.heap.objs.size + 1)) → IsPair h' (s.heap.objs.size + 3) .none .none →
      h'.IsListIter s.heap.objs.size a 0 → h'.IsTupleIter (s.heap.objs.size + 1) b 0 → (∀ c o, s.heap.get? c = some o → h'.get? c = some o) → Q (.ref (s.heap.objs.size + 4)) { s with heap := h' }) :
    wpAny (model prog w) A (call (.type "zip") [.ref a, .ref b]) Q E s := by
  refine callType_new F.called_zip (by decide) (F.typeCall_zip_2 _ _) (F.newCall_zip_2 _ _) (fun obj => F.args_object_init_3 obj _ _) F.entry_zip_new (meets_zipM a b xs ys) ⟨h1, h2, ?_⟩
  generalize hh : s.heap = hp at h ⊢
  have n1 : (zm1 hp a).objs.size = hp.objs.size + 1 := Heap.size_push ..
  have n2 : (zm2 hp a b).objs.size = hp.objs.size + 2 := (Heap.size_push ..).trans (congrArg (· + 1) n1)
  have n3 : (zm3 hp a b).objs.size = hp.objs.size + 3 := (Heap.size_push ..).trans (congrArg (· + 1) n2)
  have n4 : (zm4 hp a b).objs.size = hp.objs.size + 4 := (Heap.size_push ..).trans (congrArg (· + 1) n3)
  have at5 : (zm5 hp a b).get? (zm4 hp a b).objs.size = some _ := Heap.get?_push_size _ rfl
  have at4 : (zm5 hp a b).get? (zm3 hp a b).objs.size = some _ := Heap.get?_push_of_some _ (Heap.get?_push_size _ rfl)
  have at3 : (zm5 hp a b).get? (zm2 hp a b).objs.size = some _ := Heap.get?_push_of_some _ (Heap.get?_push_of_some _ (Heap.get?_push_size _ rfl))
  have at2 : (zm5 hp a b).get? (zm1 hp a).objs.size = some _ := Heap.get?_push_of_some _ (Heap.get?_push_of_some _ (Heap.get?_push_of_some _ (Heap.get?_push_size _ rfl)))
  have at1 : (zm5 hp a b).get? hp.objs.size = some _ := Heap.get?_push_of_some _ (Heap.get?_push_of_some _ (Heap.get?_push_of_some _ (Heap.get?_push_of_some _ (Heap.get?_push_size _ rfl))))
  show _ ∧ _
  rw [n2, n3, n4] at at5
  rw [n1, n2] at at3
  rw [n3] at at4
  rw [n1] at at2
  rw [n4]
  exact ⟨⟨_, at5, rfl⟩, h _ at5 at3 at4 ⟨_, at1, rfl, rfl⟩ ⟨_, at2, rfl, rfl⟩ fun c o x => by
    refine Heap.get?_push_of_some _ ?_
    refine Heap.get?_push_of_some _ ?_
    refine Heap.get?_push_of_some _ ?_
    exact Heap.get?_push_of_some _ (Heap.get?_push_of_some _ x)⟩
end
/-- zip(a list, a tuple) is walked -/
def iZipM (K : PySem.W.Frag) (ta : TA) : TI := fun σ H R => ta σ H fun vs H1 => ∃ a b xs ys, vs = [.ref a, .ref b] ∧ SqL K H1 a xs ∧ SqT K H1 b ys ∧ R (ItzM K a b) H1
theorem pi_zipM {X : Cx} {e e2 : Expr} {ta : TA} {p pos tpos : Pos} {elts : List Expr} {kk : Nat} (hg : Gl X "zip") (hm : X.mg "zip" = none) (ha : PA X [e, e2] ta)
    (hs : starEach [e, e2] X.env = (false, eval e X.env) :: starEach [e2] X.env := by rfl) (hpl : (backTo pos (starEach [e2] X.env)).any (·.1) = false := by rfl) :
    PI X (.Tuple elts kk tpos) (.Call (.Name "zip" p) [e, e2] [] pos) (iZipM X.K ta) := by
  refine ⟨fun pins s σ H R I h => ?_⟩
  refine Call_ (ld_blt I hg hm PyProof.Rows.boot_zip (PyProof.Rows.callWith_type1 (thn (ha.run pos pins s σ H _ I h) fun us s1 got => ?_) hs hpl))
  obtain ⟨vs, H1, J, rv0, a, b, xs, ys, ex, qx, qy, q⟩ := got
  subst ex
  obtain ⟨u1, u2, eu, ra, rb⟩ := vals2 rv0
  obtain rfl : u1 = Value.ref a := ra
  obtain rfl : u2 = Value.ref b := rb
  subst eu
  have fresh : ∀ c, c ∈ five (s1.heap.objs.size + 4) (s1.heap.objs.size + 2) (s1.heap.objs.size + 3) s1.heap.objs.size (s1.heap.objs.size + 1) → FpOk X pins H1 c := fun c hcm => by
    have le : s1.heap.objs.size ≤ c := by
      rcases five_mem hcm with z | z | z | z | z <;> (rw [z]; first | exact Nat.le_refl _ | exact Nat.le_add_right _ _)
    exact J.fpOk le (J.hok.fresh le)
  obtain ⟨us, rv, pu, _⟩ := J.list qx
  obtain ⟨ws, rw', pw, _⟩ := J.tuple qy
  obtain ⟨o1, ho1, _⟩ := pu.isList
  obtain ⟨o2, ho2, _⟩ := id pw
  refine call_zipM pu.isList (show s1.heap.IsTuple b ws.toArray from pw) fun h' g0 g1 g2 j1 j2 hk => wpAny_pyIter_zip g0 ?_
  exact ⟨_, five _ _ _ _ _, _, _, H1, rfl, J.kept (t' := s1.toks) hk, turn_zipM (PySem.W.ktu_apart s1.heap.objs.size a b (Heap.lt_size ho1) (Heap.lt_size ho2)), ⟨g0, g1, ⟨_, _, g2⟩, j1, j2⟩, fresh, q⟩
theorem kPiM {X : Cx} (K : PySem.W.Frag) {tg l : Expr} {ta : TA} (h : X.K = K) (x : PI X tg l (iZipM X.K ta)) : PI X tg l (iZipM K ta) := h ▸ x
theorem walk_zipM {K : PySem.W.Frag} {a b : Addr} {xs ys : List V} : Walk (ItzM K a b) (min xs.length ys.length) (fun H => SqL K H a xs ∧ SqT K H b ys) (YPair (fun i => xs[i]?) (fun i => ys[i]?)) := by
  refine ⟨fun i _ hi q => ?_, fun _ q => ⟨xs, ys, q.1, q.2, by omega⟩, fun i H v H' _ q y => ?_⟩
  · exact ⟨xs, ys, _, _, q.1, q.2, List.getElem?_eq_getElem (show i < xs.length by omega), List.getElem?_eq_getElem (show i < ys.length by omega)⟩
  · obtain ⟨T, x, z, z1, z2, z3, z4, z5⟩ := y
    exact ⟨T, x, z, z1, z2, z3, z4 xs q.1, z5 ys q.2⟩
end Bk

namespace Bk
open PySem PySem.Spec PyProof.Rows L2 RZ TL
local macro_rules | `(tactic| walk_at "g") => `(tactic| (repeat first | refine ⟨_, rfl, ?_⟩ | refine ⟨cpow, ?_⟩ | refine ⟨_, _, rfl, rfl, ?_⟩ | refine ⟨rfl, ?_⟩))
section
variable {P : Program} {w : World} {K : PySem.W.Frag} {mg : Str → Option Value} {base : Heap}
/-! ### what a desk reads -/
theorem numL_len : ∀ n < 64, (numL n).length ≤ 4300 := by
  intro n hn
  have : ∀ n < 64, (numL n).length ≤ 4300 := by decide +kernel
  exact this n hn
abbrev s_number_read : Stmt := topS 147
abbrev N_number_read : List Str := ["word"]
theorem sc_number_read : FnScope N_number_read ["word"] (defScope s_number_read) := ⟨rfl, rfl, rfl, by decide +kernel, rfl, by decide +kernel, by decide +kernel⟩
def spNumR : Sp := fun vs H Q _ => ∃ n : Nat, vs = [.str (numT n)] ∧ n < 64 ∧ ∀ H', Same H H' → Q (intV n) H'
theorem ok_number_read {f fN : Addr} {fd fdN : FuncData} {tM : Tok} (F : Fun K "_number_read" "_number_read" s_number_read f fd) (Fis_number_word : Fun K "is_number_word" "is_number_word" sis_number_word fN fdN) (gis_number_word : mg "is_number_word" = some (.ref fN)) (bis_number_word : Binds K fdN ["word"] [])
    (Gis_number_word : FnOk P w K mg base CX0 1 fN fdN ["word"] spNumW) (g_MOST_FIGURES : mg "MOST_FIGURES" = some (.int 30 tM)) (m_len : mg "len" = none) (m_int : mg "int" = none) : FnOk P w K mg base CX0 2 f fd ["word"] spNumR := by
  have r_MOST_FIGURES : RelV (V.int 30) (.int 30 tM) := ⟨_, rfl⟩
  refine F.ok sc_number_read (fun vs H Q E h => ?_) (fun cdv A outer s H vs Q E hr h => ?_)
  · obtain ⟨n, rfl, _⟩ := h
    rfl
  · obtain ⟨n, rfl, hn, q⟩ := h
    have nd := sc_number_read.nd
    refine ⟨_, (pss_cons (ps_if (pw_or (pt_not (pt_val (pe_call Gis_number_word (hr.mono (by first | decide | omega)) (by rfl) gis_number_word Fis_number_word.kp bis_number_word .nil pass0 (pa_cons (pv 0) pa_nil)))) (pw_or1 (pt_cmpR op_gt (pe_callB call_len_str (by rfl) m_len (by decide +kernel) (pa_cons (pv 0) pa_nil)) (pe_glob (by rfl) g_MOST_FIGURES r_MOST_FIGURES) (nomark _)))).pt (pss_one ps_never) pss_nil)
      (pss_one (ps_ret (pe_callTy call_int_str (by rfl) m_int (by decide +kernel) (pa_cons (pv 0) pa_nil))))), ?_⟩
    have nl := num_len n hn
    refine ⟨.str (numT n), rfl, numT n, rfl, by omega, fun H1 s1 => ?_⟩
    rw [num_word n hn]
    refine ⟨_, rfl, iteF ?_⟩
    refine ⟨.str (numT n), rfl, numT n, rfl, Nat.le_of_lt (small1000 (by omega)), _, _, rfl, rfl, _, rfl, ?_⟩
    rw [show decide ((30 : Int) < ((numT n).length : Int)) = false from decide_eq_false (by omega)]
    refine iteF ?_
    exact ⟨.str (numT n), rfl, numT n, (n : Int), rfl, int_num (by have := numL_len n hn; omega), by omega, q H1 s1⟩
abbrev s_joining_read : Stmt := topS 148
abbrev N_joining_read : List Str := ["word", "number", "_", "figures", "figure"]
theorem sc_joining_read : FnScope N_joining_read ["word"] (defScope s_joining_read) := ⟨rfl, rfl, rfl, by decide +kernel, rfl, by decide +kernel, by decide +kernel⟩
def spJoinR : Sp := fun vs H Q _ => ∃ (n : Nat) (t : Trn), vs = [.str (wordT (some (n, t)))] ∧ n < 64 ∧ t ∈ allTurns ∧ ∀ H' v, Same H H' → JAt H' v (some (n, t)) → Q v H'
theorem ok_joining_read {f fN fJ : Addr} {fd fdN fdJ : FuncData} (F : Fun K "_joining_read" "_joining_read" s_joining_read f fd) (Fis_joining_word : Fun K "is_joining_word" "is_joining_word" sis_joining_word fJ fdJ) (gis_joining_word : mg "is_joining_word" = some (.ref fJ)) (bis_joining_word : Binds K fdJ ["word"] [])
    (Gis_joining_word : FnOk P w K mg base CX0 2 fJ fdJ ["word"] spJoinW) (F_number_read : Fun K "_number_read" "_number_read" s_number_read fN fdN) (g_number_read : mg "_number_read" = some (.ref fN)) (b_number_read : Binds K fdN ["word"] [])
    (G_number_read : FnOk P w K mg base CX0 2 fN fdN ["word"] spNumR) (m_int : mg "int" = none) (m_tuple : mg "tuple" = none) : FnOk P w K mg base CX0 3 f fd ["word"] spJoinR := by
  refine F.ok sc_joining_read (fun vs H Q E h => ?_) (fun cdv A outer s H vs Q E hr h => ?_)
  · obtain ⟨n, t, rfl, _⟩ := h
    rfl
  · obtain ⟨n, t, rfl, hn, ht, q⟩ := h
    have nd := sc_joining_read.nd
    refine ⟨_, (pss_cons (ps_if (pt_not (pt_val (pe_call Gis_joining_word (hr.mono (by first | decide | omega)) (by rfl) gis_joining_word Fis_joining_word.kp bis_joining_word .nil pass0 (pa_cons (pv 0) pa_nil)))) (pss_one ps_never) pss_nil)
      (pss_cons (ps_asg (pe_partition (pv 0) pe_str) (kPgT K rfl (pg_tup (n := 3) rfl (pgs_cons (pg_name (i := 1) nd rfl (.inl rfl)) (pgs_cons (pg_name (i := 2) nd rfl (.inl rfl)) (pgs_cons (pg_name (i := 3) nd rfl (.inl rfl)) pgs_nil))))))
      (pss_one (ps_ret (pe_tupF (pa_cons (pe_call G_number_read (hr.mono (by first | decide | omega)) (by rfl) g_number_read F_number_read.kp b_number_read .nil pass0 (pa_cons (pv 1) pa_nil)) (pa_cons (pe_callTy (kTupleF K rfl) (by rfl) m_tuple (by decide +kernel) (pa_cons (pe_lc (own := [("figure", 4)]) (g := gName 4) (tt := tYes) rfl nd (pi_str (pv 3)) (blkOk_by (own := [("figure", 4)]) (N := N_joining_read) (sc := defScope s_joining_read) (by decide +kernel)) (fun _ _ _ _ _ => (pg_name (i := 4) nd rfl (Or.inl rfl))) (fun _ _ _ _ _ => pts_nil) (fun _ _ _ _ _ => (pe_callTy call_int_str (by rfl) m_int (by decide +kernel) (pa_cons (pv 4) pa_nil)))) pa_nil)) pa_nil))))))), ?_⟩
    have hj : Jt (some (n, t)) := fun a b e => by
      injection e with e
      injection e with e1 e2
      subst e1 e2
      exact ⟨hn, ht⟩
    have hb := hj.jb
    obtain ⟨h1, h2, h3⟩ := hb n t rfl
    have wl := word_len hb
    have wm := word_mem hb
    refine ⟨.str (wordT (some (n, t))), rfl, wordT (some (n, t)), rfl, by omega, (fun c hc => by have := wm c hc; omega), fun H1 s1 => ?_⟩
    rw [show isJoinW (wordT (some (n, t))) = true by
      unfold isJoinW
      rw [word_part]
      show (isNumW (numT n) && isTurnW (figT t)) = true
      rw [num_word n hn, turn_word t ht]
      rfl]
    refine ⟨_, rfl, iteF ?_⟩
    refine ⟨.str (wordT (some (n, t))), rfl, ⟨_, rfl⟩, wordT (some (n, t)), Str.ofString ":", rfl, rfl, by decide +kernel, Nat.le_of_lt (small1000 (by omega)), fun p np => ?_⟩
    rw [word_part]
    refine ⟨p, _, rfl, .inl (.inl upd_same), rfl, _, _, rfl, _, _, rfl, _, _, rfl, rfl, ?_⟩
    have s2 : Same H1 (upd H1 p (.tup [.str (numT n), .str (Str.ofString ":"), .str (figT t)])) := same_new np
    show _
    generalize upd H1 p (.tup [.str (numT n), .str (Str.ofString ":"), .str (figT t)]) = H2 at s2 ⊢
    refine ⟨.str (numT n), rfl, n, rfl, hn, fun H3 s3 => ?_⟩
    refine ⟨.str (figT t), rfl, figT t, rfl, fun D nD => ?_⟩
    have tf := tl_fig h3
    have lf : (figT t).cps.size = t.length := by
      have := len_tl (figT t)
      rw [tf, List.length_map] at this
      exact this
    refine lc_it walk_str (fun i H4 => H4 = upd H3 D (.lst ((t.take i).map intV))) rfl (fun _ _ _ _ => trivial) ?_ ?_
    · rintro i v H4 H5 hi rfl ⟨rfl, c, hc, rfl⟩
      have hc' : (tl (figT t))[i]? = some c := by rw [← hc]; exact Array.getElem?_toList
      rw [tf, List.getElem?_map] at hc'
      cases hx : t[i]? with
      | none =>
        rw [hx] at hc'
        cases hc'
      | some x =>
        rw [hx] at hc'
        have ec : 48 + x = c := Option.some.inj hc'
        subst ec
        have hx4 := h3 x (List.mem_of_getElem? hx)
        have es : (⟨#[48 + x]⟩ : Str) = numT x := ext_tl (by
          rw [tl_numT, numL_lt (by omega)])
        rw [es]
        refine ⟨rfl, .str (numT x), rfl, numT x, (x : Int), rfl, int_num (by rw [numL_lt (by omega)]; show 1 ≤ 4300; decide), by have := num_len x (by omega); omega, _, upd_same, small1000 (by rw [List.length_map, List.length_take]; omega), ?_⟩
        rw [upd_upd, List.take_add_one, hx, List.map_append]
        rfl
    · rintro H4 rfl
      rw [lf, List.take_length]
      have s4 : Same H3 (upd H3 D (.lst (t.map intV))) := same_new nD
      have h4 : (upd H3 D (.lst (t.map intV))) D = some (.lst (t.map intV)) := upd_same
      generalize upd H3 D (.lst (t.map intV)) = H4 at s4 h4 ⊢
      refine ⟨D, _, rfl, .inl ⟨.inl (.inl h4), fun p5 o5 n5 d5 => ?_⟩⟩
      have s5 : Same H4 (upd H4 p5 (.frz o5 (.tup (t.map intV)))) := same_new n5
      have f5 : FT (upd H4 p5 (.frz o5 (.tup (t.map intV)))) p5 (trnV t) := FT.new d5
      generalize upd H4 p5 (.frz o5 (.tup (t.map intV))) = H5 at s5 f5 ⊢
      refine ⟨Nat.le_of_lt (small1000 (by show 2 ≤ 1000; decide)), fun p6 o6 n6 d6 => ?_⟩
      have s6 : Same H5 (upd H5 p6 (.frz o6 (.tup [intV n, .ref p5]))) := same_new n6
      exact q _ _ (((((s1.trans s2).trans s3).trans s4).trans s5).trans s6) ⟨p6, p5, rfl, FT.new d6, f5.mono s6.tups⟩
/-- a row's things: numbers and joinings -/
inductive It
  | num (n : Nat)
  | jn (n : Nat) (t : Trn)
def It.word : It → Str
  | .num n => numT n
  | .jn n t => wordT (some (n, t))
def It.kind : It → Str
  | .num _ => Str.ofString "number"
  | .jn _ _ => Str.ofString "joining"
def It.ok : It → Prop
  | .num n => n < 64
  | .jn n t => n < 64 ∧ t ∈ allTurns
def It.at (H : Hp) (v : V) : It → Prop
  | .num n => v = intV n
  | .jn n t => JAt H v (some (n, t))
abbrev s_word_read : Stmt := topS 146
abbrev N_word_read : List Str := ["word", "kind", "part"]
theorem sc_word_read : FnScope N_word_read ["word", "kind"] (defScope s_word_read) := ⟨rfl, rfl, rfl, by decide +kernel, rfl, by decide +kernel, by decide +kernel⟩
def spWordR : Sp := fun vs H Q _ => ∃ i : It, vs = [.str i.word, .str i.kind] ∧ i.ok ∧ ∀ H' v, Same H H' → i.at H' v → Q v H'
theorem ok_word_read {f fN fJ : Addr} {fd fdN fdJ : FuncData} (F : Fun K "_word_read" "_word_read" s_word_read f fd) (F_number_read : Fun K "_number_read" "_number_read" s_number_read fN fdN) (g_number_read : mg "_number_read" = some (.ref fN)) (b_number_read : Binds K fdN ["word"] [])
    (G_number_read : FnOk P w K mg base CX0 2 fN fdN ["word"] spNumR) (F_joining_read : Fun K "_joining_read" "_joining_read" s_joining_read fJ fdJ) (g_joining_read : mg "_joining_read" = some (.ref fJ)) (b_joining_read : Binds K fdJ ["word"] [])
    (G_joining_read : FnOk P w K mg base CX0 3 fJ fdJ ["word"] spJoinR) : FnOk P w K mg base CX0 4 f fd ["word", "kind"] spWordR := by
  refine F.ok sc_word_read (fun vs H Q E h => ?_) (fun cdv A outer s H vs Q E hr h => ?_)
  · obtain ⟨i, rfl, _⟩ := h
    rfl
  · obtain ⟨i, rfl, hi, q⟩ := h
    have nd := sc_word_read.nd
    refine ⟨_, (pss_cons (ps_if (pt_cmpR op_eq (pv 1) pe_str (nomark _)) (pss_one (ps_ret (pe_call G_joining_read (hr.mono (by first | decide | omega)) (by rfl) g_joining_read F_joining_read.kp b_joining_read .nil pass0 (pa_cons (pv 0) pa_nil)))) pss_nil)
      (pss_cons (ps_if (pt_cmpR op_eq (pv 1) pe_str (nomark _)) (pss_one (ps_ret (pe_lc (own := [("part", 2)]) (g := gName 2) (tt := tYes) rfl nd (kPiL K rfl (pi_list (pe_split (pv 0) pe_str))) (blkOk_by (own := [("part", 2)]) (N := N_word_read) (sc := defScope s_word_read) (by decide +kernel)) (fun _ _ _ _ _ => (pg_name (i := 2) nd rfl (Or.inl rfl))) (fun _ _ _ _ _ => pts_nil) (fun _ _ _ _ _ => (pe_call G_number_read (hr.mono (by first | decide | omega)) (by rfl) g_number_read F_number_read.kp b_number_read .nil pass0 (pa_cons (pv 2) pa_nil)))))) pss_nil)
      (pss_one (ps_ret (pe_call G_number_read (hr.mono (by first | decide | omega)) (by rfl) g_number_read F_number_read.kp b_number_read .nil pass0 (pa_cons (pv 0) pa_nil)))))), ?_⟩
    cases i with
    | jn n t =>
      obtain ⟨hn, ht⟩ := hi
      refine ⟨.str (Str.ofString "joining"), rfl, rfl, true, rfl, iteT ?_⟩
      exact ⟨.str (wordT (some (n, t))), rfl, n, t, rfl, hn, ht, fun H1 v s1 j1 => q H1 v s1 j1⟩
    | num n =>
      refine ⟨.str (Str.ofString "number"), rfl, rfl, false, rfl, iteF ?_⟩
      refine ⟨.str (Str.ofString "number"), rfl, rfl, false, rfl, iteF ?_⟩
      exact ⟨.str (numT n), rfl, n, rfl, hi, fun H1 s1 => q H1 _ s1 rfl⟩
end
end Bk

namespace Bk
open PySem PySem.Spec PyProof.Rows L2 RZ TL
local macro_rules | `(tactic| walk_at "g") => `(tactic| (repeat first | refine ⟨_, rfl, ?_⟩ | refine ⟨cpow, ?_⟩ | refine ⟨_, _, rfl, rfl, ?_⟩ | refine ⟨rfl, ?_⟩))
/-- the written table of forms: a first word and the kinds of those behind it -/
def FormAt (K : PySem.W.Frag) (w : World) (d : Addr) (w0 : Str) (ks : List Str) : Prop := ∃ tk, KDct K w d w0 (.ref tk) ∧ ∀ H, SqT K H tk (ks.map V.str)
def rowT (w0 : Str) (its : List It) : Str := Txt.join (Str.ofString " ") (w0 :: its.map It.word)
theorem It.free {i : It} (h : i.ok) : 32 ∉ tl i.word ∧ i.word.length ≤ 10 := by
  cases i with
  | num n =>
    have hn : n < 64 := h
    have nl := num_len n hn
    refine ⟨?_, by show (numT n).length ≤ 10; omega⟩
    show 32 ∉ tl (numT n)
    rw [tl_numT]
    exact numL_free (by omega)
  | jn n t =>
    obtain ⟨hn, ht⟩ := h
    have hj : Jt (some (n, t)) := fun a b e => by
      injection e with e
      injection e with e1 e2
      subst e1 e2
      exact ⟨hn, ht⟩
    have := word_len hj.jb
    exact ⟨(word_free hj.jb).1, by show (wordT (some (n, t))).length ≤ 10; omega⟩
theorem It.at.mono {i : It} {H H' : Hp} {v : V} (h : i.at H v) (m : Tups H H') : i.at H' v := by
  cases i with
  | num n => exact h
  | jn n t =>
    have h : JAt H v (some (n, t)) := h
    exact h.mono m
section
variable {P : Program} {w : World} {K : PySem.W.Frag} {mg : Str → Option Value} {base : Heap}
abbrev s_read : Stmt := topS 145
abbrev N_read : List Str := ["row", "words", "kinds", "word", "kind"]
theorem sc_read : FnScope N_read ["row"] (defScope s_read) := ⟨rfl, rfl, rfl, by decide +kernel, rfl, by decide +kernel, by decide +kernel⟩
def spReadD (K : PySem.W.Frag) (w : World) (d : Addr) : Sp := fun vs H Q _ => ∃ (w0 : Str) (its : List It), vs = [.str (rowT w0 its)] ∧ FormAt K w d w0 (its.map It.kind) ∧ 32 ∉ tl w0 ∧ w0.length ≤ 10 ∧ its.length ≤ 3 ∧ (∀ i ∈ its, i.ok) ∧
  ∀ H' l vs, Same H H' → H l = none → H' l = some (.lst (.str w0 :: vs)) → Paired (fun v i => It.at H' v i) vs its → Q (.ref l) H'
theorem ok_read {f fW dF : Addr} {fd fdW : FuncData} {esF : Array DictEntry} {nF : Nat} (F : Fun K "_read" "_read" s_read f fd) (F_word_read : Fun K "_word_read" "_word_read" s_word_read fW fdW) (g_word_read : mg "_word_read" = some (.ref fW)) (b_word_read : Binds K fdW ["word", "kind"] [])
    (G_word_read : FnOk P w K mg base CX0 4 fW fdW ["word", "kind"] spWordR) (g_FORMS : mg "FORMS" = some (.ref dF)) (DF : KDict K w dF esF nF)
    (m_isinstance : mg "isinstance" = none) (m_str : mg "str" = none) (m_len : mg "len" = none) (m_zip : mg "zip" = none) : FnOk P w K mg base CX0 5 f fd ["row"] (spReadD K w dF) := by
  have r_FORMS : RelV (V.ref dF) (.ref dF) := rfl
  refine F.ok sc_read (fun vs H Q E h => ?_) (fun cdv A outer s H vs Q E hr h => ?_)
  · obtain ⟨w0, its, rfl, _⟩ := h
    rfl
  · obtain ⟨w0, its, rfl, ⟨tk, kd, hk⟩, hw1, hw2, hl, hi0, q⟩ := h
    have nd := sc_read.nd
    refine ⟨_, (pss_cons (ps_set (i := 1) nd rfl (.inl rfl) (pe_ifExp (pt_val (pe_callB (kIsi K rfl) (by rfl) m_isinstance (by decide +kernel) (pa_cons (pv 0) (pa_cons (pe_bltn (v := .ty "str") (by rfl) m_str (by decide +kernel) rfl) pa_nil)))) (pe_split (pv 0) pe_str) (pe_lst (pa_cons pe_str pa_nil))))
      (pss_cons (ps_if (pt_cmpR (op_notIn_kd DF) (pe_ix (kIxL K rfl) (pv 1) pe_int (fun _ _ => rfl)) (pe_glob (by rfl) g_FORMS r_FORMS) (by rfl)) (pss_one ps_never) pss_nil)
      (pss_cons (ps_set (i := 2) nd rfl (.inl rfl) (pe_ix ix_kdict (pe_glob (by rfl) g_FORMS r_FORMS) (pe_ix (kIxL K rfl) (pv 1) pe_int (fun _ _ => rfl)) (fun _ _ => rfl)))
      (pss_cons (ps_if (pt_cmpR op_ne (pe_callB (kLen K rfl) (by rfl) m_len (by decide +kernel) (pa_cons (pv 1) pa_nil)) (pe_op op_add pe_int (pe_callB (kLen K rfl) (by rfl) m_len (by decide +kernel) (pa_cons (pv 2) pa_nil))) (nomark _)) (pss_one ps_never) pss_nil)
      (pss_one (ps_ret (pe_op op_cat (pe_lst (pa_cons (pe_ix (kIxL K rfl) (pv 1) pe_int (fun _ _ => rfl)) pa_nil)) (pe_lc (own := [("word", 3), ("kind", 4)]) (tt := tYes) rfl nd (kPiM K rfl (pi_zipM (by rfl) m_zip (pa_cons (pe_slice (kSlL K rfl) (pv 1) (po_some pe_int) po_none) (pa_cons (pv 2) pa_nil)))) (blkOk_by (own := [("word", 3), ("kind", 4)]) (N := N_read) (sc := defScope s_read) (by decide +kernel)) (fun _ _ _ _ _ => (kPgT K rfl (pg_tup (n := 2) rfl (pgs_cons (pg_name (i := 3) nd rfl (Or.inl rfl)) (pgs_cons (pg_name (i := 4) nd rfl (Or.inl rfl)) pgs_nil))))) (fun _ _ _ _ _ => pts_nil) (fun _ _ _ _ _ => (pe_call G_word_read (hr.mono (by first | decide | omega)) (by rfl) g_word_read F_word_read.kp b_word_read .nil pass0 (pa_cons (pv 3) (pa_cons (pv 4) pa_nil)))))))))))), ?_⟩
    have lr : (rowT w0 its).length ≤ 100 := by
      have h1 : (rowT w0 its).length ≤ (w0 :: its.map It.word).length * 10 + (w0 :: its.map It.word).length * (Str.ofString " ").length := join_le fun y hy => by
        rcases List.mem_cons.mp hy with z | z
        · rw [z]
          exact hw2
        · obtain ⟨i, hi', rfl⟩ := List.mem_map.mp z
          exact (It.free (hi0 i hi')).2
      rw [show (Str.ofString " ").length = 1 by decide +kernel, List.length_cons, List.length_map] at h1
      omega
    have sp : Txt.split (rowT w0 its) (Str.ofString " ") = w0 :: its.map It.word := split_join (s := 32) (S := []) (by decide +kernel) (by decide +kernel) (List.cons_ne_nil _ _) fun y hy => by
      rcases List.mem_cons.mp hy with z | z
      · rw [z]
        exact hw1
      · obtain ⟨i, hi', rfl⟩ := List.mem_map.mp z
        exact (It.free (hi0 i hi')).1
    obtain ⟨es, n, u, k1, k2, k3, k4⟩ := id kd
    refine ⟨.str (rowT w0 its), rfl, .str (rowT w0 its), .ty "str", _, .type "str", true, rfl, .ty _, .base (.str _), kit_ty (a := "str") (b := "str") (show kitB "str" "str" = some true by decide +kernel), _, rfl, iteT ?_⟩
    refine ⟨.str (rowT w0 its), rfl, ⟨_, rfl⟩, rowT w0 its, Str.ofString " ", rfl, rfl, by decide +kernel, by rw [sizeLine_eq]; omega, fun p np => ?_⟩
    rw [sp]
    have s1 : Same H (upd H p (.lst ((w0 :: its.map It.word).map V.str))) := same_new np
    have h1 : (upd H p (.lst ((w0 :: its.map It.word).map V.str))) p = some (.lst (.str w0 :: (its.map It.word).map V.str)) := upd_same
    generalize upd H p (.lst ((w0 :: its.map It.word).map V.str)) = H1 at s1 h1 ⊢
    refine ⟨.ref p, rfl, p, _, 0, .str w0, rfl, rfl, .inl (.inl h1), atI_nat (j := 0) rfl, w0, some u, rfl, rfl, k3, _, rfl, iteF ?_⟩
    refine ⟨.ref p, rfl, p, _, 0, .str w0, rfl, rfl, .inl (.inl h1), atI_nat (j := 0) rfl, dF, w0, .ref tk, rfl, rfl, kd, ?_⟩
    refine ⟨.ref p, rfl, p, _, rfl, .inl (.inl (.inl h1)), .ref tk, rfl, tk, _, rfl, .inr (hk _), _, _, rfl, rfl, rfl, _, rfl, ?_⟩
    refine iteNS (by simp; omega) ?_
    refine ⟨.ref p, rfl, p, _, 0, .str w0, rfl, rfl, .inl (.inl h1), atI_nat (j := 0) rfl, Nat.le_of_lt (small1000 (by show 1 ≤ 1000; decide)), fun l1 nl1 => ?_⟩
    have s2 : Same H1 (upd H1 l1 (.lst [.str w0])) := same_new nl1
    have h2 : (upd H1 l1 (.lst [.str w0])) l1 = some (.lst [.str w0]) := upd_same
    generalize upd H1 l1 (.lst [.str w0]) = H2 at s2 h2 ⊢
    refine ⟨.ref p, rfl, ?_⟩
    walk_at "g"
    refine ⟨p, _, rfl, .inl (.inl (s2 _ _ h1)), fun p3 np3 => ?_⟩
    rw [cut_from1]
    have s3 : Same H2 (upd H2 p3 (.lst (((.str w0 :: (its.map It.word).map V.str) : List V).drop 1))) := same_new np3
    have h3 : (upd H2 p3 (.lst (((.str w0 :: (its.map It.word).map V.str) : List V).drop 1))) p3 = some (.lst ((its.map It.word).map V.str)) := upd_same
    generalize upd H2 p3 (.lst (((.str w0 :: (its.map It.word).map V.str) : List V).drop 1)) = H3 at s3 h3 ⊢
    refine ⟨.ref tk, rfl, p3, tk, _, _, rfl, .inl (.inl h3), hk _, fun D nD => ?_⟩
    have lm : min ((its.map It.word).map V.str).length ((its.map It.kind).map V.str).length = its.length := by simp
    refine lc_it walk_zipM (fun i H4 => ∃ vs, H4 D = some (.lst vs) ∧ Paired (fun v i => It.at H4 v i) vs (its.take i) ∧ Same H3 H4) ⟨[], upd_same, .nil, same_new nD⟩ (fun i H4 _ ⟨vs, h4, p4, s4⟩ => ⟨s4.seq (.inl (.inl h3)), hk _⟩) ?_ ?_
    · rintro i v H4 H5 hi ⟨vs, h4, p4, s4⟩ ⟨T, x, y, rfl, nT, rfl, hx, hy⟩
      rw [lm] at hi
      have ei : its[i]? = some its[i] := List.getElem?_eq_getElem hi
      have ex : V.str its[i].word = x := by
        have hx : ((its.map It.word).map V.str)[i]? = some x := hx
        rw [List.getElem?_map, List.getElem?_map, ei] at hx
        exact Option.some.inj hx
      have ey : V.str its[i].kind = y := by
        have hy : ((its.map It.kind).map V.str)[i]? = some y := hy
        rw [List.getElem?_map, List.getElem?_map, ei] at hy
        exact Option.some.inj hy
      subst ex ey
      have s5 : Same H4 (upd H4 T (.tup [.str its[i].word, .str its[i].kind])) := same_new nT
      refine ⟨T, [.str its[i].word, .str its[i].kind], rfl, .inl (.inl upd_same), rfl, .str its[i].word, [.str its[i].kind], rfl, .str its[i].kind, [], rfl, rfl, rfl, ?_⟩
      generalize upd H4 T (.tup [.str its[i].word, .str its[i].kind]) = H5 at s5 ⊢
      refine ⟨.str its[i].word, rfl, .str its[i].kind, rfl, its[i], rfl, hi0 _ (List.getElem_mem hi), fun H6 v6 s6 a6 => ?_⟩
      have h6 := s6 _ _ (s5 _ _ h4)
      refine ⟨vs, h6, small1000 (by rw [plen p4, List.length_take]; omega), vs ++ [v6], upd_same, ?_, same_fill ((s4.trans s5).trans s6) nD⟩
      rw [List.take_add_one, ei]
      exact papp (pmono p4 fun _ _ z => z.mono ((s5.trans s6).tups.trans (tups_set h6))) (.cons (a6.mono (tups_set h6)) .nil)
    · rintro H4 ⟨vs, h4, p4, s4⟩
      rw [lm, List.take_length] at p4
      have n24 := s3.trans s4
      refine ⟨l1, D, _, _, rfl, rfl, n24 _ _ h2, h4, Nat.le_of_lt (small1000 (by rw [plen p4]; show 1 + its.length ≤ 1000; omega)), fun p5 np5 => ?_⟩
      have s5 : Same H4 (upd H4 p5 (.lst ([.str w0] ++ vs))) := same_new np5
      exact q _ p5 vs ((((s1.trans s2).trans n24)).trans s5) ((s1.trans s2).trans n24 |>.free np5) upd_same (pmono p4 fun _ _ z => z.mono s5.tups)
end
end Bk

namespace Bk
open PySem PySem.Spec PyProof.Rows L2 RZ TL
local macro_rules | `(tactic| walk_at "g") => `(tactic| (repeat first | refine ⟨_, rfl, ?_⟩ | refine ⟨cpow, ?_⟩ | refine ⟨_, _, rfl, rfl, ?_⟩ | refine ⟨rfl, ?_⟩))
section
variable {P : Program} {w : World} {K : PySem.W.Frag} {mg : Str → Option Value} {base : Heap}
/-! ### what changes the space at a desk, and what is shown -/
def spBesideC (K : PySem.W.Frag) : Sp := fun vs H Q _ => ∃ (a c : Addr), vs = [.ref a, .ref a] ∧ SqT K H a [.ref c] ∧ SqT K H c nones ∧ ∀ H' v', Same H H' → ST H' v' (besS [free4] [free4]) → Q v' H'
theorem okbesideC {f fX fB : Addr} {fd fdX fdB : FuncData} (F : Fun K "beside" "beside" sbeside f fd) (Fspace_of : Fun K "space_of" "space_of" sspace_of fX fdX) (gspace_of : mg "space_of" = some (.ref fX)) (bspace_of : Binds K fdX ["blocks"] []) (Gspace_of : FnOk P w K mg base CX0 6 fX fdX ["blocks"] (spSpaceC K))
    (F_block_behind : Fun K "_block_behind" "_block_behind" s_block_behind fB fdB) (g_block_behind : mg "_block_behind" = some (.ref fB)) (b_block_behind : Binds K fdB ["block", "many"] []) (G_block_behind : FnOk P w K mg base CX0 1 fB fdB ["block", "many"] spBehind)
    (m_len : mg "len" = none) (m_tuple : mg "tuple" = none) : FnOk P w K mg base CX0 7 f fd ["one", "other"] (spBesideC K) := by
  refine F.ok scbeside (fun vs H Q E h => ?_) (fun cdv A outer s H vs Q E hr h => ?_)
  · obtain ⟨a, c, rfl, _⟩ := h
    rfl
  · obtain ⟨a, c, rfl, hd, hc, q⟩ := h
    have nd := scbeside.nd
    refine ⟨_, (pss_cons (ps_set (i := 2) nd rfl (.inr rfl) (pe_call Gspace_of (hr.mono (by first | decide | omega)) (by rfl) gspace_of Fspace_of.kp bspace_of .nil pass0 (pa_cons (pv 0) pa_nil)))
      (pss_one (ps_ret (pe_op (kCatF K rfl) (pv 2) (pe_callTy (kTupleF K rfl) (by rfl) m_tuple (by decide +kernel) (pa_cons (pe_lc (own := [("block", 3)]) (g := gName 3) (tt := tYes) rfl nd (kPiT K rfl (pi_tup (pe_call Gspace_of (hr.mono (by first | decide | omega)) (by rfl) gspace_of Fspace_of.kp bspace_of .nil pass0 (pa_cons (pv 1) pa_nil)))) (blkOk_by (own := [("block", 3)]) (N := Nbeside) (sc := defScope sbeside) (by decide +kernel)) (fun _ _ _ _ _ => (pg_name (i := 3) nd rfl (Or.inl rfl))) (fun _ _ _ _ _ => pts_nil) (fun _ _ _ _ _ => (pe_call G_block_behind (hr.mono (by first | decide | omega)) (by rfl) g_block_behind F_block_behind.kp b_block_behind .nil pass0 (pa_cons (pv 3) (pa_cons (pe_callB (kLen K rfl) (by rfl) m_len (by decide +kernel) (pa_cons (pv 2) pa_nil)) pa_nil))))) pa_nil)))))), ?_⟩
    refine ⟨.ref a, rfl, a, c, rfl, hd, hc, fun H1 u1 s1 st1 => ?_⟩
    refine ⟨u1, rfl, .ref a, rfl, a, c, rfl, s1.sqt hd, s1.sqt hc, fun H2 u2 s2 st2 => ?_⟩
    obtain ⟨S, hS, lS⟩ : ∃ S : Spc, S = [free4] ∧ S.length = 1 := ⟨_, rfl, rfl⟩
    obtain ⟨U, hU, lU⟩ : ∃ U : Spc, U = [free4] ∧ U.length = 1 := ⟨_, rfl, rfl⟩
    have hG2 : Good U := hU ▸ good1
    rw [← hS] at st1
    rw [← hU] at st2
    have q : ∀ H' v', Same H H' → ST H' v' (besS S U) → Q v' H' := fun H' v' s' t' => q H' v' s' (by rw [hS, hU] at t'; exact t')
    have st12 := st1.mono s2.tups
    obtain ⟨p1, r1, rfl, f1, b1⟩ := st12
    obtain ⟨p2, r2, rfl, f2, b2⟩ := st2
    have l1 : r1.length = S.length := plen b1
    have l2 : r2.length = U.length := plen b2
    refine ⟨p2, rfl, ⟨_, f2.sqt⟩, fun D nD => ?_⟩
    refine lc_tup (xs := r2) (fun k H3 => ∃ ws, H3 D = some (.lst ws) ∧ Paired (BT H3) ws ((shS S.length U).take k) ∧ Same H2 H3) ⟨[], upd_same, .nil, same_new nD⟩ ?_ ?_ ?_
    · rintro k H3 _ ⟨ws, h3, t3, s3⟩
      exact (f2.mono s3.tups).sqt
    · rintro k x H3 hx ⟨ws, h3, t3, s3⟩
      obtain ⟨b, hb, bx⟩ := pget' b2 hx
      have hk : k < U.length := (List.getElem?_eq_some_iff.mp hb).1
      have eb : (shS S.length U)[k]? = some (shB S.length b) := by
        unfold shS
        rw [List.getElem?_map, hb]
        rfl
      refine ⟨rfl, x, rfl, .ref p1, rfl, p1, r1, rfl, .inr (f1.mono s3.tups).sqt, x, b, S.length, (by rw [l1]; rfl), bx.mono s3.tups, by rw [hG2.l4 b (List.mem_of_getElem? hb)]; omega, fun H4 v4 s4 b4 => ?_⟩
      have h4 := s4 _ _ h3
      refine ⟨ws, h4, small1000 (by rw [plen t3, List.length_take]; omega), ws ++ [v4], upd_same, ?_, same_fill (s3.trans s4) nD⟩
      rw [List.take_add_one, eb]
      exact papp (pmono t3 fun _ _ z => z.mono (s4.tups.trans (tups_set h4))) (.cons (b4.mono (tups_set h4)) .nil)
    · rintro H3 ⟨ws, h3, t3, s3⟩
      rw [l2, ← shS_len S.length U, List.take_length] at t3
      have lw : ws.length = U.length := by rw [plen t3, shS_len]
      refine ⟨D, ws, rfl, .inl ⟨.inl (.inl h3), fun p3 o3 np3 d3 => ?_⟩⟩
      have s4 : Same H3 (upd H3 p3 (.frz o3 (.tup ws))) := same_new np3
      have f3 : FT (upd H3 p3 (.frz o3 (.tup ws))) p3 ws := FT.new d3
      generalize upd H3 p3 (.frz o3 (.tup ws)) = H4 at s4 f3 ⊢
      have f14 := f1.mono (s3.trans s4).tups
      refine ⟨p1, p3, r1, ws, rfl, rfl, f14.sqt, f3.sqt, fun z => by rw [z] at l1; simp at l1; omega, fun z => by rw [z] at lw; simp at lw; omega, Nat.le_of_lt (small1000 (by omega)), fun p5 o5 np5 d5 => ?_⟩
      have s5 : Same H4 (upd H4 p5 (.frz o5 (.tup (r1 ++ ws)))) := same_new np5
      refine q _ _ ((((s1.trans s2).trans s3).trans s4).trans s5) ⟨p5, r1 ++ ws, rfl, FT.new d5, papp (pmono b1 fun _ _ z => z.mono ((s3.trans s4).trans s5).tups) (pmono t3 fun _ _ z => z.mono (s4.trans s5).tups)⟩
abbrev s_on_one_line : Stmt := topS 166
abbrev N_on_one_line : List Str := ["space"]
theorem sc_on_one_line : FnScope N_on_one_line ["space"] (defScope s_on_one_line) := ⟨rfl, rfl, rfl, by decide +kernel, rfl, by decide +kernel, by decide +kernel⟩
theorem ok_on_one_line {f fX : Addr} {fd fdX : FuncData} (F : Fun K "_on_one_line" "_on_one_line" s_on_one_line f fd) (Fspace_text : Fun K "space_text" "space_text" sspace_text fX fdX) (gspace_text : mg "space_text" = some (.ref fX)) (bspace_text : Binds K fdX ["space"] [])
    (Pspace_text : FnP P w K mg base 3 fX fdX ["space"] (spText K)) : FnOk P w K mg base CX0 4 f fd ["space"] (spShown K) := by
  refine F.ok sc_on_one_line (fun vs H Q E h => ?_) (fun cdv A outer s H vs Q E hr h => ?_)
  · obtain ⟨v, d, S, rfl, _⟩ := h
    rfl
  · obtain ⟨v, d, S, rfl, hd, hn, hS, q⟩ := h
    have nd := sc_on_one_line.nd
    refine ⟨_, (pss_one (ps_ret (pe_replP Pspace_text (hr.mono (by first | decide | omega)) (by rfl) gspace_text Fspace_text.kp bspace_text (pa_cons (pv 0) pa_nil)))), ?_⟩
    refine ⟨v, rfl, fun _ => False, v, d, S, rfl, hd, hn, hS, fun H1 s1 => ?_⟩
    have tl := text_len hS
    refine ⟨_, rfl, ?_, q H1 s1⟩
    rw [show (Str.ofString "/").length = 1 by decide +kernel]
    omega
abbrev s_show : Stmt := topS 153
abbrev N_show : List Str := ["space", "told"]
theorem sc_show : FnScope N_show ["space", "told"] (defScope s_show) := ⟨rfl, rfl, rfl, by decide +kernel, rfl, by decide +kernel, by decide +kernel⟩
def spShowD (K : PySem.W.Frag) : Sp := fun vs H Q _ => ∃ (v tv : V) (d : PyData) (S : Spc), vs = [v, tv] ∧ Dp K H v d ∧ norm d = nS S ∧ Sb S ∧ ∀ H', Same H H' → Q (.str (shownT S)) H'
theorem ok_show {f fX : Addr} {fd fdX : FuncData} (F : Fun K "_show" "_show" s_show f fd) (F_on_one_line : Fun K "_on_one_line" "_on_one_line" s_on_one_line fX fdX) (g_on_one_line : mg "_on_one_line" = some (.ref fX)) (b_on_one_line : Binds K fdX ["space"] [])
    (G_on_one_line : FnOk P w K mg base CX0 4 fX fdX ["space"] (spShown K)) : FnOk P w K mg base CX0 5 f fd ["space", "told"] (spShowD K) := by
  refine F.ok sc_show (fun vs H Q E h => ?_) (fun cdv A outer s H vs Q E hr h => ?_)
  · obtain ⟨v, tv, d, S, rfl, _⟩ := h
    rfl
  · obtain ⟨v, tv, d, S, rfl, hd, hn, hS, q⟩ := h
    have nd := sc_show.nd
    refine ⟨_, (pss_one (ps_ret (pe_call G_on_one_line (hr.mono (by first | decide | omega)) (by rfl) g_on_one_line F_on_one_line.kp b_on_one_line .nil pass0 (pa_cons (pv 0) pa_nil)))), ?_⟩
    exact ⟨v, rfl, v, d, S, rfl, hd, hn, hS, q⟩
abbrev s_block : Stmt := topS 149
abbrev N_block : List Str := ["space", "told"]
theorem sc_block : FnScope N_block ["space", "told"] (defScope s_block) := ⟨rfl, rfl, rfl, by decide +kernel, rfl, by decide +kernel, by decide +kernel⟩
def spBlockD (K : PySem.W.Frag) (aA : Addr) : Sp := fun vs H Q _ => ∃ (tv : V), vs = [.ref aA, tv] ∧ ∀ H' p v', Same H H' → FT H' p [v', .str (numT 1)] → ST H' v' (besS [free4] [free4]) → Q (.ref p) H'
theorem ok_block {f fX aA cA : Addr} {fd fdX : FuncData} (F : Fun K "_block" "_block" s_block f fd) (Fbeside : Fun K "beside" "beside" sbeside fX fdX) (gbeside : mg "beside" = some (.ref fX)) (bbeside : Binds K fdX ["one", "other"] [])
    (Gbeside : FnOk P w K mg base CX0 7 fX fdX ["one", "other"] (spBesideC K)) (g_ALONE : mg "ALONE" = some (.ref aA)) (hA : ∀ H, SqT K H aA [.ref cA]) (hcA : ∀ H, SqT K H cA nones) (m_str : mg "str" = none) (m_len : mg "len" = none) : FnOk P w K mg base CX0 8 f fd ["space", "told"] (spBlockD K aA) := by
  have r_ALONE : RelV (V.ref aA) (.ref aA) := rfl
  refine F.ok sc_block (fun vs H Q E h => ?_) (fun cdv A outer s H vs Q E hr h => ?_)
  · obtain ⟨tv, rfl, _⟩ := h
    rfl
  · obtain ⟨tv, rfl, q⟩ := h
    have nd := sc_block.nd
    refine ⟨_, (pss_one (ps_ret (pe_tupF (pa_cons (pe_call Gbeside (hr.mono (by first | decide | omega)) (by rfl) gbeside Fbeside.kp bbeside .nil pass0 (pa_cons (pv 0) (pa_cons (pe_glob (by rfl) g_ALONE r_ALONE) pa_nil))) (pa_cons (pe_callTy call_str_int (by rfl) m_str (by decide +kernel) (pa_cons (pe_callB (kLen K rfl) (by rfl) m_len (by decide +kernel) (pa_cons (pv 0) pa_nil)) pa_nil)) pa_nil))))), ?_⟩
    refine ⟨.ref aA, rfl, aA, cA, rfl, hA _, hcA _, fun H1 v1 s1 st1 => ?_⟩
    refine ⟨.ref aA, rfl, aA, _, rfl, .inr (hA _), 1, rfl, by decide +kernel, Nat.le_of_lt (small1000 (by show 2 ≤ 1000; decide)), fun p o np dn => ?_⟩
    have s2 : Same H1 (upd H1 p (.frz o (.tup [v1, .str (numT 1)]))) := same_new np
    exact q _ p v1 (s1.trans s2) (FT.new dn) (st1.mono s2.tups)
def spJoinD : Sp := fun vs H Q _ => ∃ (v jv : V) (l : Addr) (w0 : Str) (S : Spc) (b f n : Nat) (t : Trn), vs = [v, .ref l] ∧ H l = some (.lst [.str w0, intV b, intV f, jv]) ∧ JAt H jv (some (n, t)) ∧ ST H v S ∧ Good S ∧ S.length ≤ 60 ∧ t ∈ allTurns ∧ getJ S b f = some none ∧ getJ S n (tf t f) = some none ∧ (n, tf t f) ≠ (b, f) ∧
  ∀ H' p v', Same H H' → FT H' p [v', .str (Str.ofString "ok")] → ST H' v' (joinJ S b f n t) → Q (.ref p) H'
abbrev s_join : Stmt := topS 150
abbrev N_join : List Str := ["space", "told", "_", "block", "face", "joining", "other", "turn"]
theorem sc_join : FnScope N_join ["space", "told"] (defScope s_join) := ⟨rfl, rfl, rfl, by decide +kernel, rfl, by decide +kernel, by decide +kernel⟩
theorem ok_join {f fJ : Addr} {fd fdJ : FuncData} (F : Fun K "_join" "_join" s_join f fd)
    (Fjoined : Fun K "joined" "joined" sjoined fJ fdJ) (gjoined : mg "joined" = some (.ref fJ)) (kbjoined_other_turn : KBn K fdJ ["space", "block", "face", "other", "turn"] 3 ["other", "turn"] (fun us ws => us ++ ws) (fun vs zs => vs ++ zs)) (Gjoined : FnOk P w K mg base CX0 7 fJ fdJ ["space", "block", "face", "other", "turn"] spJoined) : FnOk P w K mg base CX0 8 f fd ["space", "told"] spJoinD := by
  refine F.ok sc_join (fun vs H Q E h => ?_) (fun cdv A outer s H vs Q E hr h => ?_)
  · obtain ⟨v, jv, l, w0, S, b, f, n, t, rfl, _⟩ := h
    rfl
  · obtain ⟨v, jv, l, w0, S, b, f, n, t, rfl, hl, hj, hst, hG, hz, ht, g1, g2, hne, q⟩ := h
    have nd := sc_join.nd
    refine ⟨_, (pss_cons (ps_asg (pv 1) (kPgS K rfl (pg_tup (n := 4) rfl (pgs_cons (pg_name (i := 2) nd rfl (.inl rfl)) (pgs_cons (pg_name (i := 3) nd rfl (.inl rfl)) (pgs_cons (pg_name (i := 4) nd rfl (.inl rfl)) (pgs_cons (pg_name (i := 5) nd rfl (.inl rfl)) pgs_nil))))) (pg_unl (n := 4) rfl (pgs_cons (pg_name (i := 2) nd rfl (.inl rfl)) (pgs_cons (pg_name (i := 3) nd rfl (.inl rfl)) (pgs_cons (pg_name (i := 4) nd rfl (.inl rfl)) (pgs_cons (pg_name (i := 5) nd rfl (.inl rfl)) pgs_nil)))))))
      (pss_cons (ps_asg (pv 5) (kPgT K rfl (pg_tup (n := 2) rfl (pgs_cons (pg_name (i := 6) nd rfl (.inl rfl)) (pgs_cons (pg_name (i := 7) nd rfl (.inl rfl)) pgs_nil)))))
      (pss_one (ps_ret (pe_tupF (pa_cons (pe_callN Gjoined (hr.mono (by first | decide | omega)) (by rfl) gjoined Fjoined.kp kbjoined_other_turn pass0 (pa_cons (pv 0) (pa_cons (pv 3) (pa_cons (pv 4) pa_nil))) (pk_cons (pv 6) (pk_cons (pv 7) pk_nil))) (pa_cons pe_str pa_nil))))))), ?_⟩
    obtain ⟨pj, pq, rfl, f1, f2⟩ := hj
    refine ⟨.ref l, rfl, l, _, rfl, .inl (.inl (.inl hl)), rfl, _, _, rfl, _, _, rfl, _, _, rfl, _, _, rfl, rfl, ?_⟩
    refine ⟨.ref pj, rfl, pj, _, rfl, f1.sqt, rfl, _, _, rfl, _, _, rfl, rfl, ?_⟩
    refine ⟨v, rfl, intV b, rfl, intV f, rfl, intV n, rfl, .ref pq, rfl, rfl, rfl, fun _ => False, fun _ => False, v, .ref pq, _, .tuple (t.map intD), S, b, f, n, t, rfl, hst.dq, norm_shut S, hG, hz, .tup f2 (dqs_ints t), (by simp only [norm, norm_ints]), ht, g1, g2, hne, fun H1 v1 s1 st1 => ?_⟩
    refine ⟨Nat.le_of_lt (small1000 (by show 2 ≤ 1000; decide)), fun p o np dn => ?_⟩
    have s2 : Same H1 (upd H1 p (.frz o (.tup [v1, .str (Str.ofString "ok")]))) := same_new np
    exact q _ p v1 (s1.trans s2) (FT.new dn) (st1.mono s2.tups)
def spPartD : Sp := fun vs H Q _ => ∃ (v : V) (l : Addr) (w0 : Str) (S : Spc) (b f n : Nat) (t : Trn), vs = [v, .ref l] ∧ H l = some (.lst [.str w0, intV b, intV f]) ∧ ST H v S ∧ Good S ∧ S.length ≤ 60 ∧ getJ S b f = some (some (n, t)) ∧
  ∀ H' p v', Same H H' → FT H' p [v', .str (Str.ofString "ok")] → ST H' v' (partS S b f n t) → Q (.ref p) H'
abbrev s_part : Stmt := topS 151
abbrev N_part : List Str := ["space", "told", "_", "block", "face"]
theorem sc_part : FnScope N_part ["space", "told"] (defScope s_part) := ⟨rfl, rfl, rfl, by decide +kernel, rfl, by decide +kernel, by decide +kernel⟩
theorem ok_part {f fP : Addr} {fd fdP : FuncData} (F : Fun K "_part" "_part" s_part f fd)
    (Fparted : Fun K "parted" "parted" sparted fP fdP) (gparted : mg "parted" = some (.ref fP)) (bparted : Binds K fdP ["space", "block", "face"] []) (Gparted : FnOk P w K mg base CX0 7 fP fdP ["space", "block", "face"] spParted) : FnOk P w K mg base CX0 8 f fd ["space", "told"] spPartD := by
  refine F.ok sc_part (fun vs H Q E h => ?_) (fun cdv A outer s H vs Q E hr h => ?_)
  · obtain ⟨v, l, w0, S, b, f, n, t, rfl, _⟩ := h
    rfl
  · obtain ⟨v, l, w0, S, b, f, n, t, rfl, hl, hst, hG, hz, g1, q⟩ := h
    have nd := sc_part.nd
    refine ⟨_, (pss_cons (ps_asg (pv 1) (kPgS K rfl (pg_tup (n := 3) rfl (pgs_cons (pg_name (i := 2) nd rfl (.inl rfl)) (pgs_cons (pg_name (i := 3) nd rfl (.inl rfl)) (pgs_cons (pg_name (i := 4) nd rfl (.inl rfl)) pgs_nil)))) (pg_unl (n := 3) rfl (pgs_cons (pg_name (i := 2) nd rfl (.inl rfl)) (pgs_cons (pg_name (i := 3) nd rfl (.inl rfl)) (pgs_cons (pg_name (i := 4) nd rfl (.inl rfl)) pgs_nil))))))
      (pss_one (ps_ret (pe_tupF (pa_cons (pe_call Gparted (hr.mono (by first | decide | omega)) (by rfl) gparted Fparted.kp bparted .nil pass0 (pa_cons (pv 0) (pa_cons (pv 3) (pa_cons (pv 4) pa_nil)))) (pa_cons pe_str pa_nil)))))), ?_⟩
    refine ⟨.ref l, rfl, l, _, rfl, .inl (.inl (.inl hl)), rfl, _, _, rfl, _, _, rfl, _, _, rfl, rfl, ?_⟩
    refine ⟨v, rfl, intV b, rfl, intV f, rfl, fun _ => False, v, _, S, b, f, n, t, rfl, hst.dq, norm_shut S, hG, hz, g1, fun H1 v1 s1 st1 => ?_⟩
    refine ⟨Nat.le_of_lt (small1000 (by show 2 ≤ 1000; decide)), fun p o np dn => ?_⟩
    have s2 : Same H1 (upd H1 p (.frz o (.tup [v1, .str (Str.ofString "ok")]))) := same_new np
    exact q _ p v1 (s1.trans s2) (FT.new dn) (st1.mono s2.tups)
end
end Bk

namespace Bk
open PySem PySem.Spec PyProof.Rows L2 RZ TL
local macro_rules | `(tactic| walk_at "g") => `(tactic| (repeat first | refine ⟨_, rfl, ?_⟩ | refine ⟨cpow, ?_⟩ | refine ⟨_, _, rfl, rfl, ?_⟩ | refine ⟨rfl, ?_⟩))
/-! ### the desk -/
/-- a class of refusals of the program's own -/
structure ExF (K : PySem.W.Frag) (mg : Str → Option Value) (name : Str) (C : Addr) : Prop where
  g : mg name = some (.ref C)
  x : PySem.W.excIn K C [.type "ValueError", .type "Exception", .type "BaseException", .type "object"] "ValueError.__new__" = true
  k : PySem.W.keepIn K (.ref C) = true
  b : PySem.W.subIn K (.ref C) (.type "BaseException") = some true
  t : PySem.W.typeIn K (.ref C) = some (.type "type")
def dkF (sv : V) (l : Addr) : List (Str × V) := putF "before" (.ref l) (putF "space" sv [])
theorem dk_ne : ¬ (("before" : Str) = "space") := by decide +kernel
theorem dk_ne' : ¬ (("space" : Str) = "before") := by decide +kernel
theorem dk_space (sv : V) (l : Addr) : (dkF sv l).lookup ("space" : Str) = some sv := by
  unfold dkF
  rw [lookup_putF, if_neg dk_ne', lookup_putF, if_pos rfl]
theorem dk_before (sv : V) (l : Addr) : (dkF sv l).lookup ("before" : Str) = some (.ref l) := by
  unfold dkF
  rw [lookup_putF, if_pos rfl]
theorem dk_no (sv : V) (l : Addr) {m : Str} (h1 : ¬ m = "space") (h2 : ¬ m = "before") : (dkF sv l).lookup m = none := by
  unfold dkF
  rw [lookup_putF, if_neg h2, lookup_putF, if_neg h1]
  all_goals rfl
theorem dk_eq (sv : V) (l : Addr) : dkF sv l = ([("space", sv), ("before", V.ref l)] : List (Str × V)) := by
  show (if ("space" : Str) = "before" then (("space" : Str), V.ref l) :: [] else (("space" : Str), sv) :: putF "before" (V.ref l) []) = ([("space", sv), ("before", V.ref l)] : List (Str × V))
  rw [if_neg dk_ne']
  all_goals rfl
theorem dk_put (sv sv' : V) (l : Addr) : putF "space" sv' (dkF sv l) = dkF sv' l := by
  rw [dk_eq, dk_eq]
  show (if ("space" : Str) = "space" then (("space" : Str), sv') :: [(("before" : Str), V.ref l)] else (("space" : Str), sv) :: putF "space" sv' [("before", V.ref l)]) = ([("space", sv'), ("before", V.ref l)] : List (Str × V))
  rw [if_pos rfl]
/-- all but the desk and its list stays -/
def KeepD (p l : Addr) (H H' : Hp) : Prop := ∀ b o, H b = some o → b ≠ p → b ≠ l → H' b = some o
structure DkAt (C p dx l : Addr) (sv : V) (bs : List V) (H : Hp) : Prop where
  p : H p = some (.ins C dx (dkF sv l))
  l : H l = some (.lst bs)
theorem DkAt.same {C p dx l : Addr} {sv : V} {bs : List V} {H H' : Hp} (h : DkAt C p dx l sv bs H) (s : Same H H') : DkAt C p dx l sv bs H' := ⟨s _ _ h.p, s _ _ h.l⟩
theorem DkAt.ne {C p dx l : Addr} {sv : V} {bs : List V} {H : Hp} (h : DkAt C p dx l sv bs H) : p ≠ l := ne_of h.p h.l fun z => by cases z
theorem KeepD.tups {C p dx l : Addr} {sv : V} {bs : List V} {H H' : Hp} (k : KeepD p l H H') (d : DkAt C p dx l sv bs H) : Tups H H' := fun b o xs e => k b _ e (ne_of e d.p fun z => by cases z) (ne_of e d.l fun z => by cases z)
section
variable {P : Program} {w : World} {K : PySem.W.Frag} {mg : Str → Option Value} {base : Heap}
abbrev sDesk___init__ : Stmt := inClass (topS 144) 0
abbrev NDesk___init__ : List Str := ["self"]
theorem scDesk___init__ : FnScope NDesk___init__ ["self"] (defScope sDesk___init__) := ⟨rfl, rfl, rfl, by decide +kernel, rfl, by decide +kernel, by decide +kernel⟩
def spInitD (C aA : Addr) : Sp := fun vs H Q _ => ∃ (p dx : Addr), vs = [.ref p] ∧ H p = some (.ins C dx []) ∧ ∀ H' l, (∀ b o, H b = some o → b ≠ p → H' b = some o) → H l = none → DkAt C p dx l (.ref aA) [] H' → Q .non H'
theorem okDesk___init__ {f C aA : Addr} {fd : FuncData} (F : Fun K "__init__" "Desk.__init__" sDesk___init__ f fd) (cDesk : Cls K C) (nS : NoAttr K C "space") (nB : NoAttr K C "before") (g_ALONE : mg "ALONE" = some (.ref aA)) : FnOk P w K mg base CX0 1 f fd ["self"] (spInitD C aA) := by
  have r_ALONE : RelV (V.ref aA) (.ref aA) := rfl
  refine F.ok scDesk___init__ (fun vs H Q E h => ?_) (fun cdv A outer s H vs Q E hr h => ?_)
  · obtain ⟨p, dx, rfl, _⟩ := h
    rfl
  · obtain ⟨p, dx, rfl, hp, q⟩ := h
    have nd := scDesk___init__.nd
    refine ⟨_, (pss_cons (ps_fld (pv 0) (pe_glob (by rfl) g_ALONE r_ALONE) rfl)
      (pss_one (ps_fld (pv 0) (pe_lst pa_nil) rfl))), ?_⟩
    refine ⟨.ref p, rfl, p, C, dx, [], rfl, hp, cDesk, nS, by decide, ?_⟩
    have h1 : (upd H p (.ins C dx (putF "space" (.ref aA) []))) p = some (.ins C dx (putF "space" (.ref aA) [])) := upd_same
    have k1 : ∀ b o, H b = some o → b ≠ p → (upd H p (.ins C dx (putF "space" (.ref aA) []))) b = some o := fun b o e z => by
      rw [upd_ne z]
      exact e
    generalize upd H p (.ins C dx (putF "space" (.ref aA) [])) = H1 at h1 k1 ⊢
    refine ⟨Nat.zero_le _, fun l nl => ?_⟩
    have nlp : l ≠ p := fun z => by
      rw [z, h1] at nl
      cases nl
    have nl0 : H l = none := by
      cases e : H l with
      | none => rfl
      | some o =>
        have := k1 l o e nlp
        rw [nl] at this
        cases this
    refine ⟨.ref p, rfl, p, C, dx, putF "space" (.ref aA) [], rfl, ?_, cDesk, nB, Nat.le_trans (Nat.succ_le_succ (length_putF _ _ [])) (by decide), ?_⟩
    · rw [upd_ne (Ne.symm nlp)]
      exact h1
    · refine q _ l (fun b o e z => ?_) nl0 ⟨upd_same, ?_⟩
      · rw [upd_ne z, upd_ne (ne_of_none e nl0)]
        exact k1 b o e z
      · rw [upd_ne nlp]
        exact upd_same
abbrev sDesk__undo : Stmt := inClass (topS 144) 2
abbrev NDesk__undo : List Str := ["self"]
theorem scDesk__undo : FnScope NDesk__undo ["self"] (defScope sDesk__undo) := ⟨rfl, rfl, rfl, by decide +kernel, rfl, by decide +kernel, by decide +kernel⟩
def spUndoD (C : Addr) : Sp := fun vs H Q _ => ∃ (p dx l : Addr) (sv x : V) (bs : List V), vs = [.ref p] ∧ DkAt C p dx l sv (bs ++ [x]) H ∧ ∀ H', KeepD p l H H' → DkAt C p dx l x bs H' → Q (.str (Str.ofString "ok")) H'
theorem okDesk__undo {f C : Addr} {fd : FuncData} (F : Fun K "_undo" "Desk._undo" sDesk__undo f fd) (cDesk : Cls K C) (nS : NoAttr K C "space") (nB : NoAttr K C "before") : FnOk P w K mg base CX0 1 f fd ["self"] (spUndoD C) := by
  refine F.ok scDesk__undo (fun vs H Q E h => ?_) (fun cdv A outer s H vs Q E hr h => ?_)
  · obtain ⟨p, dx, l, sv, x, bs, rfl, _⟩ := h
    rfl
  · obtain ⟨p, dx, l, sv, x, bs, rfl, hD, q⟩ := h
    have nd := scDesk__undo.nd
    refine ⟨_, (pss_cons (ps_if (pt_not (pt_truth (pe_fld (pv 0) rfl) (by intro _; rfl))) (pss_one ps_never) pss_nil)
      (pss_cons (ps_fld (pv 0) (kBM0 K rfl (pe_bm0 PySem.F.plainAttrs_list PySem.F.slot_list_pop PySem.F.type_list_pop mt_pop (pe_fld (pv 0) rfl))) rfl)
      (pss_one (ps_ret pe_str)))), ?_⟩
    refine ⟨.ref p, rfl, p, C, dx, _, .ref l, rfl, hD.p, cDesk, nB, dk_before _ _, _, .inl ⟨_, .inl (.inl hD.l), rfl⟩, ?_⟩
    rw [show ((bs ++ [x]).isEmpty) = false by cases bs <;> rfl]
    refine iteF ?_
    refine ⟨.ref p, rfl, p, C, dx, _, .ref l, rfl, hD.p, cDesk, nB, dk_before _ _, ?_, l, bs ++ [x], x, rfl, rfl, hD.l, ?_, ?_⟩
    · exact .inl ⟨rfl, _, .inl (.inl hD.l)⟩
    · rw [List.length_append, List.getElem?_append_right (by simp)]
      simp
    · rw [List.dropLast_concat]
      have hp1 : (upd H l (.lst bs)) p = some (.ins C dx (dkF sv l)) := by
        rw [upd_ne hD.ne]
        exact hD.p
      have k1 : KeepD p l H (upd H l (.lst bs)) := fun b o e z1 z2 => by
        rw [upd_ne z2]
        exact e
      have hl1 : (upd H l (.lst bs)) l = some (.lst bs) := upd_same
      generalize upd H l (.lst bs) = H1 at hp1 k1 hl1 ⊢
      refine ⟨.ref p, rfl, p, C, dx, _, rfl, hp1, cDesk, nS, (by rw [dk_eq]; show 2 < 1000; decide), ?_⟩
      rw [dk_put]
      refine q _ (fun b o e z1 z2 => ?_) ⟨upd_same, ?_⟩
      · rw [upd_ne z1]
        exact k1 b o e z1 z2
      · rw [upd_ne (Ne.symm hD.ne)]
        exact hl1
/-- there is nothing left to undo -/
def spUndoX (C D : Addr) : Sp := fun vs H _ E => ∃ (p dx l : Addr) (sv : V), vs = [.ref p] ∧ DkAt C p dx l sv [] H ∧ E (.ref D) none H
theorem okDesk__undoX {f C xNoneYet : Addr} {fd : FuncData} (F : Fun K "_undo" "Desk._undo" sDesk__undo f fd) (cDesk : Cls K C) (nS : NoAttr K C "space") (nB : NoAttr K C "before") (TNoneYet : ExF K mg "NoneYet" xNoneYet) : FnOk P w K mg base (L2.CX P w) 1 f fd ["self"] (spUndoX C xNoneYet) := by
  refine F.okX scDesk__undo (fun vs H Q E h => ?_) (fun cdv A outer s H vs Q E hr h => ?_)
  · obtain ⟨p, dx, l, sv, rfl, _⟩ := h
    rfl
  · obtain ⟨p, dx, l, sv, rfl, hD, q⟩ := h
    have nd := scDesk__undo.nd
    refine ⟨_, (pss_cons (ps_if (pt_not (pt_truth (pe_fld (pv 0) rfl) (by intro _; rfl))) (pss_one (ps_raise rfl (takes_of rfl rfl rfl rfl) (pmk_own PySem.F.excBase_ValueError TNoneYet.x TNoneYet.g TNoneYet.k (raises_own TNoneYet.b TNoneYet.t) (by exact rfl)))) pss_nil)
      (pss_cons (ps_fld (pv 0) (kBM0 K rfl (pe_bm0 PySem.F.plainAttrs_list PySem.F.slot_list_pop PySem.F.type_list_pop mt_pop (pe_fld (pv 0) rfl))) rfl)
      (pss_one (ps_ret pe_str)))), ?_⟩
    refine ⟨.ref p, rfl, p, C, dx, _, .ref l, rfl, hD.p, cDesk, nB, dk_before _ _, _, .inl ⟨_, .inl (.inl hD.l), rfl⟩, ?_⟩
    exact iteT q
/-! ### a method whose errors pass -/
section
variable {X : Cx} {CX : CXT} {k : Nat} {f C : Addr} {fd : FuncData} {ps : List Str} {sp : Sp} {E : L2.St → XK} {m : Str} {p pos apos : Pos} {e o : Expr} {es : List Expr} {ta : TE} {t : TA}
theorem pe_methX {pl : Sem Bool} (he : PE X o ta) (c : Cls X.K C) (hm : Meth X.K C m f) (F : FnOk X.prog X.w X.K X.mg X.base CX k f fd ps sp) (hr : Room k X.A) (hb : Binds X.K fd ps []) (hx : ∀ σ, PassesAt CX X σ (E σ)) (ha : PA X (e :: es) t)
    (hst : starEach (e :: es) X.env = (false, eval e X.env) :: starEach es X.env := by rfl) (hpl : (backTo pos (starEach es X.env)).any (·.1) = false := by rfl)
    (ht : eval (.Call (.Attribute o m apos) (e :: es) [] pos) X.env = (do
      let ov ← eval o X.env
      standAt apos.atName
      let (f, first) ← holding [ov] (getMethod ov m pl)
      callWith pos f first (backTo pos (starEach (e :: es) X.env)) (backToKw pos (keywordEach [] X.env))) := by rfl) :
    PE X (.Call (.Attribute o m apos) (e :: es) [] pos) (L2H.tMethH C m sp E ta t) := by
  refine ⟨fun pins s σ H Q I h => ?_⟩
  refine PySem.W.methodCall_KW (pl := pl) (thn (he.run pins s σ H _ I h) fun u s1 ⟨x, H1, I1, rx, a, dx, fs, ex, ea, l, q⟩ => ?_) ht
  subst ex
  obtain rfl : u = Value.ref a := rx
  refine getmeth_ok I1 ea c hm l ?_
  refine PySem.W.callWith_K (first := [.ref a]) (h₀ := X.base) I.ok.mod.kin hm.kp (thn (ha.run pos pins s1 σ H1 _ I1 q) fun us s2 ⟨vs, H2, I2, r, q2⟩ => ⟨I2.kIn, ?_⟩) hst hpl
  exact run_fnS (us := .ref a :: us) (vs := .ref a :: vs) F hr hb (hx σ) I2 (.cons rfl r) q2
theorem pe_methX0 {pl : Sem Bool} (he : PE X o ta) (c : Cls X.K C) (hm : Meth X.K C m f) (F : FnOk X.prog X.w X.K X.mg X.base CX k f fd ps sp) (hr : Room k X.A) (hb : Binds X.K fd ps []) (hx : ∀ σ, PassesAt CX X σ (E σ))
    (ht : eval (.Call (.Attribute o m apos) [] [] pos) X.env = (do
      let ov ← eval o X.env
      standAt apos.atName
      let (f, first) ← holding [ov] (getMethod ov m pl)
      callWith pos f first (backTo pos (starEach [] X.env)) (backToKw pos (keywordEach [] X.env))) := by rfl) :
    PE X (.Call (.Attribute o m apos) [] [] pos) (L2H.tMethH C m sp E ta tNil) := by
  refine ⟨fun pins s σ H Q I h => ?_⟩
  refine PySem.W.methodCall_KW (pl := pl) (thn (he.run pins s σ H _ I h) fun u s1 ⟨x, H1, I1, rx, a, dx, fs, ex, ea, l, q⟩ => ?_) ht
  subst ex
  obtain rfl : u = Value.ref a := rx
  refine getmeth_ok I1 ea c hm l ?_
  exact PySem.W.callWith_K0 (first := [.ref a]) I1.kIn hm.kp (run_fnS (us := [.ref a]) (vs := [.ref a]) F hr hb (hx σ) I1 (.cons rfl .nil) q)
end
end
end Bk

namespace Bk
open PySem PySem.Spec PyProof.Rows L2 RZ TL
local macro_rules | `(tactic| walk_at "g") => `(tactic| (repeat first | refine ⟨_, rfl, ?_⟩ | refine ⟨cpow, ?_⟩ | refine ⟨_, _, rfl, rfl, ?_⟩ | refine ⟨rfl, ?_⟩))
theorem KeepD.same {p l : Addr} {H H1 H2 : Hp} (k : KeepD p l H H1) (s : Same H1 H2) : KeepD p l H H2 := fun b o e z1 z2 => s _ _ (k b o e z1 z2)
theorem KeepD.of {p l : Addr} {H H1 : Hp} (s : Same H H1) : KeepD p l H H1 := fun b o e _ _ => s _ _ e
theorem KeepD.trans {p l : Addr} {H H1 H2 : Hp} (k : KeepD p l H H1) (k2 : KeepD p l H1 H2) : KeepD p l H H2 := fun b o e z1 z2 => k2 b o (k b o e z1 z2) z1 z2
section
variable {P : Program} {w : World} {K : PySem.W.Frag} {mg : Str → Option Value} {base : Heap}
theorem ktrans_lst {p l : Addr} {H H1 : Hp} {xs ys : List V} (k : KeepD p l H H1) : KeepD p l H (upd H1 l (.lst ys)) := fun b o e z1 z2 => by
  rw [upd_ne z2]
  exact k b o e z1 z2
theorem ktrans_ins {p l : Addr} {H H1 : Hp} {o : HO} (k : KeepD p l H H1) : KeepD p l H (upd H1 p o) := fun b o' e z1 z2 => by
  rw [upd_ne z1]
  exact k b o' e z1 z2
theorem DkAt.push {C p dx l : Addr} {sv : V} {bs : List V} {H : Hp} (h : DkAt C p dx l sv bs H) (ys : List V) : DkAt C p dx l sv ys (upd H l (.lst ys)) := ⟨by rw [upd_ne h.ne]; exact h.p, upd_same⟩
theorem DkAt.put {C p dx l : Addr} {sv : V} {bs : List V} {H : Hp} (h : DkAt C p dx l sv bs H) (v : V) : DkAt C p dx l v bs (upd H p (.ins C dx (putF "space" v (dkF sv l)))) := by
  rw [dk_put]
  exact ⟨upd_same, by rw [upd_ne (Ne.symm h.ne)]; exact h.l⟩
theorem tr_head {its : List It} {H : Hp} {vs : List V} (h : Paired (fun v i => It.at H v i) vs its) : vs.length = its.length := plen h
abbrev sDesk_say : Stmt := inClass (topS 144) 1
abbrev NDesk_say : List Str := ["self", "row", "told", "change", "space", "answer", "question"]
theorem scDesk_say : FnScope NDesk_say ["self", "row"] (defScope sDesk_say) := ⟨rfl, rfl, rfl, by decide +kernel, rfl, by decide +kernel, by decide +kernel⟩
/-- the row "block" of a desk that holds the written ALONE -/
def spSayB (C aA : Addr) : Sp := fun vs H Q _ => ∃ (p dx l : Addr) (bs : List V), vs = [.ref p, .str (Str.ofString "block")] ∧ DkAt C p dx l (.ref aA) bs H ∧ bs.length < sizeLine ∧
  ∀ H' v', KeepD p l H H' → DkAt C p dx l v' (bs ++ [.ref aA]) H' → ST H' v' (besS [free4] [free4]) → Q (.str (numT 1)) H'
theorem okDesk_sayB {f C aA dF dC dQ fR fU f_block f_show : Addr} {fd fdR fdU fd_block fd_show : FuncData} {esC : Array DictEntry} {nC : Nat} (F : Fun K "say" "Desk.say" sDesk_say f fd) (cDesk : Cls K C) (nS : NoAttr K C "space") (nB : NoAttr K C "before")
    (meDesk__undo : Meth K C "_undo" fU) (bDesk__undo : Binds K fdU ["self"] []) (GDesk__undo : FnOk P w K mg base CX0 1 fU fdU ["self"] (spUndoD C))
    (F_read : Fun K "_read" "_read" s_read fR fdR) (g_read : mg "_read" = some (.ref fR)) (b_read : Binds K fdR ["row"] []) (G_read : FnOk P w K mg base CX0 5 fR fdR ["row"] (spReadD K w dF))
    (g_CHANGES_desk : mg "CHANGES_desk" = some (.ref dC)) (DC : KDict K w dC esC nC)
    (F_block : Fun K "_block" "_block" s_block f_block fd_block) (b_block : Binds K fd_block ["space", "told"] []) (G_block : FnOk P w K mg base CX0 8 f_block fd_block ["space", "told"] (spBlockD K aA))
    (g_QUESTIONS : mg "QUESTIONS" = some (.ref dQ)) (F_show : Fun K "_show" "_show" s_show f_show fd_show) (b_show : Binds K fd_show ["space", "told"] []) (G_show : FnOk P w K mg base CX0 5 f_show fd_show ["space", "told"] (spShowD K))
    (hform : FormAt K w dF "block" []) (hch : KDct K w dC "block" (.ref f_block)) : FnOk P w K mg base CX0 9 f fd ["self", "row"] (spSayB C aA) := by
  have r_CHANGES_desk : RelV (V.ref dC) (.ref dC) := rfl
  have r_QUESTIONS : RelV (V.ref dQ) (.ref dQ) := rfl
  refine F.ok scDesk_say (fun vs H Q E h => ?_) (fun cdv A outer s H vs Q E hr h => ?_)
  · obtain ⟨p, dx, l, bs, rfl, _⟩ := h
    rfl
  · obtain ⟨p, dx, l, bs, rfl, hD, hlen, q⟩ := h
    have nd := scDesk_say.nd
    refine ⟨_, (pss_cons (ps_set (i := 2) nd rfl (.inl rfl) (pe_call G_read (hr.mono (by first | decide | omega)) (by rfl) g_read F_read.kp b_read .nil pass0 (pa_cons (pv 1) pa_nil)))
      (pss_cons (ps_if (pt_cmpR op_eq (pe_ix (kIxL K rfl) (pv 2) pe_int (fun _ _ => rfl)) pe_str (nomark _)) (pss_one (ps_ret (pe_meth0 (pv 0) cDesk meDesk__undo GDesk__undo (hr.mono (by first | decide | omega)) bDesk__undo .nil pass0))) pss_nil)
      (pss_cons (ps_if (pt_cmpR (op_in_kd DC) (pe_ix (kIxL K rfl) (pv 2) pe_int (fun _ _ => rfl)) (pe_glob (by rfl) g_CHANGES_desk r_CHANGES_desk) (by rfl)) (pss_cons (ps_set (i := 3) nd rfl (.inl rfl) (pe_ix ix_kdict (pe_glob (by rfl) g_CHANGES_desk r_CHANGES_desk) (pe_ix (kIxL K rfl) (pv 2) pe_int (fun _ _ => rfl)) (fun _ _ => rfl)))
      (pss_cons (ps_asg (pe_callL (i := 3) G_block (hr.mono (by first | decide | omega)) rfl (.inl rfl) F_block.kp b_block .nil pass0 (pa_cons (pe_fld (pv 0) rfl) (pa_cons (pv 2) pa_nil))) (kPgS K rfl (pg_tup (n := 2) rfl (pgs_cons (pg_name (i := 4) nd rfl (.inl rfl)) (pgs_cons (pg_name (i := 5) nd rfl (.inl rfl)) pgs_nil))) (pg_unl (n := 2) rfl (pgs_cons (pg_name (i := 4) nd rfl (.inl rfl)) (pgs_cons (pg_name (i := 5) nd rfl (.inl rfl)) pgs_nil)))))
      (pss_cons (ps_expr (kBM K rfl (pe_bm PySem.F.plainAttrs_list PySem.F.slot_list_append PySem.F.type_list_append mt_append (pe_fld (pv 0) rfl) (pa_cons (pe_fld (pv 0) rfl) pa_nil))))
      (pss_cons (ps_fld (pv 0) (pv 4) rfl)
      (pss_one (ps_ret (pv 5))))))) pss_nil)
      (pss_cons (ps_set (i := 6) nd rfl (.inl rfl) (pe_ix ix_kdict (pe_glob (by rfl) g_QUESTIONS r_QUESTIONS) (pe_ix (kIxL K rfl) (pv 2) pe_int (fun _ _ => rfl)) (fun _ _ => rfl)))
      (pss_one (ps_ret (pe_callL (i := 6) G_show (hr.mono (by first | decide | omega)) rfl (.inl rfl) F_show.kp b_show .nil pass0 (pa_cons (pe_fld (pv 0) rfl) (pa_cons (pv 2) pa_nil))))))))), ?_⟩
    obtain ⟨es, n, u, k1, k2, k3, k4⟩ := id hch
    refine ⟨.str (Str.ofString "block"), rfl, Str.ofString "block", [], congrArg (fun z => [V.str z]) (by decide +kernel), hform, by decide +kernel, by decide +kernel, by decide, (fun i h => nomatch h), fun H1 lt vs s1 n1 h1 pv => ?_⟩
    cases pv
    have hD1 := hD.same s1
    refine ⟨.ref lt, rfl, lt, _, 0, .str (Str.ofString "block"), rfl, rfl, .inl (.inl h1), atI_nat (j := 0) rfl, rfl, false, rfl, iteF ?_⟩
    refine ⟨.ref lt, rfl, lt, _, 0, .str (Str.ofString "block"), rfl, rfl, .inl (.inl h1), atI_nat (j := 0) rfl, _, some u, rfl, rfl, k3, true, rfl, iteT ?_⟩
    refine ⟨.ref lt, rfl, lt, _, 0, .str (Str.ofString "block"), rfl, rfl, .inl (.inl h1), atI_nat (j := 0) rfl, dC, _, .ref f_block, rfl, rfl, hch, ?_⟩
    refine ⟨rfl, .ref p, rfl, p, C, dx, _, .ref aA, rfl, hD1.p, cDesk, nS, dk_space _ _, .ref lt, rfl, .ref lt, rfl, fun H2 pt v2 s2 ft st => ?_⟩
    have hD2 := hD1.same s2
    refine ⟨pt, _, rfl, .inr ft.sqt, rfl, _, _, rfl, _, _, rfl, rfl, ?_⟩
    refine ⟨.ref p, rfl, p, C, dx, _, .ref l, rfl, hD2.p, cDesk, nB, dk_before _ _, .inl ⟨rfl, _, .inl (.inl hD2.l)⟩, .ref p, rfl, p, C, dx, _, _, rfl, hD2.p, cDesk, nS, dk_space _ _, l, _, _, rfl, rfl, hD2.l, hlen, ?_⟩
    have hD3 := hD2.push (bs ++ [.ref aA])
    have k3 : KeepD p l H2 (upd H2 l (.lst (bs ++ [.ref aA]))) := ktrans_lst (KeepD.of (Same.refl H2)) (xs := bs)
    generalize upd H2 l (.lst (bs ++ [.ref aA])) = H3 at hD3 k3 ⊢
    refine ⟨v2, rfl, .ref p, rfl, p, C, dx, _, rfl, hD3.p, cDesk, nS, (by rw [dk_eq]; show 2 < 1000; decide), ?_⟩
    have hD4 := hD3.put v2
    have k4' : KeepD p l H2 (upd H3 p (.ins C dx (putF "space" v2 (dkF (.ref aA) l)))) := ktrans_ins k3
    generalize upd H3 p (.ins C dx (putF "space" v2 (dkF (.ref aA) l))) = H4 at hD4 k4' ⊢
    have k5 : KeepD p l H H4 := (KeepD.of (s1.trans s2)).trans k4'
    refine ⟨_, rfl, ?_⟩
    exact q H4 v2 k5 hD4 (st.mono (k4'.tups hD2))
theorem row_part (b f : Nat) : rowT (Str.ofString "part") [.num b, .num f] = Str.ofString "part " ++ numT b ++ Str.ofString " " ++ numT f := by
  refine ext_tl ?_
  unfold rowT
  rw [tl_join', tl_append, tl_append, tl_append, List.append_assoc, List.append_assoc]
  show tl (Str.ofString "part") ++ (tl (Str.ofString " ") ++ (tl (numT b) ++ (tl (Str.ofString " ") ++ tl (numT f)))) = _
  rw [← List.append_assoc, show tl (Str.ofString "part") ++ tl (Str.ofString " ") = tl (Str.ofString "part ") by decide +kernel]
theorem row_join (b f n : Nat) (t : Trn) : rowT (Str.ofString "join") [.num b, .num f, .jn n t] = Str.ofString "join " ++ numT b ++ Str.ofString " " ++ numT f ++ Str.ofString " " ++ wordT (some (n, t)) := by
  refine ext_tl ?_
  unfold rowT
  rw [tl_join', tl_append, tl_append, tl_append, tl_append, tl_append, List.append_assoc, List.append_assoc, List.append_assoc, List.append_assoc]
  show tl (Str.ofString "join") ++ (tl (Str.ofString " ") ++ (tl (numT b) ++ (tl (Str.ofString " ") ++ (tl (numT f) ++ (tl (Str.ofString " ") ++ tl (wordT (some (n, t)))))))) = _
  rw [← List.append_assoc, show tl (Str.ofString "join") ++ tl (Str.ofString " ") = tl (Str.ofString "join ") by decide +kernel]
theorem row_p0 (f : Nat) : Str.ofString "part 0 " ++ numT f = rowT (Str.ofString "part") [.num 0, .num f] := by
  rw [row_part]
  refine ext_tl ?_
  rw [tl_append, tl_append, show tl (Str.ofString "part 0 ") = tl (Str.ofString "part " ++ numT 0 ++ Str.ofString " ") by decide +kernel]
theorem row_p1 (f : Nat) : Str.ofString "part 1 " ++ numT f = rowT (Str.ofString "part") [.num 1, .num f] := by
  rw [row_part]
  refine ext_tl ?_
  rw [tl_append, tl_append, show tl (Str.ofString "part 1 ") = tl (Str.ofString "part " ++ numT 1 ++ Str.ofString " ") by decide +kernel]
theorem row_j (f : Nat) (t : Trn) : Str.ofString "join 0 " ++ numT f ++ Str.ofString " 1:" ++ figT t = rowT (Str.ofString "join") [.num 0, .num f, .jn 1 t] := by
  rw [row_join]
  refine ext_tl ?_
  show tl _ = tl (_ ++ (numT 1 ++ Str.ofString ":" ++ figT t))
  simp only [tl_append]
  rw [show tl (Str.ofString "join 0 ") = tl (Str.ofString "join ") ++ tl (numT 0) ++ tl (Str.ofString " ") by decide +kernel, show tl (Str.ofString " 1:") = tl (Str.ofString " ") ++ (tl (numT 1) ++ tl (Str.ofString ":")) by decide +kernel]
  simp only [List.append_assoc]
/-- a row that parts -/
def spSayP (C : Addr) : Sp := fun vs H Q _ => ∃ (p dx l : Addr) (sv : V) (bs : List V) (S : Spc) (b f n : Nat) (t : Trn), vs = [.ref p, .str (rowT (Str.ofString "part") [.num b, .num f])] ∧ DkAt C p dx l sv bs H ∧ bs.length < sizeLine ∧ ST H sv S ∧ Good S ∧ S.length ≤ 60 ∧ getJ S b f = some (some (n, t)) ∧
  ∀ H' v', KeepD p l H H' → DkAt C p dx l v' (bs ++ [sv]) H' → ST H' v' (partS S b f n t) → Q (.str (Str.ofString "ok")) H'
theorem okDesk_sayP {f C dF dC dQ fR fU f_part f_show : Addr} {fd fdR fdU fd_part fd_show : FuncData} {esC : Array DictEntry} {nC : Nat} (F : Fun K "say" "Desk.say" sDesk_say f fd) (cDesk : Cls K C) (nS : NoAttr K C "space") (nB : NoAttr K C "before")
    (meDesk__undo : Meth K C "_undo" fU) (bDesk__undo : Binds K fdU ["self"] []) (GDesk__undo : FnOk P w K mg base CX0 1 fU fdU ["self"] (spUndoD C))
    (F_read : Fun K "_read" "_read" s_read fR fdR) (g_read : mg "_read" = some (.ref fR)) (b_read : Binds K fdR ["row"] []) (G_read : FnOk P w K mg base CX0 5 fR fdR ["row"] (spReadD K w dF))
    (g_CHANGES_desk : mg "CHANGES_desk" = some (.ref dC)) (DC : KDict K w dC esC nC)
    (F_part : Fun K "_part" "_part" s_part f_part fd_part) (b_part : Binds K fd_part ["space", "told"] []) (G_part : FnOk P w K mg base CX0 8 f_part fd_part ["space", "told"] spPartD)
    (g_QUESTIONS : mg "QUESTIONS" = some (.ref dQ)) (F_show : Fun K "_show" "_show" s_show f_show fd_show) (b_show : Binds K fd_show ["space", "told"] []) (G_show : FnOk P w K mg base CX0 5 f_show fd_show ["space", "told"] (spShowD K))
    (hform : FormAt K w dF "part" [Str.ofString "number", Str.ofString "number"]) (hch : KDct K w dC "part" (.ref f_part)) : FnOk P w K mg base CX0 9 f fd ["self", "row"] (spSayP C) := by
  have r_CHANGES_desk : RelV (V.ref dC) (.ref dC) := rfl
  have r_QUESTIONS : RelV (V.ref dQ) (.ref dQ) := rfl
  refine F.ok scDesk_say (fun vs H Q E h => ?_) (fun cdv A outer s H vs Q E hr h => ?_)
  · obtain ⟨p, dx, l, sv, bs, S, b, g, n, t, rfl, _⟩ := h
    rfl
  · obtain ⟨p, dx, l, sv, bs, S, b, g, n, t, rfl, hD, hlen, hst, hG, hz, hj, q⟩ := h
    have nd := scDesk_say.nd
    refine ⟨_, (pss_cons (ps_set (i := 2) nd rfl (.inl rfl) (pe_call G_read (hr.mono (by first | decide | omega)) (by rfl) g_read F_read.kp b_read .nil pass0 (pa_cons (pv 1) pa_nil)))
      (pss_cons (ps_if (pt_cmpR op_eq (pe_ix (kIxL K rfl) (pv 2) pe_int (fun _ _ => rfl)) pe_str (nomark _)) (pss_one (ps_ret (pe_meth0 (pv 0) cDesk meDesk__undo GDesk__undo (hr.mono (by first | decide | omega)) bDesk__undo .nil pass0))) pss_nil)
      (pss_cons (ps_if (pt_cmpR (op_in_kd DC) (pe_ix (kIxL K rfl) (pv 2) pe_int (fun _ _ => rfl)) (pe_glob (by rfl) g_CHANGES_desk r_CHANGES_desk) (by rfl)) (pss_cons (ps_set (i := 3) nd rfl (.inl rfl) (pe_ix ix_kdict (pe_glob (by rfl) g_CHANGES_desk r_CHANGES_desk) (pe_ix (kIxL K rfl) (pv 2) pe_int (fun _ _ => rfl)) (fun _ _ => rfl)))
      (pss_cons (ps_asg (pe_callL (i := 3) G_part (hr.mono (by first | decide | omega)) rfl (.inl rfl) F_part.kp b_part .nil pass0 (pa_cons (pe_fld (pv 0) rfl) (pa_cons (pv 2) pa_nil))) (kPgS K rfl (pg_tup (n := 2) rfl (pgs_cons (pg_name (i := 4) nd rfl (.inl rfl)) (pgs_cons (pg_name (i := 5) nd rfl (.inl rfl)) pgs_nil))) (pg_unl (n := 2) rfl (pgs_cons (pg_name (i := 4) nd rfl (.inl rfl)) (pgs_cons (pg_name (i := 5) nd rfl (.inl rfl)) pgs_nil)))))
      (pss_cons (ps_expr (kBM K rfl (pe_bm PySem.F.plainAttrs_list PySem.F.slot_list_append PySem.F.type_list_append mt_append (pe_fld (pv 0) rfl) (pa_cons (pe_fld (pv 0) rfl) pa_nil))))
      (pss_cons (ps_fld (pv 0) (pv 4) rfl)
      (pss_one (ps_ret (pv 5))))))) pss_nil)
      (pss_cons (ps_set (i := 6) nd rfl (.inl rfl) (pe_ix ix_kdict (pe_glob (by rfl) g_QUESTIONS r_QUESTIONS) (pe_ix (kIxL K rfl) (pv 2) pe_int (fun _ _ => rfl)) (fun _ _ => rfl)))
      (pss_one (ps_ret (pe_callL (i := 6) G_show (hr.mono (by first | decide | omega)) rfl (.inl rfl) F_show.kp b_show .nil pass0 (pa_cons (pe_fld (pv 0) rfl) (pa_cons (pv 2) pa_nil))))))))), ?_⟩
    obtain ⟨es, nn, u, k1, k2, k3, k4⟩ := id hch
    have lb := hG.l4.of hj
    have hi : ∀ i ∈ ([.num b, .num g] : List It), i.ok := fun i h => by
      rcases List.mem_cons.mp h with z | h
      · rw [z]
        show b < 64
        omega
      · rw [List.mem_singleton.mp h]
        show g < 64
        omega
    refine ⟨_, rfl, Str.ofString "part", [.num b, .num g], rfl, hform, by decide +kernel, by decide +kernel, by show 2 ≤ 3; decide, hi, fun H1 lt vs s1 n1 h1 pv => ?_⟩
    cases pv with | cons a1 pv =>
    cases pv with | cons a2 pv =>
    cases pv
    obtain rfl := a1
    obtain rfl := a2
    have hD1 := hD.same s1
    refine ⟨.ref lt, rfl, lt, _, 0, .str (Str.ofString "part"), rfl, rfl, .inl (.inl h1), atI_nat (j := 0) rfl, rfl, false, rfl, iteF ?_⟩
    refine ⟨.ref lt, rfl, lt, _, 0, .str (Str.ofString "part"), rfl, rfl, .inl (.inl h1), atI_nat (j := 0) rfl, _, some u, rfl, rfl, k3, true, rfl, iteT ?_⟩
    refine ⟨.ref lt, rfl, lt, _, 0, .str (Str.ofString "part"), rfl, rfl, .inl (.inl h1), atI_nat (j := 0) rfl, dC, _, .ref f_part, rfl, rfl, hch, ?_⟩
    refine ⟨rfl, .ref p, rfl, p, C, dx, _, sv, rfl, hD1.p, cDesk, nS, dk_space _ _, .ref lt, rfl, sv, lt, Str.ofString "part", S, b, g, n, t, rfl, h1, hst.mono s1.tups, hG, hz, hj, fun H2 pt v2 s2 ft st2 => ?_⟩
    have hD2 := hD1.same s2
    refine ⟨pt, _, rfl, .inr ft.sqt, rfl, _, _, rfl, _, _, rfl, rfl, ?_⟩
    refine ⟨.ref p, rfl, p, C, dx, _, .ref l, rfl, hD2.p, cDesk, nB, dk_before _ _, .inl ⟨rfl, _, .inl (.inl hD2.l)⟩, .ref p, rfl, p, C, dx, _, _, rfl, hD2.p, cDesk, nS, dk_space _ _, l, _, _, rfl, rfl, hD2.l, hlen, ?_⟩
    have hD3 := hD2.push (bs ++ [sv])
    have k3 : KeepD p l H2 (upd H2 l (.lst (bs ++ [sv]))) := ktrans_lst (KeepD.of (Same.refl H2)) (xs := bs)
    generalize upd H2 l (.lst (bs ++ [sv])) = H3 at hD3 k3 ⊢
    refine ⟨v2, rfl, .ref p, rfl, p, C, dx, _, rfl, hD3.p, cDesk, nS, (by rw [dk_eq]; show 2 < 1000; decide), ?_⟩
    have hD4 := hD3.put v2
    have k4' : KeepD p l H2 (upd H3 p (.ins C dx (putF "space" v2 (dkF (sv) l)))) := ktrans_ins k3
    generalize upd H3 p (.ins C dx (putF "space" v2 (dkF (sv) l))) = H4 at hD4 k4' ⊢
    have k5 : KeepD p l H H4 := (KeepD.of (s1.trans s2)).trans k4'
    refine ⟨_, rfl, ?_⟩
    exact q H4 v2 k5 hD4 (st2.mono (k4'.tups hD2))
/-- a row that joins -/
def spSayJ (C : Addr) : Sp := fun vs H Q _ => ∃ (p dx l : Addr) (sv : V) (bs : List V) (S : Spc) (b f n : Nat) (t : Trn), vs = [.ref p, .str (rowT (Str.ofString "join") [.num b, .num f, .jn n t])] ∧ DkAt C p dx l sv bs H ∧ bs.length < sizeLine ∧ ST H sv S ∧ Good S ∧ S.length ≤ 60 ∧ t ∈ allTurns ∧ getJ S b f = some none ∧ getJ S n (tf t f) = some none ∧ (n, tf t f) ≠ (b, f) ∧
  ∀ H' v', KeepD p l H H' → DkAt C p dx l v' (bs ++ [sv]) H' → ST H' v' (joinJ S b f n t) → Q (.str (Str.ofString "ok")) H'
theorem okDesk_sayJ {f C dF dC dQ fR fU f_join f_show : Addr} {fd fdR fdU fd_join fd_show : FuncData} {esC : Array DictEntry} {nC : Nat} (F : Fun K "say" "Desk.say" sDesk_say f fd) (cDesk : Cls K C) (nS : NoAttr K C "space") (nB : NoAttr K C "before")
    (meDesk__undo : Meth K C "_undo" fU) (bDesk__undo : Binds K fdU ["self"] []) (GDesk__undo : FnOk P w K mg base CX0 1 fU fdU ["self"] (spUndoD C))
    (F_read : Fun K "_read" "_read" s_read fR fdR) (g_read : mg "_read" = some (.ref fR)) (b_read : Binds K fdR ["row"] []) (G_read : FnOk P w K mg base CX0 5 fR fdR ["row"] (spReadD K w dF))
    (g_CHANGES_desk : mg "CHANGES_desk" = some (.ref dC)) (DC : KDict K w dC esC nC)
    (F_join : Fun K "_join" "_join" s_join f_join fd_join) (b_join : Binds K fd_join ["space", "told"] []) (G_join : FnOk P w K mg base CX0 8 f_join fd_join ["space", "told"] spJoinD)
    (g_QUESTIONS : mg "QUESTIONS" = some (.ref dQ)) (F_show : Fun K "_show" "_show" s_show f_show fd_show) (b_show : Binds K fd_show ["space", "told"] []) (G_show : FnOk P w K mg base CX0 5 f_show fd_show ["space", "told"] (spShowD K))
    (hform : FormAt K w dF "join" [Str.ofString "number", Str.ofString "number", Str.ofString "joining"]) (hch : KDct K w dC "join" (.ref f_join)) : FnOk P w K mg base CX0 9 f fd ["self", "row"] (spSayJ C) := by
  have r_CHANGES_desk : RelV (V.ref dC) (.ref dC) := rfl
  have r_QUESTIONS : RelV (V.ref dQ) (.ref dQ) := rfl
  refine F.ok scDesk_say (fun vs H Q E h => ?_) (fun cdv A outer s H vs Q E hr h => ?_)
  · obtain ⟨p, dx, l, sv, bs, S, b, g, n, t, rfl, _⟩ := h
    rfl
  · obtain ⟨p, dx, l, sv, bs, S, b, g, n, t, rfl, hD, hlen, hst, hG, hz, ht, hj, hj2, hne, q⟩ := h
    have nd := scDesk_say.nd
    refine ⟨_, (pss_cons (ps_set (i := 2) nd rfl (.inl rfl) (pe_call G_read (hr.mono (by first | decide | omega)) (by rfl) g_read F_read.kp b_read .nil pass0 (pa_cons (pv 1) pa_nil)))
      (pss_cons (ps_if (pt_cmpR op_eq (pe_ix (kIxL K rfl) (pv 2) pe_int (fun _ _ => rfl)) pe_str (nomark _)) (pss_one (ps_ret (pe_meth0 (pv 0) cDesk meDesk__undo GDesk__undo (hr.mono (by first | decide | omega)) bDesk__undo .nil pass0))) pss_nil)
      (pss_cons (ps_if (pt_cmpR (op_in_kd DC) (pe_ix (kIxL K rfl) (pv 2) pe_int (fun _ _ => rfl)) (pe_glob (by rfl) g_CHANGES_desk r_CHANGES_desk) (by rfl)) (pss_cons (ps_set (i := 3) nd rfl (.inl rfl) (pe_ix ix_kdict (pe_glob (by rfl) g_CHANGES_desk r_CHANGES_desk) (pe_ix (kIxL K rfl) (pv 2) pe_int (fun _ _ => rfl)) (fun _ _ => rfl)))
      (pss_cons (ps_asg (pe_callL (i := 3) G_join (hr.mono (by first | decide | omega)) rfl (.inl rfl) F_join.kp b_join .nil pass0 (pa_cons (pe_fld (pv 0) rfl) (pa_cons (pv 2) pa_nil))) (kPgS K rfl (pg_tup (n := 2) rfl (pgs_cons (pg_name (i := 4) nd rfl (.inl rfl)) (pgs_cons (pg_name (i := 5) nd rfl (.inl rfl)) pgs_nil))) (pg_unl (n := 2) rfl (pgs_cons (pg_name (i := 4) nd rfl (.inl rfl)) (pgs_cons (pg_name (i := 5) nd rfl (.inl rfl)) pgs_nil)))))
      (pss_cons (ps_expr (kBM K rfl (pe_bm PySem.F.plainAttrs_list PySem.F.slot_list_append PySem.F.type_list_append mt_append (pe_fld (pv 0) rfl) (pa_cons (pe_fld (pv 0) rfl) pa_nil))))
      (pss_cons (ps_fld (pv 0) (pv 4) rfl)
      (pss_one (ps_ret (pv 5))))))) pss_nil)
      (pss_cons (ps_set (i := 6) nd rfl (.inl rfl) (pe_ix ix_kdict (pe_glob (by rfl) g_QUESTIONS r_QUESTIONS) (pe_ix (kIxL K rfl) (pv 2) pe_int (fun _ _ => rfl)) (fun _ _ => rfl)))
      (pss_one (ps_ret (pe_callL (i := 6) G_show (hr.mono (by first | decide | omega)) rfl (.inl rfl) F_show.kp b_show .nil pass0 (pa_cons (pe_fld (pv 0) rfl) (pa_cons (pv 2) pa_nil))))))))), ?_⟩
    obtain ⟨es, nn, u, k1, k2, k3, k4⟩ := id hch
    have lb := hG.l4.of hj
    have lb2 := hG.l4.of hj2
    have hi : ∀ i ∈ ([.num b, .num g, .jn n t] : List It), i.ok := fun i h => by
      rcases List.mem_cons.mp h with z | h
      · rw [z]
        show b < 64
        omega
      · rcases List.mem_cons.mp h with z | h
        · rw [z]
          show g < 64
          omega
        · rw [List.mem_singleton.mp h]
          exact ⟨by omega, ht⟩
    refine ⟨_, rfl, Str.ofString "join", [.num b, .num g, .jn n t], rfl, hform, by decide +kernel, by decide +kernel, by show 3 ≤ 3; decide, hi, fun H1 lt vs s1 n1 h1 pv => ?_⟩
    cases pv with | cons a1 pv =>
    cases pv with | cons a2 pv =>
    cases pv with | cons a3 pv =>
    cases pv
    obtain rfl := a1
    obtain rfl := a2
    rename_i jv
    have hD1 := hD.same s1
    refine ⟨.ref lt, rfl, lt, _, 0, .str (Str.ofString "join"), rfl, rfl, .inl (.inl h1), atI_nat (j := 0) rfl, rfl, false, rfl, iteF ?_⟩
    refine ⟨.ref lt, rfl, lt, _, 0, .str (Str.ofString "join"), rfl, rfl, .inl (.inl h1), atI_nat (j := 0) rfl, _, some u, rfl, rfl, k3, true, rfl, iteT ?_⟩
    refine ⟨.ref lt, rfl, lt, _, 0, .str (Str.ofString "join"), rfl, rfl, .inl (.inl h1), atI_nat (j := 0) rfl, dC, _, .ref f_join, rfl, rfl, hch, ?_⟩
    refine ⟨rfl, .ref p, rfl, p, C, dx, _, sv, rfl, hD1.p, cDesk, nS, dk_space _ _, .ref lt, rfl, sv, jv, lt, Str.ofString "join", S, b, g, n, t, rfl, h1, a3, hst.mono s1.tups, hG, hz, ht, hj, hj2, hne, fun H2 pt v2 s2 ft st2 => ?_⟩
    have hD2 := hD1.same s2
    refine ⟨pt, _, rfl, .inr ft.sqt, rfl, _, _, rfl, _, _, rfl, rfl, ?_⟩
    refine ⟨.ref p, rfl, p, C, dx, _, .ref l, rfl, hD2.p, cDesk, nB, dk_before _ _, .inl ⟨rfl, _, .inl (.inl hD2.l)⟩, .ref p, rfl, p, C, dx, _, _, rfl, hD2.p, cDesk, nS, dk_space _ _, l, _, _, rfl, rfl, hD2.l, hlen, ?_⟩
    have hD3 := hD2.push (bs ++ [sv])
    have k3 : KeepD p l H2 (upd H2 l (.lst (bs ++ [sv]))) := ktrans_lst (KeepD.of (Same.refl H2)) (xs := bs)
    generalize upd H2 l (.lst (bs ++ [sv])) = H3 at hD3 k3 ⊢
    refine ⟨v2, rfl, .ref p, rfl, p, C, dx, _, rfl, hD3.p, cDesk, nS, (by rw [dk_eq]; show 2 < 1000; decide), ?_⟩
    have hD4 := hD3.put v2
    have k4' : KeepD p l H2 (upd H3 p (.ins C dx (putF "space" v2 (dkF (sv) l)))) := ktrans_ins k3
    generalize upd H3 p (.ins C dx (putF "space" v2 (dkF (sv) l))) = H4 at hD4 k4' ⊢
    have k5 : KeepD p l H H4 := (KeepD.of (s1.trans s2)).trans k4'
    refine ⟨_, rfl, ?_⟩
    exact q H4 v2 k5 hD4 (st2.mono (k4'.tups hD2))
/-- the row "show" -/
def spSayS (K : PySem.W.Frag) (C : Addr) : Sp := fun vs H Q _ => ∃ (p dx l : Addr) (sv : V) (bs : List V) (d : PyData) (S : Spc), vs = [.ref p, .str (Str.ofString "show")] ∧ DkAt C p dx l sv bs H ∧ Dp K H sv d ∧ norm d = nS S ∧ Sb S ∧ ∀ H', Same H H' → Q (.str (shownT S)) H'
theorem okDesk_sayS {f C dF dC dQ fR fU f_part f_show : Addr} {fd fdR fdU fd_part fd_show : FuncData} {esC : Array DictEntry} {nC : Nat} (F : Fun K "say" "Desk.say" sDesk_say f fd) (cDesk : Cls K C) (nS : NoAttr K C "space") (nB : NoAttr K C "before")
    (meDesk__undo : Meth K C "_undo" fU) (bDesk__undo : Binds K fdU ["self"] []) (GDesk__undo : FnOk P w K mg base CX0 1 fU fdU ["self"] (spUndoD C))
    (F_read : Fun K "_read" "_read" s_read fR fdR) (g_read : mg "_read" = some (.ref fR)) (b_read : Binds K fdR ["row"] []) (G_read : FnOk P w K mg base CX0 5 fR fdR ["row"] (spReadD K w dF))
    (g_CHANGES_desk : mg "CHANGES_desk" = some (.ref dC)) (DC : KDict K w dC esC nC)
    (F_part : Fun K "_part" "_part" s_part f_part fd_part) (b_part : Binds K fd_part ["space", "told"] []) (G_part : FnOk P w K mg base CX0 8 f_part fd_part ["space", "told"] spPartD)
    (g_QUESTIONS : mg "QUESTIONS" = some (.ref dQ)) (F_show : Fun K "_show" "_show" s_show f_show fd_show) (b_show : Binds K fd_show ["space", "told"] []) (G_show : FnOk P w K mg base CX0 5 f_show fd_show ["space", "told"] (spShowD K))
    (hform : FormAt K w dF "show" []) (hno : PySem.W.nsIn K dC "show" = some none) (hch : KDct K w dQ "show" (.ref f_show)) : FnOk P w K mg base CX0 9 f fd ["self", "row"] (spSayS K C) := by
  have r_CHANGES_desk : RelV (V.ref dC) (.ref dC) := rfl
  have r_QUESTIONS : RelV (V.ref dQ) (.ref dQ) := rfl
  refine F.ok scDesk_say (fun vs H Q E h => ?_) (fun cdv A outer s H vs Q E hr h => ?_)
  · obtain ⟨p, dx, l, sv, bs, d, S, rfl, _⟩ := h
    rfl
  · obtain ⟨p, dx, l, sv, bs, d, S, rfl, hD, hd, hn, hS, q⟩ := h
    have nd := scDesk_say.nd
    refine ⟨_, (pss_cons (ps_set (i := 2) nd rfl (.inl rfl) (pe_call G_read (hr.mono (by first | decide | omega)) (by rfl) g_read F_read.kp b_read .nil pass0 (pa_cons (pv 1) pa_nil)))
      (pss_cons (ps_if (pt_cmpR op_eq (pe_ix (kIxL K rfl) (pv 2) pe_int (fun _ _ => rfl)) pe_str (nomark _)) (pss_one (ps_ret (pe_meth0 (pv 0) cDesk meDesk__undo GDesk__undo (hr.mono (by first | decide | omega)) bDesk__undo .nil pass0))) pss_nil)
      (pss_cons (ps_if (pt_cmpR (op_in_kd DC) (pe_ix (kIxL K rfl) (pv 2) pe_int (fun _ _ => rfl)) (pe_glob (by rfl) g_CHANGES_desk r_CHANGES_desk) (by rfl)) (pss_cons (ps_set (i := 3) nd rfl (.inl rfl) (pe_ix ix_kdict (pe_glob (by rfl) g_CHANGES_desk r_CHANGES_desk) (pe_ix (kIxL K rfl) (pv 2) pe_int (fun _ _ => rfl)) (fun _ _ => rfl)))
      (pss_cons (ps_asg (pe_callL (i := 3) G_part (hr.mono (by first | decide | omega)) rfl (.inl rfl) F_part.kp b_part .nil pass0 (pa_cons (pe_fld (pv 0) rfl) (pa_cons (pv 2) pa_nil))) (kPgS K rfl (pg_tup (n := 2) rfl (pgs_cons (pg_name (i := 4) nd rfl (.inl rfl)) (pgs_cons (pg_name (i := 5) nd rfl (.inl rfl)) pgs_nil))) (pg_unl (n := 2) rfl (pgs_cons (pg_name (i := 4) nd rfl (.inl rfl)) (pgs_cons (pg_name (i := 5) nd rfl (.inl rfl)) pgs_nil)))))
      (pss_cons (ps_expr (kBM K rfl (pe_bm PySem.F.plainAttrs_list PySem.F.slot_list_append PySem.F.type_list_append mt_append (pe_fld (pv 0) rfl) (pa_cons (pe_fld (pv 0) rfl) pa_nil))))
      (pss_cons (ps_fld (pv 0) (pv 4) rfl)
      (pss_one (ps_ret (pv 5))))))) pss_nil)
      (pss_cons (ps_set (i := 6) nd rfl (.inl rfl) (pe_ix ix_kdict (pe_glob (by rfl) g_QUESTIONS r_QUESTIONS) (pe_ix (kIxL K rfl) (pv 2) pe_int (fun _ _ => rfl)) (fun _ _ => rfl)))
      (pss_one (ps_ret (pe_callL (i := 6) G_show (hr.mono (by first | decide | omega)) rfl (.inl rfl) F_show.kp b_show .nil pass0 (pa_cons (pe_fld (pv 0) rfl) (pa_cons (pv 2) pa_nil))))))))), ?_⟩
    refine ⟨.str (Str.ofString "show"), rfl, Str.ofString "show", [], congrArg (fun z => [V.str z]) (by decide +kernel), hform, by decide +kernel, by decide +kernel, by decide, (fun i h => nomatch h), fun H1 lt vs s1 n1 h1 pv => ?_⟩
    cases pv
    have hD1 := hD.same s1
    refine ⟨.ref lt, rfl, lt, _, 0, .str (Str.ofString "show"), rfl, rfl, .inl (.inl h1), atI_nat (j := 0) rfl, rfl, false, rfl, iteF ?_⟩
    refine ⟨.ref lt, rfl, lt, _, 0, .str (Str.ofString "show"), rfl, rfl, .inl (.inl h1), atI_nat (j := 0) rfl, _, none, rfl, rfl, hno, false, rfl, iteF ?_⟩
    refine ⟨.ref lt, rfl, lt, _, 0, .str (Str.ofString "show"), rfl, rfl, .inl (.inl h1), atI_nat (j := 0) rfl, dQ, _, .ref f_show, rfl, rfl, hch, ?_⟩
    exact ⟨rfl, .ref p, rfl, p, C, dx, _, sv, rfl, hD1.p, cDesk, nS, dk_space _ _, .ref lt, rfl, sv, .ref lt, d, S, rfl, hd.same s1, hn, hS, fun H2 s2 => q H2 (s1.trans s2)⟩
/-- the row "undo", after a change -/
def spSayU (C : Addr) : Sp := fun vs H Q _ => ∃ (p dx l : Addr) (sv x : V) (bs : List V), vs = [.ref p, .str (Str.ofString "undo")] ∧ DkAt C p dx l sv (bs ++ [x]) H ∧ ∀ H', KeepD p l H H' → DkAt C p dx l x bs H' → Q (.str (Str.ofString "ok")) H'
theorem okDesk_sayU {f C dF dC dQ fR fU f_part f_show : Addr} {fd fdR fdU fd_part fd_show : FuncData} {esC : Array DictEntry} {nC : Nat} (F : Fun K "say" "Desk.say" sDesk_say f fd) (cDesk : Cls K C) (nS : NoAttr K C "space") (nB : NoAttr K C "before")
    (meDesk__undo : Meth K C "_undo" fU) (bDesk__undo : Binds K fdU ["self"] []) (GDesk__undo : FnOk P w K mg base CX0 1 fU fdU ["self"] (spUndoD C))
    (F_read : Fun K "_read" "_read" s_read fR fdR) (g_read : mg "_read" = some (.ref fR)) (b_read : Binds K fdR ["row"] []) (G_read : FnOk P w K mg base CX0 5 fR fdR ["row"] (spReadD K w dF))
    (g_CHANGES_desk : mg "CHANGES_desk" = some (.ref dC)) (DC : KDict K w dC esC nC)
    (F_part : Fun K "_part" "_part" s_part f_part fd_part) (b_part : Binds K fd_part ["space", "told"] []) (G_part : FnOk P w K mg base CX0 8 f_part fd_part ["space", "told"] spPartD)
    (g_QUESTIONS : mg "QUESTIONS" = some (.ref dQ)) (F_show : Fun K "_show" "_show" s_show f_show fd_show) (b_show : Binds K fd_show ["space", "told"] []) (G_show : FnOk P w K mg base CX0 5 f_show fd_show ["space", "told"] (spShowD K))
    (hform : FormAt K w dF "undo" []) : FnOk P w K mg base CX0 9 f fd ["self", "row"] (spSayU C) := by
  have r_CHANGES_desk : RelV (V.ref dC) (.ref dC) := rfl
  have r_QUESTIONS : RelV (V.ref dQ) (.ref dQ) := rfl
  refine F.ok scDesk_say (fun vs H Q E h => ?_) (fun cdv A outer s H vs Q E hr h => ?_)
  · obtain ⟨p, dx, l, sv, x, bs, rfl, _⟩ := h
    rfl
  · obtain ⟨p, dx, l, sv, x, bs, rfl, hD, q⟩ := h
    have nd := scDesk_say.nd
    refine ⟨_, (pss_cons (ps_set (i := 2) nd rfl (.inl rfl) (pe_call G_read (hr.mono (by first | decide | omega)) (by rfl) g_read F_read.kp b_read .nil pass0 (pa_cons (pv 1) pa_nil)))
      (pss_cons (ps_if (pt_cmpR op_eq (pe_ix (kIxL K rfl) (pv 2) pe_int (fun _ _ => rfl)) pe_str (nomark _)) (pss_one (ps_ret (pe_meth0 (pv 0) cDesk meDesk__undo GDesk__undo (hr.mono (by first | decide | omega)) bDesk__undo .nil pass0))) pss_nil)
      (pss_cons (ps_if (pt_cmpR (op_in_kd DC) (pe_ix (kIxL K rfl) (pv 2) pe_int (fun _ _ => rfl)) (pe_glob (by rfl) g_CHANGES_desk r_CHANGES_desk) (by rfl)) (pss_cons (ps_set (i := 3) nd rfl (.inl rfl) (pe_ix ix_kdict (pe_glob (by rfl) g_CHANGES_desk r_CHANGES_desk) (pe_ix (kIxL K rfl) (pv 2) pe_int (fun _ _ => rfl)) (fun _ _ => rfl)))
      (pss_cons (ps_asg (pe_callL (i := 3) G_part (hr.mono (by first | decide | omega)) rfl (.inl rfl) F_part.kp b_part .nil pass0 (pa_cons (pe_fld (pv 0) rfl) (pa_cons (pv 2) pa_nil))) (kPgS K rfl (pg_tup (n := 2) rfl (pgs_cons (pg_name (i := 4) nd rfl (.inl rfl)) (pgs_cons (pg_name (i := 5) nd rfl (.inl rfl)) pgs_nil))) (pg_unl (n := 2) rfl (pgs_cons (pg_name (i := 4) nd rfl (.inl rfl)) (pgs_cons (pg_name (i := 5) nd rfl (.inl rfl)) pgs_nil)))))
      (pss_cons (ps_expr (kBM K rfl (pe_bm PySem.F.plainAttrs_list PySem.F.slot_list_append PySem.F.type_list_append mt_append (pe_fld (pv 0) rfl) (pa_cons (pe_fld (pv 0) rfl) pa_nil))))
      (pss_cons (ps_fld (pv 0) (pv 4) rfl)
      (pss_one (ps_ret (pv 5))))))) pss_nil)
      (pss_cons (ps_set (i := 6) nd rfl (.inl rfl) (pe_ix ix_kdict (pe_glob (by rfl) g_QUESTIONS r_QUESTIONS) (pe_ix (kIxL K rfl) (pv 2) pe_int (fun _ _ => rfl)) (fun _ _ => rfl)))
      (pss_one (ps_ret (pe_callL (i := 6) G_show (hr.mono (by first | decide | omega)) rfl (.inl rfl) F_show.kp b_show .nil pass0 (pa_cons (pe_fld (pv 0) rfl) (pa_cons (pv 2) pa_nil))))))))), ?_⟩
    refine ⟨.str (Str.ofString "undo"), rfl, Str.ofString "undo", [], congrArg (fun z => [V.str z]) (by decide +kernel), hform, by decide +kernel, by decide +kernel, by decide, (fun i h => nomatch h), fun H1 lt vs s1 n1 h1 pv => ?_⟩
    cases pv
    have hD1 := hD.same s1
    refine ⟨.ref lt, rfl, lt, _, 0, .str (Str.ofString "undo"), rfl, rfl, .inl (.inl h1), atI_nat (j := 0) rfl, rfl, true, rfl, iteT ?_⟩
    exact ⟨.ref p, rfl, p, dx, _, rfl, hD1.p, dk_no _ _ (by decide +kernel) (by decide +kernel), p, dx, l, sv, x, bs, rfl, hD1, fun H2 k2 d2 => q H2 ((KeepD.of s1).trans k2) d2⟩
/-- the row "undo", where nothing was changed -/
def spSayX (C D : Addr) : Sp := fun vs H _ E => ∃ (p dx l : Addr) (sv : V), vs = [.ref p, .str (Str.ofString "undo")] ∧ DkAt C p dx l sv [] H ∧ ∀ H', Same H H' → E (.ref D) none H'
theorem okDesk_sayX {f C dF dC dQ fR fU f_part f_show D : Addr} {fd fdR fdU fd_part fd_show : FuncData} {esC : Array DictEntry} {nC : Nat} (F : Fun K "say" "Desk.say" sDesk_say f fd) (cDesk : Cls K C) (nS : NoAttr K C "space") (nB : NoAttr K C "before")
    (meDesk__undo : Meth K C "_undo" fU) (bDesk__undo : Binds K fdU ["self"] []) (GDesk__undo : FnOk P w K mg base (L2.CX P w) 1 fU fdU ["self"] (spUndoX C D))
    (F_read : Fun K "_read" "_read" s_read fR fdR) (g_read : mg "_read" = some (.ref fR)) (b_read : Binds K fdR ["row"] []) (G_read : FnOk P w K mg base CX0 5 fR fdR ["row"] (spReadD K w dF))
    (g_CHANGES_desk : mg "CHANGES_desk" = some (.ref dC)) (DC : KDict K w dC esC nC)
    (F_part : Fun K "_part" "_part" s_part f_part fd_part) (b_part : Binds K fd_part ["space", "told"] []) (G_part : FnOk P w K mg base CX0 8 f_part fd_part ["space", "told"] spPartD)
    (g_QUESTIONS : mg "QUESTIONS" = some (.ref dQ)) (F_show : Fun K "_show" "_show" s_show f_show fd_show) (b_show : Binds K fd_show ["space", "told"] []) (G_show : FnOk P w K mg base CX0 5 f_show fd_show ["space", "told"] (spShowD K))
    (hform : FormAt K w dF "undo" []) : FnOk P w K mg base (L2.CX P w) 9 f fd ["self", "row"] (spSayX C D) := by
  have r_CHANGES_desk : RelV (V.ref dC) (.ref dC) := rfl
  have r_QUESTIONS : RelV (V.ref dQ) (.ref dQ) := rfl
  refine F.okX scDesk_say (fun vs H Q E h => ?_) (fun cdv A outer s H vs Q E hr h => ?_)
  · obtain ⟨p, dx, l, sv, rfl, _⟩ := h
    rfl
  · obtain ⟨p, dx, l, sv, rfl, hD, q⟩ := h
    have nd := scDesk_say.nd
    refine ⟨_, (pss_cons (ps_set (i := 2) nd rfl (.inl rfl) (pe_call G_read (hr.mono (by first | decide | omega)) (by rfl) g_read F_read.kp b_read .nil pass0 (pa_cons (pv 1) pa_nil)))
      (pss_cons (ps_if (pt_cmpR op_eq (pe_ix (kIxL K rfl) (pv 2) pe_int (fun _ _ => rfl)) pe_str (nomark _)) (pss_one (ps_ret (pe_methX0 (pv 0) cDesk meDesk__undo GDesk__undo (hr.mono (by first | decide | omega)) bDesk__undo (fun σ => passAt (takes_of rfl rfl rfl rfl) σ)))) pss_nil)
      (pss_cons (ps_if (pt_cmpR (op_in_kd DC) (pe_ix (kIxL K rfl) (pv 2) pe_int (fun _ _ => rfl)) (pe_glob (by rfl) g_CHANGES_desk r_CHANGES_desk) (by rfl)) (pss_cons (ps_set (i := 3) nd rfl (.inl rfl) (pe_ix ix_kdict (pe_glob (by rfl) g_CHANGES_desk r_CHANGES_desk) (pe_ix (kIxL K rfl) (pv 2) pe_int (fun _ _ => rfl)) (fun _ _ => rfl)))
      (pss_cons (ps_asg (pe_callL (i := 3) G_part (hr.mono (by first | decide | omega)) rfl (.inl rfl) F_part.kp b_part .nil pass0 (pa_cons (pe_fld (pv 0) rfl) (pa_cons (pv 2) pa_nil))) (kPgS K rfl (pg_tup (n := 2) rfl (pgs_cons (pg_name (i := 4) nd rfl (.inl rfl)) (pgs_cons (pg_name (i := 5) nd rfl (.inl rfl)) pgs_nil))) (pg_unl (n := 2) rfl (pgs_cons (pg_name (i := 4) nd rfl (.inl rfl)) (pgs_cons (pg_name (i := 5) nd rfl (.inl rfl)) pgs_nil)))))
      (pss_cons (ps_expr (kBM K rfl (pe_bm PySem.F.plainAttrs_list PySem.F.slot_list_append PySem.F.type_list_append mt_append (pe_fld (pv 0) rfl) (pa_cons (pe_fld (pv 0) rfl) pa_nil))))
      (pss_cons (ps_fld (pv 0) (pv 4) rfl)
      (pss_one (ps_ret (pv 5))))))) pss_nil)
      (pss_cons (ps_set (i := 6) nd rfl (.inl rfl) (pe_ix ix_kdict (pe_glob (by rfl) g_QUESTIONS r_QUESTIONS) (pe_ix (kIxL K rfl) (pv 2) pe_int (fun _ _ => rfl)) (fun _ _ => rfl)))
      (pss_one (ps_ret (pe_callL (i := 6) G_show (hr.mono (by first | decide | omega)) rfl (.inl rfl) F_show.kp b_show .nil pass0 (pa_cons (pe_fld (pv 0) rfl) (pa_cons (pv 2) pa_nil))))))))), ?_⟩
    refine ⟨.str (Str.ofString "undo"), rfl, Str.ofString "undo", [], congrArg (fun z => [V.str z]) (by decide +kernel), hform, by decide +kernel, by decide +kernel, by decide, (fun i h => nomatch h), fun H1 lt vs s1 n1 h1 pv => ?_⟩
    cases pv
    have hD1 := hD.same s1
    refine ⟨.ref lt, rfl, lt, _, 0, .str (Str.ofString "undo"), rfl, rfl, .inl (.inl h1), atI_nat (j := 0) rfl, rfl, true, rfl, iteT ?_⟩
    exact ⟨.ref p, rfl, p, dx, _, rfl, hD1.p, dk_no _ _ (by decide +kernel) (by decide +kernel), p, dx, l, sv, rfl, hD1, q _ s1⟩
end
end Bk

namespace Bk
open PySem PySem.Spec PyProof.Rows L2 RZ TL
local macro_rules | `(tactic| walk_at "g") => `(tactic| (repeat first | refine ⟨_, rfl, ?_⟩ | refine ⟨cpow, ?_⟩ | refine ⟨_, _, rfl, rfl, ?_⟩ | refine ⟨rfl, ?_⟩))
section
variable {P : Program} {w : World} {K : PySem.W.Frag} {mg : Str → Option Value} {base : Heap}
abbrev s_law_nothing_left : Stmt := topS 176
abbrev N_law_nothing_left : List Str := ["desk", "left"]
theorem sc_law_nothing_left : FnScope N_law_nothing_left ["desk"] (defScope s_law_nothing_left) := ⟨rfl, rfl, rfl, by decide +kernel, rfl, by decide +kernel, by decide +kernel⟩
def spNothing (C : Addr) : Sp := fun vs H Q _ => ∃ (p dx l : Addr) (sv : V), vs = [.ref p] ∧ DkAt C p dx l sv [] H ∧ ∀ H', Same H H' → Q (.bl true) H'
theorem ok_law_nothing_left {f C D fS : Addr} {fd fdS : FuncData} (F : Fun K "_law_nothing_left" "_law_nothing_left" s_law_nothing_left f fd) (cDesk : Cls K C) (gNoneYet : mg "NoneYet" = some (.ref D)) (eNoneYet : PySem.W.exmOne K (.ref D) (.ref D) = some true)
    (meDesk_say : Meth K C "say" fS) (bDesk_say : Binds K fdS ["self", "row"] []) (GDesk_say : FnOk P w K mg base (L2.CX P w) 9 fS fdS ["self", "row"] (spSayX C D)) : FnOk P w K mg base CX0 10 f fd ["desk"] (spNothing C) := by
  refine F.ok sc_law_nothing_left (fun vs H Q E h => ?_) (fun cdv A outer s H vs Q E hr h => ?_)
  · obtain ⟨p, dx, l, sv, rfl, _⟩ := h
    rfl
  · obtain ⟨p, dx, l, sv, rfl, hD, q⟩ := h
    have nd := sc_law_nothing_left.nd
    refine ⟨_, (pss_cons (ps_set (i := 1) nd rfl (.inl rfl) pe_bl)
      (pss_cons (ps_try_only rfl rfl ⟨rfl, by decide, .inl gNoneYet⟩ takes0 (fun W pn xe tk _ => (pss_one (ps_expr (pe_methX (pv 0) cDesk meDesk_say GDesk_say (hr.mono (by first | decide | omega)) bDesk_say (fun σ => passAt tk σ) (pa_cons pe_str pa_nil))))) (fun a oe cls d pn hz hv => (pss_one (ps_set (i := 1) nd rfl (.inl rfl) pe_bl))))
      (pss_one (ps_ret (pe_not (pv 1)))))), ?_⟩
    refine ⟨_, rfl, ?_⟩
    refine ⟨p, dx, _, rfl, hD.p, dk_no _ _ (by decide +kernel) (by decide +kernel), p, dx, l, sv, rfl, hD, fun H1 s1 => ?_⟩
    refine ⟨true, eNoneYet, fun _ a na => ?_, fun z => by cases z⟩
    exact ⟨_, rfl, false, rfl, q H1 s1⟩
end
end Bk

namespace Bk
open PySem PySem.Spec PyProof.Rows L2 RZ TL
local macro_rules | `(tactic| walk_at "g") => `(tactic| (repeat first | refine ⟨_, rfl, ?_⟩ | refine ⟨cpow, ?_⟩ | refine ⟨_, _, rfl, rfl, ?_⟩ | refine ⟨rfl, ?_⟩))
/-! ### a day at the desk -/
structure Day (C p dx l ls aA : Addr) (al : V) (T : List (V × V × Spc)) (H : Hp) : Prop where
  sp : H ls = some (.lst (al :: T.map (·.1)))
  dk : ∃ bs sv, bs ++ [sv] = V.ref aA :: T.map (·.2.1) ∧ DkAt C p dx l sv bs H
  t : ∀ t ∈ T, ST H t.1 t.2.2 ∧ ST H t.2.1 t.2.2 ∧ Good t.2.2 ∧ t.2.2.length = 2
  a : ST H al [free4]
  n : ls ≠ l ∧ ls ≠ p
section
variable {C p dx l ls aA : Addr} {al : V} {T : List (V × V × Spc)} {H H' : Hp}
theorem Day.first (h : Day C p dx l ls aA al [] H) : DkAt C p dx l (.ref aA) [] H := by
  obtain ⟨bs, sv, e, d⟩ := h.dk
  obtain ⟨rfl, e2⟩ := List.append_inj' (show bs ++ [sv] = [] ++ [V.ref aA] from e) rfl
  obtain rfl : sv = V.ref aA := List.head_eq_of_cons_eq e2
  exact d
theorem Day.last {x : V × V × Spc} (h : Day C p dx l ls aA al (T ++ [x]) H) : DkAt C p dx l x.2.1 (V.ref aA :: T.map (·.2.1)) H := by
  obtain ⟨bs, sv, e, d⟩ := h.dk
  rw [List.map_append] at e
  obtain ⟨rfl, e2⟩ := List.append_inj' (show bs ++ [sv] = (V.ref aA :: T.map (·.2.1)) ++ [x.2.1] from e) rfl
  obtain rfl : sv = x.2.1 := List.head_eq_of_cons_eq e2
  exact d
/-- what neither touches desk nor list of spaces -/
theorem Day.late (h : Day C p dx l ls aA al T H) (k : ∀ b o, H b = some o → b = p ∨ b = l ∨ b = ls ∨ (∃ (u : Obj) (xs : List V), o = .frz u (.tup xs)) → H' b = some o) : Day C p dx l ls aA al T H' := by
  have m : Tups H H' := fun b o xs e => k b _ e (.inr (.inr (.inr ⟨o, xs, rfl⟩)))
  obtain ⟨bs, sv, e, d⟩ := h.dk
  exact ⟨k _ _ h.sp (.inr (.inr (.inl rfl))), ⟨bs, sv, e, k _ _ d.p (.inl rfl), k _ _ d.l (.inr (.inl rfl))⟩, fun t ht => ⟨(h.t t ht).1.mono m, (h.t t ht).2.1.mono m, (h.t t ht).2.2⟩, h.a.mono m, h.n⟩
theorem Day.same (h : Day C p dx l ls aA al T H) (s : Same H H') : Day C p dx l ls aA al T H' := h.late fun b o e _ => s b o e
theorem Day.keep {R : Addr} (h : Day C p dx l ls aA al T H) (k : Keep R H H') (hR : Rl R H) (n : R ≠ p ∧ R ≠ l ∧ R ≠ ls) : Day C p dx l ls aA al T H' := h.late fun b o e z => k b o e fun z2 => by
  subst z2
  rcases z with z | z | z | ⟨u, xs, z⟩
  · exact n.1 z
  · exact n.2.1 z
  · exact n.2.2 z
  · obtain ⟨g, st, e2, _⟩ := hR
    rw [e, z] at e2
    cases e2
theorem Day.any (h : Day C p dx l ls aA al T H) : ∃ sv bs, DkAt C p dx l sv bs H := by
  obtain ⟨bs, sv, _, d⟩ := h.dk
  exact ⟨sv, bs, d⟩
/-- a change, and the space put behind the others -/
theorem Day.push {u v : V} {S : Spc} {bs : List V} {sv : V} {H1 H2 : Hp} (h : Day C p dx l ls aA al T H) (e : bs ++ [sv] = V.ref aA :: T.map (·.2.1)) (k : KeepD p l H H1) (d : DkAt C p dx l v (bs ++ [sv]) H1) (su : ST H1 u S) (sv' : ST H1 v S) (g : Good S ∧ S.length = 2)
    (e2 : H2 = upd H1 ls (.lst (al :: T.map (·.1) ++ [u]))) : Day C p dx l ls aA al (T ++ [(u, v, S)]) H2 := by
  obtain ⟨sv0, bs0, d0⟩ := h.any
  have hls : H1 ls = some (.lst (al :: T.map (·.1))) := k _ _ h.sp h.n.2 h.n.1
  have m1 : Tups H H1 := k.tups d0
  have m2 : Tups H1 H2 := by rw [e2]; exact tups_set hls
  have m := m1.trans m2
  refine ⟨?_, ⟨V.ref aA :: T.map (·.2.1), v, by rw [List.map_append]; rfl, ?_, ?_⟩, fun t ht => ?_, h.a.mono m, h.n⟩
  · rw [e2, upd_same, List.map_append]
    rfl
  · rw [e2, upd_ne h.n.2.symm]
    exact d.p
  · rw [e2, upd_ne h.n.1.symm, ← e]
    exact d.l
  · rcases List.mem_append.mp ht with ht | ht
    · exact ⟨(h.t t ht).1.mono m, (h.t t ht).2.1.mono m, (h.t t ht).2.2⟩
    · rw [List.mem_singleton.mp ht]
      exact ⟨su.mono m2, sv'.mono m2, g⟩
/-- the last space taken off the list -/
theorem Day.pop {x : V × V × Spc} {bs : List V} {sv : V} {H1 H2 : Hp} (h : Day C p dx l ls aA al (T ++ [x]) H) (e : bs ++ [sv] = V.ref aA :: T.map (·.2.1)) (e1 : H1 = upd H ls (.lst (al :: T.map (·.1)))) (s : Same H1 H2) {H3 : Hp} (k : KeepD p l H2 H3) (d : DkAt C p dx l sv bs H3) : Day C p dx l ls aA al T H3 := by
  obtain ⟨sv0, bs0, d0⟩ := h.any
  have m1 : Tups H H1 := by rw [e1]; exact tups_set h.sp
  have d1 : DkAt C p dx l sv0 bs0 H1 := by
    rw [e1]
    exact ⟨by rw [upd_ne h.n.2.symm]; exact d0.p, by rw [upd_ne h.n.1.symm]; exact d0.l⟩
  have m := (m1.trans s.tups).trans (k.tups (d1.same s))
  have hls : H2 ls = some (.lst (al :: T.map (·.1))) := s _ _ (by rw [e1]; exact upd_same)
  exact ⟨k _ _ hls h.n.2 h.n.1, ⟨bs, sv, e, d⟩, fun t ht => by
    have := h.t t (List.mem_append_left _ ht)
    exact ⟨this.1.mono m, this.2.1.mono m, this.2.2⟩, h.a.mono m, h.n⟩
end
theorem good2 : Good (besS [free4] [free4]) ∧ (besS [free4] [free4]).length = 2 := ⟨good1.twice good1, by rw [besS_len]; rfl⟩
def aloneD : PyData := .tuple [.tuple [.none, .none, .none, .none]]
theorem alone_dp {K : PySem.W.Frag} {H : Hp} {a c : Addr} (h1 : SqT K H a [.ref c]) (h2 : SqT K H c nones) : Dp K H (.ref a) aloneD := .tup h1 (.cons (.tup h2 (.cons .non (.cons .non (.cons .non (.cons .non .nil))))) .nil)
theorem alone_norm : norm aloneD = nS [free4] := norm_shut [free4]
theorem ST.alone {H : Hp} {a c : Addr} (h1 : FT H a [.ref c]) (h2 : FT H c nones) : ST H (.ref a) [free4] := ⟨a, _, rfl, h1, .cons ⟨c, nones, rfl, h2, .cons rfl (.cons rfl (.cons rfl (.cons rfl .nil)))⟩ .nil⟩
/-- a row that _law_row tells -/
theorem say_stp {K : PySem.W.Frag} {C aA p dx l : Addr} {sv : V} {bs : List V} {S S' : Spc} {x : Str} {H : Hp} {Q : VK} {E : XK} (h : Stp S x S') (d : DkAt C p dx l sv bs H) (hb : bs.length < sizeLine) (st : ST H sv S) (g : Good S) (h2 : S.length = 2)
    (q : ∀ H' v', KeepD p l H H' → DkAt C p dx l v' (bs ++ [sv]) H' → ST H' v' S' → Q (.str (Str.ofString "ok")) H') : spSayB C aA [.ref p, .str x] H Q E ∨ (spSayP C [.ref p, .str x] H Q E ∨ (spSayJ C [.ref p, .str x] H Q E ∨ (spSayS K C [.ref p, .str x] H Q E ∨ spSayU C [.ref p, .str x] H Q E))) := by
  cases h with
  | p0 hf hj =>
    refine .inr (.inl ⟨p, dx, l, sv, bs, S, 0, _, _, _, ?_, d, hb, st, g, by omega, hj, q⟩)
    rw [row_p0]
  | p1 hf hj =>
    refine .inr (.inl ⟨p, dx, l, sv, bs, S, 1, _, _, _, ?_, d, hb, st, g, by omega, hj, q⟩)
    rw [row_p1]
  | j hf ht hj hj2 =>
    refine .inr (.inr (.inl ⟨p, dx, l, sv, bs, S, 0, _, 1, _, ?_, d, hb, st, g, by omega, ht, hj, hj2, (fun z => by injection z with z _; cases z), q⟩))
    rw [row_j]
theorem ne_same (x : Str) : V.bl (!decide (V.str x = V.str x)) = V.bl false := by simp
theorem eq_same (x : Str) : V.bl (decide (V.str x = V.str x)) = V.bl true := by simp
section
variable {P : Program} {w : World} {K : PySem.W.Frag} {mg : Str → Option Value} {base : Heap}
abbrev slaw : Stmt := topS 177
abbrev Nlaw : List Str := ["script", "alone", "desk", "spaces", "k", "reel", "again", "row", "space"]
theorem sclaw : FnScope Nlaw ["script"] (defScope slaw) := ⟨rfl, rfl, rfl, by decide +kernel, rfl, by decide +kernel, by decide +kernel⟩
def spSay (K : PySem.W.Frag) (C aA : Addr) : Sp := fun vs H Q E => spSayB C aA vs H Q E ∨ (spSayP C vs H Q E ∨ (spSayJ C vs H Q E ∨ (spSayS K C vs H Q E ∨ spSayU C vs H Q E)))
def spLaw (K : PySem.W.Frag) : Sp := fun vs H Q _ => ∃ (a : Addr) (ns : List Int), vs = [.ref a] ∧ SqL K H a (ns.map V.int) ∧ ns.length ≤ 63 ∧ ∀ H', Q (.bl true) H'
theorem ok_law {f C aA cA fI fS fB fR fW fD fE fH fN : Addr} {fd fdI fdS fdB fdR fdW fdD fdE fdH fdN : FuncData} (F : Fun K "law" "law" slaw f fd) (cDesk : Cls K C)
    (MDesk : Mk K C fI) (gDesk : mg "Desk" = some (.ref C)) (bDesk___init__ : Binds K fdI ["self"] []) (GDesk___init__ : FnOk P w K mg base CX0 1 fI fdI ["self"] (spInitD C aA))
    (meDesk_say : Meth K C "say" fS) (bDesk_say : Binds K fdS ["self", "row"] []) (GDesk_say : FnOk P w K mg base CX0 9 fS fdS ["self", "row"] (spSay K C aA))
    (Fbeside : Fun K "beside" "beside" sbeside fB fdB) (gbeside : mg "beside" = some (.ref fB)) (bbeside : Binds K fdB ["one", "other"] []) (Gbeside : FnOk P w K mg base CX0 7 fB fdB ["one", "other"] (spBesideC K))
    (F_law_reel : Fun K "_law_reel" "_law_reel" s_law_reel fR fdR) (g_law_reel : mg "_law_reel" = some (.ref fR)) (b_law_reel : Binds K fdR ["cell", "k"] []) (G_law_reel : FnOk P w K mg base CX0 1 fR fdR ["cell", "k"] spReelD)
    (F_law_cell : Fun K "_law_cell" "_law_cell" s_law_cell fE fdE) (g_law_cell : mg "_law_cell" = some (.ref fE)) (b_law_cell : Binds K fdE ["script", "k"] []) (G_law_cell : FnOk P w K mg base CX0 1 fE fdE ["script", "k"] (spCell K))
    (F_law_draw : Fun K "_law_draw" "_law_draw" s_law_draw fD fdD) (g_law_draw : mg "_law_draw" = some (.ref fD)) (b_law_draw : Binds K fdD ["reel", "many"] []) (G_law_draw : FnOk P w K mg base CX0 1 fD fdD ["reel", "many"] spDrawD)
    (F_law_row : Fun K "_law_row" "_law_row" s_law_row fW fdW) (g_law_row : mg "_law_row" = some (.ref fW)) (b_law_row : Binds K fdW ["reel", "space"] []) (G_law_row : FnOk P w K mg base CX0 8 fW fdW ["reel", "space"] spRow)
    (F_law_shown : Fun K "_law_shown" "_law_shown" s_law_shown fH fdH) (g_law_shown : mg "_law_shown" = some (.ref fH)) (b_law_shown : Binds K fdH ["space"] []) (G_law_shown : FnOk P w K mg base CX0 4 fH fdH ["space"] (spShown K))
    (F_law_nothing_left : Fun K "_law_nothing_left" "_law_nothing_left" s_law_nothing_left fN fdN) (g_law_nothing_left : mg "_law_nothing_left" = some (.ref fN)) (b_law_nothing_left : Binds K fdN ["desk"] []) (G_law_nothing_left : FnOk P w K mg base CX0 10 fN fdN ["desk"] (spNothing C))
    (hA : ∀ H, SqT K H aA [.ref cA]) (hcA : ∀ H, SqT K H cA nones)
    (m_range : mg "range" = none) (m_len : mg "len" = none) (m_min : mg "min" = none) (m_max : mg "max" = none) : FnOk P w K mg base CX0 11 f fd ["script"] (spLaw K) := by
  refine F.ok sclaw (fun vs H Q E h => ?_) (fun cdv A outer s H vs Q E hr h => ?_)
  · obtain ⟨a, ns, rfl, _⟩ := h
    rfl
  · obtain ⟨a, ns, rfl, hS, hl, q⟩ := h
    have nd := sclaw.nd
    refine ⟨_, (pss_cons (ps_set (i := 1) nd rfl (.inl rfl) (pe_tupF (pa_cons (pe_tupF (pa_cons pe_non (pa_cons pe_non (pa_cons pe_non (pa_cons pe_non pa_nil))))) pa_nil)))
      (pss_cons (ps_set (i := 2) nd rfl (.inl rfl) (pe_make0 MDesk GDesk___init__ (hr.mono (by first | decide | omega)) (by rfl) gDesk bDesk___init__ .nil pass0))
      (pss_cons (ps_set (i := 3) nd rfl (.inl rfl) (pe_lst (pa_cons (pv 1) (pa_cons (pe_call Gbeside (hr.mono (by first | decide | omega)) (by rfl) gbeside Fbeside.kp bbeside .nil pass0 (pa_cons (pv 1) (pa_cons (pv 1) pa_nil))) pa_nil))))
      (pss_cons (ps_if (pt_cmpR op_ne (pe_meth (pv 2) cDesk meDesk_say GDesk_say (hr.mono (by first | decide | omega)) bDesk_say .nil pass0 (pa_cons pe_str pa_nil)) pe_str (nomark _)) (pss_one (ps_ret pe_bl)) pss_nil)
      (pss_cons (ps_for PassesOwn.never rfl (pi_range1 (by rfl) m_range (pa_cons (pe_callB (call_max2 rfl) (by rfl) m_max (by decide +kernel) (pa_cons pe_int (pa_cons (pe_callB (call_min2 rfl) (by rfl) m_min (by decide +kernel) (pa_cons (pe_callB (kLen K rfl) (by rfl) m_len (by decide +kernel) (pa_cons (pv 0) pa_nil)) (pa_cons pe_int pa_nil))) pa_nil))) pa_nil)) (pg_name (i := 4) nd rfl (.inl rfl)) (pss_cons (ps_set (i := 5) nd rfl (.inl rfl) (pe_call G_law_reel (hr.mono (by first | decide | omega)) (by rfl) g_law_reel F_law_reel.kp b_law_reel .nil pass0 (pa_cons (pe_call G_law_cell (hr.mono (by first | decide | omega)) (by rfl) g_law_cell F_law_cell.kp b_law_cell .nil pass0 (pa_cons (pv 0) (pa_cons (pv 4) pa_nil))) (pa_cons (pv 4) pa_nil))))
      (pss_one (ps_for PassesOwn.never rfl (pi_range1 (by rfl) m_range (pa_cons (pe_op op_add pe_int (pe_call G_law_draw (hr.mono (by first | decide | omega)) (by rfl) g_law_draw F_law_draw.kp b_law_draw .nil pass0 (pa_cons (pv 5) (pa_cons pe_int pa_nil)))) pa_nil)) (pg_name (i := 6) nd rfl (.inl rfl)) (pss_cons (ps_asg (pe_call G_law_row (hr.mono (by first | decide | omega)) (by rfl) g_law_row F_law_row.kp b_law_row .nil pass0 (pa_cons (pv 5) (pa_cons (pe_ix (kIxL K rfl) (pv 3) (pe_un un_neg pe_int) (fun _ _ => rfl)) pa_nil))) (kPgS K rfl (pg_tup (n := 2) rfl (pgs_cons (pg_name (i := 7) nd rfl (.inl rfl)) (pgs_cons (pg_name (i := 8) nd rfl (.inl rfl)) pgs_nil))) (pg_unl (n := 2) rfl (pgs_cons (pg_name (i := 7) nd rfl (.inl rfl)) (pgs_cons (pg_name (i := 8) nd rfl (.inl rfl)) pgs_nil)))))
      (pss_cons (ps_if (pt_cmpR op_ne (pe_meth (pv 2) cDesk meDesk_say GDesk_say (hr.mono (by first | decide | omega)) bDesk_say .nil pass0 (pa_cons (pv 7) pa_nil)) pe_str (nomark _)) (pss_one (ps_ret pe_bl)) pss_nil)
      (pss_one (ps_expr (kBM K rfl (pe_bm PySem.F.plainAttrs_list PySem.F.slot_list_append PySem.F.type_list_append mt_append (pv 3) (pa_cons (pv 8) pa_nil)))))))))))
      (pss_cons (ps_while PassesOwn.never (pt_cmpR op_gt (pe_callB (kLen K rfl) (by rfl) m_len (by decide +kernel) (pa_cons (pv 3) pa_nil)) pe_int (nomark _)) (pss_one (ps_if (pw_or (pt_cmpR op_ne (pe_meth (pv 2) cDesk meDesk_say GDesk_say (hr.mono (by first | decide | omega)) bDesk_say .nil pass0 (pa_cons pe_str pa_nil)) (pe_call G_law_shown (hr.mono (by first | decide | omega)) (by rfl) g_law_shown F_law_shown.kp b_law_shown .nil pass0 (pa_cons (kBM0 K rfl (pe_bm0 PySem.F.plainAttrs_list PySem.F.slot_list_pop PySem.F.type_list_pop mt_pop (pv 3))) pa_nil)) (nomark _)) (pw_or1 (pt_cmpR op_ne (pe_meth (pv 2) cDesk meDesk_say GDesk_say (hr.mono (by first | decide | omega)) bDesk_say .nil pass0 (pa_cons pe_str pa_nil)) pe_str (nomark _)))).pt (pss_one (ps_ret pe_bl)) pss_nil)))
      (pss_one (ps_ret (pe_and (pe_cmpR op_eq (pe_meth (pv 2) cDesk meDesk_say GDesk_say (hr.mono (by first | decide | omega)) bDesk_say .nil pass0 (pa_cons pe_str pa_nil)) (pe_call G_law_shown (hr.mono (by first | decide | omega)) (by rfl) g_law_shown F_law_shown.kp b_law_shown .nil pass0 (pa_cons (pv 1) pa_nil)) (nomark _)) (pe_one (pe_call G_law_nothing_left (hr.mono (by first | decide | omega)) (by rfl) g_law_nothing_left F_law_nothing_left.kp b_law_nothing_left .nil pass0 (pa_cons (pv 2) pa_nil)))))))))))), ?_⟩
    refine ⟨Nat.le_of_lt (small1000 (by show 4 ≤ 1000; decide)), fun c1 o1 nc1 dc1 => ?_⟩
    have s1 : Same H (upd H c1 (.frz o1 (.tup nones))) := same_new nc1
    have f1 : FT (upd H c1 (.frz o1 (.tup nones))) c1 nones := FT.new dc1
    show _
    generalize upd H c1 (.frz o1 (.tup nones)) = H1 at s1 f1 ⊢
    refine ⟨Nat.le_of_lt (small1000 (by show 1 ≤ 1000; decide)), fun al o2 nal dal => ?_⟩
    have s2 : Same H1 (upd H1 al (.frz o2 (.tup [.ref c1]))) := same_new nal
    have f2 : FT (upd H1 al (.frz o2 (.tup [.ref c1]))) al [.ref c1] := FT.new dal
    have f1 := f1.mono s2.tups
    have s2 := s1.trans s2
    generalize upd H1 al (.frz o2 (.tup [.ref c1])) = H2 at s2 f2 f1 ⊢
    refine fun p dx np ndx hpd => ⟨p, dx, rfl, upd_same, fun H3 l k3 nl3 dk3 => ?_⟩
    have s3 : Same H2 H3 := fun b o e => by
      have z := ne_of_none e np
      refine k3 b o ?_ z
      rw [upd_ne z, upd_ne (ne_of_none e ndx)]
      exact e
    have s03 := s2.trans s3
    clear s1 nc1 nal
    refine ⟨rfl, ?_⟩
    refine ⟨.ref al, rfl, .ref al, rfl, .ref al, rfl, al, c1, rfl, (f2.mono s3.tups).sqt, (f1.mono s3.tups).sqt, fun H4 v4 s4 st4 => ?_⟩
    refine ⟨Nat.le_of_lt (small1000 (by show 2 ≤ 1000; decide)), fun ls nls => ?_⟩
    have s5 : Same H4 (upd H4 ls (.lst [.ref al, v4])) := same_new nls
    have h5 : (upd H4 ls (.lst [.ref al, v4])) ls = some (.lst [.ref al, v4]) := upd_same
    have dk4 := dk3.same s4
    have nlsl : ls ≠ l ∧ ls ≠ p := ⟨(ne_of_none dk4.l nls).symm, (ne_of_none dk4.p nls).symm⟩
    generalize upd H4 ls (.lst [.ref al, v4]) = H5 at s5 h5 ⊢
    have dk5 := dk4.same s5
    have s05 := s03.trans (s4.trans s5)
    have sa5 : ST H5 (.ref al) [free4] := ST.alone (f2.mono (s3.trans (s4.trans s5)).tups) (f1.mono (s3.trans (s4.trans s5)).tups)
    have st5 := st4.mono s5.tups
    refine ⟨.ref p, rfl, p, dx, _, rfl, dk5.p, dk_no _ _ (by decide +kernel) (by decide +kernel), .inl ⟨p, dx, l, [], rfl, dk5, small1000 (by decide), fun H6 v6 k6 d6 st6 => ?_⟩⟩
    rw [show numT 1 = Str.ofString "1" by decide +kernel]
    refine ⟨rfl, false, ne_same _, iteF ?_⟩
    have D6 : Day C p dx l ls aA (.ref al) [(v4, v6, besS [free4] [free4])] H6 := ⟨k6 _ _ h5 nlsl.2 nlsl.1, ⟨_, _, rfl, d6⟩, fun t ht => by
      rw [List.mem_singleton.mp ht]
      exact ⟨st5.mono (k6.tups dk5), st6, good2⟩, sa5.mono (k6.tups dk5), nlsl⟩
    have npH : ∀ b o, H b = some o → b ≠ p ∧ b ≠ l ∧ b ≠ ls := fun b o e => ⟨ne_of_none (s2 _ _ e) np, ne_of_none (upd_ne (ne_of_none (s2 _ _ e) np) |>.trans ((upd_ne (ne_of_none (s2 _ _ e) ndx)).trans (s2 _ _ e))) nl3, ne_of_none ((s03.trans s4) _ _ e) nls⟩
    have kS : ∀ {Hx Hy : Hp}, Same H Hx → KeepD p l Hx Hy → Same H Hy := fun {Hx Hy} a b c o e => b c o (a c o e) (npH c o e).1 (npH c o e).2.1
    have s06 : Same H H6 := kS s05 k6
    clear dc1 dal f1 f2 np ndx nl3 dk3 s3 s03 nls st4 dk4 s5 h5 s4 dk5 s05 sa5 st5 d6 st6 k6 s2 k3
    obtain ⟨m, hm, hm2⟩ : ∃ m : Nat, (if (if (40 : Int) < ((ns.map V.int).length : Int) then (40 : Int) else ((ns.map V.int).length : Int)) > 1 then (if (40 : Int) < ((ns.map V.int).length : Int) then (40 : Int) else ((ns.map V.int).length : Int)) else 1) = (m : Int) ∧ m ≤ 40 := by
      rw [List.length_map]
      by_cases h : (40 : Int) < (ns.length : Int)
      · exact ⟨40, by rw [if_pos h]; rfl, by decide⟩
      · rw [if_neg h]
        by_cases h1 : (ns.length : Int) > 1
        · exact ⟨ns.length, by rw [if_pos h1], by omega⟩
        · exact ⟨1, by rw [if_neg h1]; rfl, by decide⟩
    refine ⟨.ref a, rfl, a, _, rfl, .inl (s06.seq hS), _, _, rfl, _, _, rfl, (m : Int), congrArg (fun z => [V.int z]) hm, by omega, by omega, ?_⟩
    rw [Int.toNat_natCast]
    refine for_range (lo := 0) (n := m) (fun k σ H7 => ∃ y4 y5 y6 y7 y8 T, σ = [some (.ref a), some (.ref al), some (.ref p), some (.ref ls), y4, y5, y6, y7, y8] ∧ Day C p dx l ls aA (.ref al) T H7 ∧ Same H H7 ∧ T ≠ [] ∧ T.length ≤ 1 + 5 * k) ⟨none, none, none, none, none, _, rfl, D6, s06, List.cons_ne_nil _ _, Nat.le_refl _⟩ ?_ ?_
    · rintro k σ H7 hk ⟨y4, y5, y6, y7, y8, T, rfl, D7, s7, hne, hT⟩
      rw [Int.zero_add]
      refine ⟨.ref a, rfl, intV k, rfl, a, ns, k, rfl, s7.seq hS, fun c => ?_⟩
      refine ⟨intV k, rfl, c, k, rfl, by omega, fun H8 R s8 nR hR8 => ?_⟩
      have D8 := D7.same s8
      obtain ⟨sv7, bs7, dk7⟩ := D7.any
      have nR' : R ≠ p ∧ R ≠ l ∧ R ≠ ls := ⟨(ne_of_none dk7.p nR).symm, (ne_of_none dk7.l nR).symm, (ne_of_none D7.sp nR).symm⟩
      have rS : ∀ {Hx Hy : Hp}, Same H Hx → Keep R Hx Hy → Same H Hy := fun {Hx Hy} a' b c o e => b c o (a' c o e) (ne_of_none (s7 _ _ e) nR)
      refine ⟨.ref R, rfl, R, 3, rfl, by decide, by decide, hR8, fun H9 r k9 R9 hr9 => ?_⟩
      refine ⟨_, _, rfl, rfl, ((3 + r : Nat) : Int), congrArg (fun z => [V.int z]) (by omega), by omega, by omega, ?_⟩
      rw [Int.toNat_natCast]
      refine for_range (lo := 0) (n := 3 + r) (fun i σ H10 => ∃ y6 y7 y8 T, σ = [some (.ref a), some (.ref al), some (.ref p), some (.ref ls), some (intV k), some (.ref R), y6, y7, y8] ∧ Day C p dx l ls aA (.ref al) T H10 ∧ Same H H10 ∧ Rl R H10 ∧ T ≠ [] ∧ T.length ≤ 1 + 5 * k + i) ⟨y6, y7, y8, T, rfl, D8.keep k9 hR8 nR', rS (s7.trans s8) k9, R9, hne, hT⟩ ?_ ?_
      · rintro i σ H10 hi ⟨y6, y7, y8, T, rfl, D10, s10, R10, hne, hT⟩
        obtain ⟨T, x, rfl⟩ := (List.eq_nil_or_concat T).resolve_left hne
        rw [List.concat_eq_append] at D10 hT
        obtain ⟨u, v, S⟩ := x
        have hls : H10 ls = some (.lst ((V.ref al :: T.map (·.1)) ++ [u])) := by
          have := D10.sp
          rw [List.map_append] at this
          exact this
        obtain ⟨tu, tv, tG, t2⟩ := D10.t (u, v, S) (List.mem_append_right _ (List.mem_singleton.mpr rfl))
        refine ⟨.ref R, rfl, .ref ls, rfl, 1, rfl, ls, _, -1, u, rfl, rfl, .inl (.inl hls), atI_last _ _, R, u, S, rfl, R10, tu, tG, t2, fun H11 pr x v' S' k11 R11 f11 hst st11 => ?_⟩
        refine ⟨pr, _, rfl, .inr f11.sqt, rfl, _, _, rfl, _, _, rfl, rfl, ?_⟩
        have D11 := D10.keep k11 R10 nR'
        have dk11 := D11.last
        have tv11 : ST H11 v S := tv.mono (R10.tups k11)
        have lT : T.length < 300 := by
          rw [List.length_append] at hT
          omega
        refine ⟨.ref p, rfl, p, dx, _, rfl, dk11.p, dk_no _ _ (by decide +kernel) (by decide +kernel), .str x, rfl, say_stp hst dk11 (small1000 (by rw [List.length_cons, List.length_map]; omega)) tv11 tG t2 fun H12 v12 k12 d12 st12 => ?_⟩
        refine ⟨rfl, false, ne_same _, iteF ?_⟩
        have h12 : H12 ls = some (.lst (V.ref al :: (T ++ [(u, v, S)]).map (·.1))) := k12 _ _ D11.sp nlsl.2 nlsl.1
        refine ⟨.ref ls, rfl, .inl ⟨rfl, _, .inl (.inl h12)⟩, v', rfl, ls, _, _, rfl, rfl, h12, small1000 (by rw [List.length_cons, List.length_map, List.length_append, List.length_singleton]; omega), ?_⟩
        have D12 := D11.push (u := v') (e := (by rw [List.map_append]; rfl)) k12 d12 (st11.mono (k12.tups dk11)) st12 ⟨(hst.good tG).1, (hst.good tG).2.trans t2⟩ rfl
        refine ⟨_, _, _, _, rfl, D12, ?_, ?_, by simp, ?_⟩
        · exact fun b o e => by
            rw [upd_ne (npH b o e).2.2]
            exact kS (rS s10 k11) k12 b o e
        · obtain ⟨g, st, e1, e2⟩ := R11
          exact ⟨g, st, by rw [upd_ne nR'.2.2]; exact k12 _ _ e1 nR'.1 nR'.2.1, e2⟩
        · rw [List.length_append, List.length_singleton]
          omega
      · rintro σ H10 ⟨y6, y7, y8, T, rfl, D10, s10, R10, hne, hT⟩
        exact ⟨_, _, _, _, _, T, rfl, D10, s10, hne, by omega⟩
    · rintro σ H7 ⟨y4, y5, y6, y7, y8, T, rfl, D7, s7, hne, hT⟩
      refine ⟨fun m σ H8 => ∃ T, σ = [some (.ref a), some (.ref al), some (.ref p), some (.ref ls), y4, y5, y6, y7, y8] ∧ Day C p dx l ls aA (.ref al) T H8 ∧ T.length = m, ⟨_, T, rfl, D7, rfl⟩, ?_⟩
      rintro m' σ H8 ⟨T, rfl, D8, rfl⟩
      refine ⟨.ref ls, rfl, ls, _, rfl, .inl (.inl (.inl D8.sp)), _, _, rfl, rfl, ?_⟩
      rcases List.eq_nil_or_concat T with rfl | ⟨T, x, rfl⟩
      · have dk8 := D8.first
        refine ⟨false, rfl, iteF ?_⟩
        refine ⟨.ref p, rfl, p, dx, _, rfl, dk8.p, dk_no _ _ (by decide +kernel) (by decide +kernel), .inr (.inr (.inr (.inl ⟨p, dx, l, _, [], aloneD, [free4], rfl, dk8, alone_dp (hA _) (hcA _), alone_norm, good1.sb (by decide), fun H9 s9 => ?_⟩)))⟩
        refine ⟨.ref al, rfl, .ref al, shutD [free4], [free4], rfl, ((D8.same s9).a.dq (N := fun _ => False)).dp, norm_shut _, good1.sb (by decide), fun H10 s10 => ?_⟩
        refine ⟨rfl, true, eq_same _, iteT ?_⟩
        exact ⟨.ref p, rfl, p, dx, l, _, rfl, (dk8.same s9).same s10, fun H11 s11 => q _⟩
      · rw [List.concat_eq_append] at D8
        rw [List.concat_eq_append]
        obtain ⟨u, v, S⟩ := x
        obtain ⟨tu, tv, tG, t2⟩ := D8.t (u, v, S) (List.mem_append_right _ (List.mem_singleton.mpr rfl))
        have dk8 := D8.last
        have sb : Sb S := tG.sb (by omega)
        refine ⟨true, ?_, iteT ?_⟩
        · rw [List.map_append, List.length_cons, List.length_append, List.length_map]
          exact congrArg V.bl (decide_eq_true (by simp; omega))
        refine ⟨fun σ H9 => ∃ T', σ = [some (.ref a), some (.ref al), some (.ref p), some (.ref ls), y4, y5, y6, y7, y8] ∧ Day C p dx l ls aA (.ref al) T' H9 ∧ T'.length < (T ++ [(u, v, S)]).length, (fun σ' H' ⟨T', e, D', hl⟩ => ⟨T'.length, hl, T', e, D', rfl⟩), ?_⟩
        refine ⟨.ref p, rfl, p, dx, _, rfl, dk8.p, dk_no _ _ (by decide +kernel) (by decide +kernel), .inr (.inr (.inr (.inl ⟨p, dx, l, _, _, shutD S, S, rfl, dk8, (tv.dq (N := fun _ => False)).dp, norm_shut _, sb, fun H9 s9 => ?_⟩)))⟩
        have D9 := D8.same s9
        have hls : H9 ls = some (.lst ((V.ref al :: T.map (·.1)) ++ [u])) := by
          have := D9.sp
          rw [List.map_append] at this
          exact this
        refine ⟨.ref ls, rfl, .inl ⟨rfl, _, .inl (.inl hls)⟩, ls, _, u, rfl, rfl, hls, by rw [List.length_append, List.getElem?_append_right (by simp)]; simp, ?_⟩
        rw [List.dropLast_concat]
        have dk9 := dk8.same s9
        have t9 : Tups H8 (upd H9 ls (.lst (V.ref al :: T.map (·.1)))) := s9.tups.trans (tups_set hls)
        have dk10 : DkAt C p dx l v (V.ref aA :: T.map (·.2.1)) (upd H9 ls (.lst (V.ref al :: T.map (·.1)))) := ⟨by rw [upd_ne nlsl.2.symm]; exact dk9.p, by rw [upd_ne nlsl.1.symm]; exact dk9.l⟩
        refine ⟨u, shutD S, S, rfl, ((tu.mono t9).dq (N := fun _ => False)).dp, norm_shut _, sb, fun H11 s11 => ?_⟩
        refine ⟨rfl, false, ne_same _, iteF ?_⟩
        obtain ⟨bs, sv, hbs⟩ : ∃ (bs : List V) (sv : V), bs ++ [sv] = V.ref aA :: T.map (·.2.1) := ⟨_, _, List.dropLast_concat_getLast (List.cons_ne_nil _ _)⟩
        have dk11 := dk10.same s11
        rw [← hbs] at dk11
        refine ⟨.ref p, rfl, p, dx, _, rfl, dk11.p, dk_no _ _ (by decide +kernel) (by decide +kernel), .inr (.inr (.inr (.inr ⟨p, dx, l, _, sv, bs, rfl, dk11, fun H12 k12 d12 => ?_⟩)))⟩
        refine ⟨rfl, false, ne_same _, iteF ?_⟩
        exact ⟨T, rfl, D9.pop hbs rfl s11 k12 d12, by rw [List.length_append, List.length_singleton]; omega⟩
end
end Bk

namespace Bk
open PySem PySem.Spec PyProof.Rows L2 RZ
theorem tupA_ok {K : PySem.W.Frag} {a : Addr} {vs : List V} (h : tupA K a vs = true) (H : Hp) : SqT K H a vs := by
  unfold tupA at h
  split at h
  · cases h
  · rename_i o q
    obtain ⟨h1, h2⟩ := Bool.and_eq_true_iff.mp h
    split at h2
    · rename_i its n e
      obtain ⟨h3, h4⟩ := Bool.and_eq_true_iff.mp h2
      exact .inr ⟨o, its, n, q, of_decide_eq_true h1, e, Nat.le_of_lt (small1000 (of_decide_eq_true h3)), He.relAll_ok h4⟩
    · cases h2
theorem formB_ok {K : PySem.W.Frag} {w : World} {es : Array DictEntry} {n : Nat} {x : Str} {ks : List Str} (D : KDict K w (He.ga K "FORMS") es n) (h : formB K x ks = true) : FormAt K w (He.ga K "FORMS") x ks := by
  obtain ⟨h1, h2⟩ := Bool.and_eq_true_iff.mp h
  exact ⟨_, ⟨es, n, _, D.at_, D.lit, He.eqO_ok h1, rfl⟩, fun H => tupA_ok h2 H⟩
theorem goesB_ok {K : PySem.W.Frag} {w : World} {es : Array DictEntry} {n : Nat} {d x g : Str} (D : KDict K w (He.ga K d) es n) (h : goesB K d x g = true) : KDct K w (He.ga K d) x (.ref (He.ga K g)) := ⟨es, n, _, D.at_, D.lit, He.eqO_ok h, rfl⟩
section
variable {K : PySem.W.Frag} {w : World}
theorem saysE (c : obsX K = valX w) : He.SaysE hFa hFn K := (Prod.mk.inj c).1
theorem saysB (c : obsX K = valX w) : bitX K = true := (Prod.mk.inj (Prod.mk.inj c).2).2
theorem saysT (c : obsX K = valX w) (i : Nat) {t : Str × List Str} (h : hTabs[i]? = some t := by rfl) : ∃ es n, KDict K w (He.ga K t.1) es n := by
  have e : hTabs.map (fun t => He.dicW K (He.ga K t.1)) = hTabs.map (fun t => some (He.keysIn w.params t.2))   := (Prod.mk.inj (Prod.mk.inj c).2).1
  have e2 := congrArg (fun l => l[i]?) e
  simp only [List.getElem?_map, h, Option.map_some, Option.some.injEq] at e2
  exact He.dicW_ok e2
end
theorem facts {l : PySem.W.OpenLaw} {w : World} {K : PySem.W.Frag} {h : Heap} {mg : Str → Option Value} {fa : Addr} (X : K.In h) (G : h.Ns mainGlobals mg) (hfa : mg "law" = some (.ref fa)) (c : obsX K = valX w) :
    ∃ fd : FuncData, (∀ (s : Shared) (v : Value), BindsTo s fd ⟨[v], []⟩ [("script", v)]) ∧ ∀ base : Heap, K.In base → base.Ns mainGlobals mg → FnOk l.prog w K mg base CX0 11 fa fd ["script"] (spLaw K) := by
  have cE := saysE c
  have cB := saysB c
  have e := hfa.symm.trans (He.glo_ok X G (cE.fact 37 (f := .glo "law") rfl))
  cases e
  obtain ⟨ocis_whole, odis_whole, slis_whole, kVis_whole, dcis_whole, pmis_whole, anis_whole, cdis_whole, ctis_whole, lis_whole, cis_whole⟩ := cE.def_ 0 (d := ⟨("is_whole", none), "is_whole", "is_whole", defArgs (hTop 20), defBody (hTop 20), defScope (hTop 20)⟩) rfl
  obtain ⟨ocis_listed, odis_listed, slis_listed, kVis_listed, dcis_listed, pmis_listed, anis_listed, cdis_listed, ctis_listed, lis_listed, cis_listed⟩ := cE.def_ 1 (d := ⟨("is_listed", none), "is_listed", "is_listed", defArgs (hTop 21), defBody (hTop 21), defScope (hTop 21)⟩) rfl
  obtain ⟨ocis_below, odis_below, slis_below, kVis_below, dcis_below, pmis_below, anis_below, cdis_below, ctis_below, lis_below, cis_below⟩ := cE.def_ 2 (d := ⟨("is_below", none), "is_below", "is_below", defArgs (hTop 22), defBody (hTop 22), defScope (hTop 22)⟩) rfl
  obtain ⟨ocis_order, odis_order, slis_order, kVis_order, dcis_order, pmis_order, anis_order, cdis_order, ctis_order, lis_order, cis_order⟩ := cE.def_ 3 (d := ⟨("is_order", none), "is_order", "is_order", defArgs (hTop 23), defBody (hTop 23), defScope (hTop 23)⟩) rfl
  obtain ⟨ocis_turn, odis_turn, slis_turn, kVis_turn, dcis_turn, pmis_turn, anis_turn, cdis_turn, ctis_turn, lis_turn, cis_turn⟩ := cE.def_ 4 (d := ⟨("is_turn", none), "is_turn", "is_turn", defArgs (hTop 24), defBody (hTop 24), defScope (hTop 24)⟩) rfl
  obtain ⟨occontrary, odcontrary, slcontrary, kVcontrary, dccontrary, pmcontrary, ancontrary, cdcontrary, ctcontrary, lcontrary, ccontrary⟩ := cE.def_ 5 (d := ⟨("contrary", none), "contrary", "contrary", defArgs (hTop 25), defBody (hTop 25), defScope (hTop 25)⟩) rfl
  obtain ⟨ocspace_of, odspace_of, slspace_of, kVspace_of, dcspace_of, pmspace_of, anspace_of, cdspace_of, ctspace_of, lspace_of, cspace_of⟩ := cE.def_ 6 (d := ⟨("space_of", none), "space_of", "space_of", defArgs (hTop 27), defBody (hTop 27), defScope (hTop 27)⟩) rfl
  obtain ⟨oc_block_of, od_block_of, sl_block_of, kV_block_of, dc_block_of, pm_block_of, an_block_of, cd_block_of, ct_block_of, l_block_of, c_block_of⟩ := cE.def_ 7 (d := ⟨("_block_of", none), "_block_of", "_block_of", defArgs (hTop 28), defBody (hTop 28), defScope (hTop 28)⟩) rfl
  obtain ⟨oc_joining_of, od_joining_of, sl_joining_of, kV_joining_of, dc_joining_of, pm_joining_of, an_joining_of, cd_joining_of, ct_joining_of, l_joining_of, c_joining_of⟩ := cE.def_ 8 (d := ⟨("_joining_of", none), "_joining_of", "_joining_of", defArgs (hTop 29), defBody (hTop 29), defScope (hTop 29)⟩) rfl
  obtain ⟨oc_goes_both_ways, od_goes_both_ways, sl_goes_both_ways, kV_goes_both_ways, dc_goes_both_ways, pm_goes_both_ways, an_goes_both_ways, cd_goes_both_ways, ct_goes_both_ways, l_goes_both_ways, c_goes_both_ways⟩ := cE.def_ 9 (d := ⟨("_goes_both_ways", none), "_goes_both_ways", "_goes_both_ways", defArgs (hTop 30), defBody (hTop 30), defScope (hTop 30)⟩) rfl
  obtain ⟨oc_is_face, od_is_face, sl_is_face, kV_is_face, dc_is_face, pm_is_face, an_is_face, cd_is_face, ct_is_face, l_is_face, c_is_face⟩ := cE.def_ 10 (d := ⟨("_is_face", none), "_is_face", "_is_face", defArgs (hTop 31), defBody (hTop 31), defScope (hTop 31)⟩) rfl
  obtain ⟨oc_put, od_put, sl_put, kV_put, dc_put, pm_put, an_put, cd_put, ct_put, l_put, c_put⟩ := cE.def_ 11 (d := ⟨("_put", none), "_put", "_put", defArgs (hTop 32), defBody (hTop 32), defScope (hTop 32)⟩) rfl
  obtain ⟨ocjoined, odjoined, sljoined, kVjoined, dcjoined, pmjoined, anjoined, cdjoined, ctjoined, ljoined, cjoined⟩ := cE.def_ 12 (d := ⟨("joined", none), "joined", "joined", defArgs (hTop 33), defBody (hTop 33), defScope (hTop 33)⟩) rfl
  obtain ⟨ocparted, odparted, slparted, kVparted, dcparted, pmparted, anparted, cdparted, ctparted, lparted, cparted⟩ := cE.def_ 13 (d := ⟨("parted", none), "parted", "parted", defArgs (hTop 34), defBody (hTop 34), defScope (hTop 34)⟩) rfl
  obtain ⟨ocbeside, odbeside, slbeside, kVbeside, dcbeside, pmbeside, anbeside, cdbeside, ctbeside, lbeside, cbeside⟩ := cE.def_ 14 (d := ⟨("beside", none), "beside", "beside", defArgs (hTop 35), defBody (hTop 35), defScope (hTop 35)⟩) rfl
  obtain ⟨oc_block_behind, od_block_behind, sl_block_behind, kV_block_behind, dc_block_behind, pm_block_behind, an_block_behind, cd_block_behind, ct_block_behind, l_block_behind, c_block_behind⟩ := cE.def_ 15 (d := ⟨("_block_behind", none), "_block_behind", "_block_behind", defArgs (hTop 36), defBody (hTop 36), defScope (hTop 36)⟩) rfl
  obtain ⟨ocspace_text, odspace_text, slspace_text, kVspace_text, dcspace_text, pmspace_text, anspace_text, cdspace_text, ctspace_text, lspace_text, cspace_text⟩ := cE.def_ 16 (d := ⟨("space_text", none), "space_text", "space_text", defArgs (hTop 134), defBody (hTop 134), defScope (hTop 134)⟩) rfl
  obtain ⟨oc_line_of, od_line_of, sl_line_of, kV_line_of, dc_line_of, pm_line_of, an_line_of, cd_line_of, ct_line_of, l_line_of, c_line_of⟩ := cE.def_ 17 (d := ⟨("_line_of", none), "_line_of", "_line_of", defArgs (hTop 135), defBody (hTop 135), defScope (hTop 135)⟩) rfl
  obtain ⟨oc_word_of, od_word_of, sl_word_of, kV_word_of, dc_word_of, pm_word_of, an_word_of, cd_word_of, ct_word_of, l_word_of, c_word_of⟩ := cE.def_ 18 (d := ⟨("word_of_texts", none), "_word_of", "_word_of", defArgs (hTop 136), defBody (hTop 136), defScope (hTop 136)⟩) rfl
  obtain ⟨ocis_joining_word, odis_joining_word, slis_joining_word, kVis_joining_word, dcis_joining_word, pmis_joining_word, anis_joining_word, cdis_joining_word, ctis_joining_word, lis_joining_word, cis_joining_word⟩ := cE.def_ 19 (d := ⟨("is_joining_word", none), "is_joining_word", "is_joining_word", defArgs (hTop 138), defBody (hTop 138), defScope (hTop 138)⟩) rfl
  obtain ⟨ocis_number_word, odis_number_word, slis_number_word, kVis_number_word, dcis_number_word, pmis_number_word, anis_number_word, cdis_number_word, ctis_number_word, lis_number_word, cis_number_word⟩ := cE.def_ 20 (d := ⟨("is_number_word", none), "is_number_word", "is_number_word", defArgs (hTop 139), defBody (hTop 139), defScope (hTop 139)⟩) rfl
  obtain ⟨oc_read, od_read, sl_read, kV_read, dc_read, pm_read, an_read, cd_read, ct_read, l_read, c_read⟩ := cE.def_ 21 (d := ⟨("_read", none), "_read", "_read", defArgs (hTop 145), defBody (hTop 145), defScope (hTop 145)⟩) rfl
  obtain ⟨oc_word_read, od_word_read, sl_word_read, kV_word_read, dc_word_read, pm_word_read, an_word_read, cd_word_read, ct_word_read, l_word_read, c_word_read⟩ := cE.def_ 22 (d := ⟨("_word_read", none), "_word_read", "_word_read", defArgs (hTop 146), defBody (hTop 146), defScope (hTop 146)⟩) rfl
  obtain ⟨oc_number_read, od_number_read, sl_number_read, kV_number_read, dc_number_read, pm_number_read, an_number_read, cd_number_read, ct_number_read, l_number_read, c_number_read⟩ := cE.def_ 23 (d := ⟨("_number_read", none), "_number_read", "_number_read", defArgs (hTop 147), defBody (hTop 147), defScope (hTop 147)⟩) rfl
  obtain ⟨oc_joining_read, od_joining_read, sl_joining_read, kV_joining_read, dc_joining_read, pm_joining_read, an_joining_read, cd_joining_read, ct_joining_read, l_joining_read, c_joining_read⟩ := cE.def_ 24 (d := ⟨("_joining_read", none), "_joining_read", "_joining_read", defArgs (hTop 148), defBody (hTop 148), defScope (hTop 148)⟩) rfl
  obtain ⟨oc_block, od_block, sl_block, kV_block, dc_block, pm_block, an_block, cd_block, ct_block, l_block, c_block⟩ := cE.def_ 25 (d := ⟨("_block", none), "_block", "_block", defArgs (hTop 149), defBody (hTop 149), defScope (hTop 149)⟩) rfl
  obtain ⟨oc_join, od_join, sl_join, kV_join, dc_join, pm_join, an_join, cd_join, ct_join, l_join, c_join⟩ := cE.def_ 26 (d := ⟨("_join", none), "_join", "_join", defArgs (hTop 150), defBody (hTop 150), defScope (hTop 150)⟩) rfl
  obtain ⟨oc_part, od_part, sl_part, kV_part, dc_part, pm_part, an_part, cd_part, ct_part, l_part, c_part⟩ := cE.def_ 27 (d := ⟨("_part", none), "_part", "_part", defArgs (hTop 151), defBody (hTop 151), defScope (hTop 151)⟩) rfl
  obtain ⟨oc_show, od_show, sl_show, kV_show, dc_show, pm_show, an_show, cd_show, ct_show, l_show, c_show⟩ := cE.def_ 28 (d := ⟨("_show", none), "_show", "_show", defArgs (hTop 153), defBody (hTop 153), defScope (hTop 153)⟩) rfl
  obtain ⟨oc_on_one_line, od_on_one_line, sl_on_one_line, kV_on_one_line, dc_on_one_line, pm_on_one_line, an_on_one_line, cd_on_one_line, ct_on_one_line, l_on_one_line, c_on_one_line⟩ := cE.def_ 29 (d := ⟨("_on_one_line", none), "_on_one_line", "_on_one_line", defArgs (hTop 166), defBody (hTop 166), defScope (hTop 166)⟩) rfl
  obtain ⟨oc_law_reel, od_law_reel, sl_law_reel, kV_law_reel, dc_law_reel, pm_law_reel, an_law_reel, cd_law_reel, ct_law_reel, l_law_reel, c_law_reel⟩ := cE.def_ 30 (d := ⟨("_law_reel", none), "_law_reel", "_law_reel", defArgs (hTop 170), defBody (hTop 170), defScope (hTop 170)⟩) rfl
  obtain ⟨oc_law_draw, od_law_draw, sl_law_draw, kV_law_draw, dc_law_draw, pm_law_draw, an_law_draw, cd_law_draw, ct_law_draw, l_law_draw, c_law_draw⟩ := cE.def_ 31 (d := ⟨("_law_draw", none), "_law_draw", "_law_draw", defArgs (hTop 171), defBody (hTop 171), defScope (hTop 171)⟩) rfl
  obtain ⟨oc_law_cell, od_law_cell, sl_law_cell, kV_law_cell, dc_law_cell, pm_law_cell, an_law_cell, cd_law_cell, ct_law_cell, l_law_cell, c_law_cell⟩ := cE.def_ 32 (d := ⟨("_law_cell", none), "_law_cell", "_law_cell", defArgs (hTop 172), defBody (hTop 172), defScope (hTop 172)⟩) rfl
  obtain ⟨oc_law_way, od_law_way, sl_law_way, kV_law_way, dc_law_way, pm_law_way, an_law_way, cd_law_way, ct_law_way, l_law_way, c_law_way⟩ := cE.def_ 33 (d := ⟨("_law_way", none), "_law_way", "_law_way", defArgs (hTop 173), defBody (hTop 173), defScope (hTop 173)⟩) rfl
  obtain ⟨oc_law_row, od_law_row, sl_law_row, kV_law_row, dc_law_row, pm_law_row, an_law_row, cd_law_row, ct_law_row, l_law_row, c_law_row⟩ := cE.def_ 34 (d := ⟨("_law_row", none), "_law_row", "_law_row", defArgs (hTop 174), defBody (hTop 174), defScope (hTop 174)⟩) rfl
  obtain ⟨oc_law_shown, od_law_shown, sl_law_shown, kV_law_shown, dc_law_shown, pm_law_shown, an_law_shown, cd_law_shown, ct_law_shown, l_law_shown, c_law_shown⟩ := cE.def_ 35 (d := ⟨("_law_shown", none), "_law_shown", "_law_shown", defArgs (hTop 175), defBody (hTop 175), defScope (hTop 175)⟩) rfl
  obtain ⟨oc_law_nothing_left, od_law_nothing_left, sl_law_nothing_left, kV_law_nothing_left, dc_law_nothing_left, pm_law_nothing_left, an_law_nothing_left, cd_law_nothing_left, ct_law_nothing_left, l_law_nothing_left, c_law_nothing_left⟩ := cE.def_ 36 (d := ⟨("_law_nothing_left", none), "_law_nothing_left", "_law_nothing_left", defArgs (hTop 176), defBody (hTop 176), defScope (hTop 176)⟩) rfl
  obtain ⟨oclaw, odlaw, sllaw, kVlaw, dclaw, pmlaw, anlaw, cdlaw, ctlaw, llaw, claw⟩ := cE.def_ 37 (d := ⟨("law", none), "law", "law", defArgs (hTop 177), defBody (hTop 177), defScope (hTop 177)⟩) rfl
  obtain ⟨ocDesk___init__, odDesk___init__, slDesk___init__, kVDesk___init__, dcDesk___init__, pmDesk___init__, anDesk___init__, cdDesk___init__, ctDesk___init__, lDesk___init__, cDesk___init__⟩ := cE.def_ 38 (d := ⟨("Desk", some "__init__"), "__init__", "Desk.__init__", defArgs (inClass (hTop 144) 0), defBody (inClass (hTop 144) 0), defScope (inClass (hTop 144) 0)⟩) rfl
  obtain ⟨ocDesk_say, odDesk_say, slDesk_say, kVDesk_say, dcDesk_say, pmDesk_say, anDesk_say, cdDesk_say, ctDesk_say, lDesk_say, cDesk_say⟩ := cE.def_ 39 (d := ⟨("Desk", some "say"), "say", "Desk.say", defArgs (inClass (hTop 144) 1), defBody (inClass (hTop 144) 1), defScope (inClass (hTop 144) 1)⟩) rfl
  obtain ⟨ocDesk__undo, odDesk__undo, slDesk__undo, kVDesk__undo, dcDesk__undo, pmDesk__undo, anDesk__undo, cdDesk__undo, ctDesk__undo, lDesk__undo, cDesk__undo⟩ := cE.def_ 40 (d := ⟨("Desk", some "_undo"), "_undo", "Desk._undo", defArgs (inClass (hTop 144) 2), defBody (inClass (hTop 144) 2), defScope (inClass (hTop 144) 2)⟩) rfl
  have gg_is_whole := He.glo_ok X G (cE.fact 0 (f := .glo "is_whole") rfl)
  have gg_is_listed := He.glo_ok X G (cE.fact 1 (f := .glo "is_listed") rfl)
  have gg_is_below := He.glo_ok X G (cE.fact 2 (f := .glo "is_below") rfl)
  have gg_is_order := He.glo_ok X G (cE.fact 3 (f := .glo "is_order") rfl)
  have gg_is_turn := He.glo_ok X G (cE.fact 4 (f := .glo "is_turn") rfl)
  have gg_contrary := He.glo_ok X G (cE.fact 5 (f := .glo "contrary") rfl)
  have gg_space_of := He.glo_ok X G (cE.fact 6 (f := .glo "space_of") rfl)
  have gg__block_of := He.glo_ok X G (cE.fact 7 (f := .glo "_block_of") rfl)
  have gg__joining_of := He.glo_ok X G (cE.fact 8 (f := .glo "_joining_of") rfl)
  have gg__goes_both_ways := He.glo_ok X G (cE.fact 9 (f := .glo "_goes_both_ways") rfl)
  have gg__is_face := He.glo_ok X G (cE.fact 10 (f := .glo "_is_face") rfl)
  have gg__put := He.glo_ok X G (cE.fact 11 (f := .glo "_put") rfl)
  have gg_joined := He.glo_ok X G (cE.fact 12 (f := .glo "joined") rfl)
  have gg_parted := He.glo_ok X G (cE.fact 13 (f := .glo "parted") rfl)
  have gg_beside := He.glo_ok X G (cE.fact 14 (f := .glo "beside") rfl)
  have gg__block_behind := He.glo_ok X G (cE.fact 15 (f := .glo "_block_behind") rfl)
  have gg_space_text := He.glo_ok X G (cE.fact 16 (f := .glo "space_text") rfl)
  have gg__line_of := He.glo_ok X G (cE.fact 17 (f := .glo "_line_of") rfl)
  have gg_word_of_texts := He.glo_ok X G (cE.fact 18 (f := .glo "word_of_texts") rfl)
  have gg_is_joining_word := He.glo_ok X G (cE.fact 19 (f := .glo "is_joining_word") rfl)
  have gg_is_number_word := He.glo_ok X G (cE.fact 20 (f := .glo "is_number_word") rfl)
  have gg__read := He.glo_ok X G (cE.fact 21 (f := .glo "_read") rfl)
  have gg__word_read := He.glo_ok X G (cE.fact 22 (f := .glo "_word_read") rfl)
  have gg__number_read := He.glo_ok X G (cE.fact 23 (f := .glo "_number_read") rfl)
  have gg__joining_read := He.glo_ok X G (cE.fact 24 (f := .glo "_joining_read") rfl)
  have gg__block := He.glo_ok X G (cE.fact 25 (f := .glo "_block") rfl)
  have gg__join := He.glo_ok X G (cE.fact 26 (f := .glo "_join") rfl)
  have gg__part := He.glo_ok X G (cE.fact 27 (f := .glo "_part") rfl)
  have gg__show := He.glo_ok X G (cE.fact 28 (f := .glo "_show") rfl)
  have gg__on_one_line := He.glo_ok X G (cE.fact 29 (f := .glo "_on_one_line") rfl)
  have gg__law_reel := He.glo_ok X G (cE.fact 30 (f := .glo "_law_reel") rfl)
  have gg__law_draw := He.glo_ok X G (cE.fact 31 (f := .glo "_law_draw") rfl)
  have gg__law_cell := He.glo_ok X G (cE.fact 32 (f := .glo "_law_cell") rfl)
  have gg__law_way := He.glo_ok X G (cE.fact 33 (f := .glo "_law_way") rfl)
  have gg__law_row := He.glo_ok X G (cE.fact 34 (f := .glo "_law_row") rfl)
  have gg__law_shown := He.glo_ok X G (cE.fact 35 (f := .glo "_law_shown") rfl)
  have gg__law_nothing_left := He.glo_ok X G (cE.fact 36 (f := .glo "_law_nothing_left") rfl)
  have gg_law := He.glo_ok X G (cE.fact 37 (f := .glo "law") rfl)
  have gg_FORMS := He.glo_ok X G (cE.fact 38 (f := .glo "FORMS") rfl)
  have gg_CHANGES_desk := He.glo_ok X G (cE.fact 39 (f := .glo "CHANGES_desk") rfl)
  have gg_QUESTIONS := He.glo_ok X G (cE.fact 40 (f := .glo "QUESTIONS") rfl)
  have gg_ALONE := He.glo_ok X G (cE.fact 41 (f := .glo "ALONE") rfl)
  have gg_Desk := He.glo_ok X G (cE.fact 42 (f := .glo "Desk") rfl)
  have gg_NoneYet := He.glo_ok X G (cE.fact 43 (f := .glo "NoneYet") rfl)
  have Fis_whole := fun_mk (st := sis_whole) lis_whole cis_whole (He.keep_ok (cE.fact 60 (f := .keep "is_whole") rfl))
  have bis_whole := Fis_whole.binds (ps := ["thing"]) fun _ _ _ _ _ _ us hl => match us, hl with | [_], _ => rfl
  have gis_whole := gg_is_whole
  have Fis_listed := fun_mk (st := sis_listed) lis_listed cis_listed (He.keep_ok (cE.fact 61 (f := .keep "is_listed") rfl))
  have bis_listed := Fis_listed.binds (ps := ["thing"]) fun _ _ _ _ _ _ us hl => match us, hl with | [_], _ => rfl
  have gis_listed := gg_is_listed
  have Fis_below := fun_mk (st := sis_below) lis_below cis_below (He.keep_ok (cE.fact 62 (f := .keep "is_below") rfl))
  have bis_below := Fis_below.binds (ps := ["thing", "many"]) fun _ _ _ _ _ _ us hl => match us, hl with | [_, _], _ => rfl
  have gis_below := gg_is_below
  have Fis_order := fun_mk (st := sis_order) lis_order cis_order (He.keep_ok (cE.fact 63 (f := .keep "is_order") rfl))
  have bis_order := Fis_order.binds (ps := ["thing", "many"]) fun _ _ _ _ _ _ us hl => match us, hl with | [_, _], _ => rfl
  have gis_order := gg_is_order
  have Fis_turn := fun_mk (st := sis_turn) lis_turn cis_turn (He.keep_ok (cE.fact 64 (f := .keep "is_turn") rfl))
  have bis_turn := Fis_turn.binds (ps := ["thing"]) fun _ _ _ _ _ _ us hl => match us, hl with | [_], _ => rfl
  have gis_turn := gg_is_turn
  have Fcontrary := fun_mk (st := scontrary) lcontrary ccontrary (He.keep_ok (cE.fact 65 (f := .keep "contrary") rfl))
  have bcontrary := Fcontrary.binds (ps := ["turn"]) fun _ _ _ _ _ _ us hl => match us, hl with | [_], _ => rfl
  have gcontrary := gg_contrary
  have Fspace_of := fun_mk (st := sspace_of) lspace_of cspace_of (He.keep_ok (cE.fact 66 (f := .keep "space_of") rfl))
  have bspace_of := Fspace_of.binds (ps := ["blocks"]) fun _ _ _ _ _ _ us hl => match us, hl with | [_], _ => rfl
  have gspace_of := gg_space_of
  have F_block_of := fun_mk (st := s_block_of) l_block_of c_block_of (He.keep_ok (cE.fact 67 (f := .keep "_block_of") rfl))
  have b_block_of := F_block_of.binds (ps := ["faces", "many"]) fun _ _ _ _ _ _ us hl => match us, hl with | [_, _], _ => rfl
  have g_block_of := gg__block_of
  have F_joining_of := fun_mk (st := s_joining_of) l_joining_of c_joining_of (He.keep_ok (cE.fact 68 (f := .keep "_joining_of") rfl))
  have b_joining_of := F_joining_of.binds (ps := ["joining", "many"]) fun _ _ _ _ _ _ us hl => match us, hl with | [_, _], _ => rfl
  have g_joining_of := gg__joining_of
  have F_goes_both_ways := fun_mk (st := s_goes_both_ways) l_goes_both_ways c_goes_both_ways (He.keep_ok (cE.fact 69 (f := .keep "_goes_both_ways") rfl))
  have b_goes_both_ways := F_goes_both_ways.binds (ps := ["space", "block", "face"]) fun _ _ _ _ _ _ us hl => match us, hl with | [_, _, _], _ => rfl
  have g_goes_both_ways := gg__goes_both_ways
  have F_is_face := fun_mk (st := s_is_face) l_is_face c_is_face (He.keep_ok (cE.fact 70 (f := .keep "_is_face") rfl))
  have b_is_face := F_is_face.binds (ps := ["space", "block", "face"]) fun _ _ _ _ _ _ us hl => match us, hl with | [_, _, _], _ => rfl
  have g_is_face := gg__is_face
  have F_put := fun_mk (st := s_put) l_put c_put (He.keep_ok (cE.fact 71 (f := .keep "_put") rfl))
  have b_put := F_put.binds (ps := ["space", "changes"]) fun _ _ _ _ _ _ us hl => match us, hl with | [_, _], _ => rfl
  have g_put := gg__put
  have Fjoined := fun_mk (st := sjoined) ljoined cjoined (He.keep_ok (cE.fact 72 (f := .keep "joined") rfl))
  have gjoined := gg_joined
  have Fparted := fun_mk (st := sparted) lparted cparted (He.keep_ok (cE.fact 73 (f := .keep "parted") rfl))
  have bparted := Fparted.binds (ps := ["space", "block", "face"]) fun _ _ _ _ _ _ us hl => match us, hl with | [_, _, _], _ => rfl
  have gparted := gg_parted
  have Fbeside := fun_mk (st := sbeside) lbeside cbeside (He.keep_ok (cE.fact 74 (f := .keep "beside") rfl))
  have bbeside := Fbeside.binds (ps := ["one", "other"]) fun _ _ _ _ _ _ us hl => match us, hl with | [_, _], _ => rfl
  have gbeside := gg_beside
  have F_block_behind := fun_mk (st := s_block_behind) l_block_behind c_block_behind (He.keep_ok (cE.fact 75 (f := .keep "_block_behind") rfl))
  have b_block_behind := F_block_behind.binds (ps := ["block", "many"]) fun _ _ _ _ _ _ us hl => match us, hl with | [_, _], _ => rfl
  have g_block_behind := gg__block_behind
  have Fspace_text := fun_mk (st := sspace_text) lspace_text cspace_text (He.keep_ok (cE.fact 76 (f := .keep "space_text") rfl))
  have bspace_text := Fspace_text.binds (ps := ["space"]) fun _ _ _ _ _ _ us hl => match us, hl with | [_], _ => rfl
  have gspace_text := gg_space_text
  have F_line_of := fun_mk (st := s_line_of) l_line_of c_line_of (He.keep_ok (cE.fact 77 (f := .keep "_line_of") rfl))
  have b_line_of := F_line_of.binds (ps := ["block"]) fun _ _ _ _ _ _ us hl => match us, hl with | [_], _ => rfl
  have g_line_of := gg__line_of
  have F_word_of := fun_mk (st := s_word_of) l_word_of c_word_of (He.keep_ok (cE.fact 78 (f := .keep "word_of_texts") rfl))
  have b_word_of := F_word_of.binds (ps := ["joining"]) fun _ _ _ _ _ _ us hl => match us, hl with | [_], _ => rfl
  have g_word_of := gg_word_of_texts
  have Fis_joining_word := fun_mk (st := sis_joining_word) lis_joining_word cis_joining_word (He.keep_ok (cE.fact 79 (f := .keep "is_joining_word") rfl))
  have bis_joining_word := Fis_joining_word.binds (ps := ["word"]) fun _ _ _ _ _ _ us hl => match us, hl with | [_], _ => rfl
  have gis_joining_word := gg_is_joining_word
  have Fis_number_word := fun_mk (st := sis_number_word) lis_number_word cis_number_word (He.keep_ok (cE.fact 80 (f := .keep "is_number_word") rfl))
  have bis_number_word := Fis_number_word.binds (ps := ["word"]) fun _ _ _ _ _ _ us hl => match us, hl with | [_], _ => rfl
  have gis_number_word := gg_is_number_word
  have F_read := fun_mk (st := s_read) l_read c_read (He.keep_ok (cE.fact 81 (f := .keep "_read") rfl))
  have b_read := F_read.binds (ps := ["row"]) fun _ _ _ _ _ _ us hl => match us, hl with | [_], _ => rfl
  have g_read := gg__read
  have F_word_read := fun_mk (st := s_word_read) l_word_read c_word_read (He.keep_ok (cE.fact 82 (f := .keep "_word_read") rfl))
  have b_word_read := F_word_read.binds (ps := ["word", "kind"]) fun _ _ _ _ _ _ us hl => match us, hl with | [_, _], _ => rfl
  have g_word_read := gg__word_read
  have F_number_read := fun_mk (st := s_number_read) l_number_read c_number_read (He.keep_ok (cE.fact 83 (f := .keep "_number_read") rfl))
  have b_number_read := F_number_read.binds (ps := ["word"]) fun _ _ _ _ _ _ us hl => match us, hl with | [_], _ => rfl
  have g_number_read := gg__number_read
  have F_joining_read := fun_mk (st := s_joining_read) l_joining_read c_joining_read (He.keep_ok (cE.fact 84 (f := .keep "_joining_read") rfl))
  have b_joining_read := F_joining_read.binds (ps := ["word"]) fun _ _ _ _ _ _ us hl => match us, hl with | [_], _ => rfl
  have g_joining_read := gg__joining_read
  have F_block := fun_mk (st := s_block) l_block c_block (He.keep_ok (cE.fact 85 (f := .keep "_block") rfl))
  have b_block := F_block.binds (ps := ["space", "told"]) fun _ _ _ _ _ _ us hl => match us, hl with | [_, _], _ => rfl
  have g_block := gg__block
  have F_join := fun_mk (st := s_join) l_join c_join (He.keep_ok (cE.fact 86 (f := .keep "_join") rfl))
  have b_join := F_join.binds (ps := ["space", "told"]) fun _ _ _ _ _ _ us hl => match us, hl with | [_, _], _ => rfl
  have g_join := gg__join
  have F_part := fun_mk (st := s_part) l_part c_part (He.keep_ok (cE.fact 87 (f := .keep "_part") rfl))
  have b_part := F_part.binds (ps := ["space", "told"]) fun _ _ _ _ _ _ us hl => match us, hl with | [_, _], _ => rfl
  have g_part := gg__part
  have F_show := fun_mk (st := s_show) l_show c_show (He.keep_ok (cE.fact 88 (f := .keep "_show") rfl))
  have b_show := F_show.binds (ps := ["space", "told"]) fun _ _ _ _ _ _ us hl => match us, hl with | [_, _], _ => rfl
  have g_show := gg__show
  have F_on_one_line := fun_mk (st := s_on_one_line) l_on_one_line c_on_one_line (He.keep_ok (cE.fact 89 (f := .keep "_on_one_line") rfl))
  have b_on_one_line := F_on_one_line.binds (ps := ["space"]) fun _ _ _ _ _ _ us hl => match us, hl with | [_], _ => rfl
  have g_on_one_line := gg__on_one_line
  have F_law_reel := fun_mk (st := s_law_reel) l_law_reel c_law_reel (He.keep_ok (cE.fact 90 (f := .keep "_law_reel") rfl))
  have b_law_reel := F_law_reel.binds (ps := ["cell", "k"]) fun _ _ _ _ _ _ us hl => match us, hl with | [_, _], _ => rfl
  have g_law_reel := gg__law_reel
  have F_law_draw := fun_mk (st := s_law_draw) l_law_draw c_law_draw (He.keep_ok (cE.fact 91 (f := .keep "_law_draw") rfl))
  have b_law_draw := F_law_draw.binds (ps := ["reel", "many"]) fun _ _ _ _ _ _ us hl => match us, hl with | [_, _], _ => rfl
  have g_law_draw := gg__law_draw
  have F_law_cell := fun_mk (st := s_law_cell) l_law_cell c_law_cell (He.keep_ok (cE.fact 92 (f := .keep "_law_cell") rfl))
  have b_law_cell := F_law_cell.binds (ps := ["script", "k"]) fun _ _ _ _ _ _ us hl => match us, hl with | [_, _], _ => rfl
  have g_law_cell := gg__law_cell
  have F_law_way := fun_mk (st := s_law_way) l_law_way c_law_way (He.keep_ok (cE.fact 93 (f := .keep "_law_way") rfl))
  have b_law_way := F_law_way.binds (ps := ["reel", "face", "goal"]) fun _ _ _ _ _ _ us hl => match us, hl with | [_, _, _], _ => rfl
  have g_law_way := gg__law_way
  have F_law_row := fun_mk (st := s_law_row) l_law_row c_law_row (He.keep_ok (cE.fact 94 (f := .keep "_law_row") rfl))
  have b_law_row := F_law_row.binds (ps := ["reel", "space"]) fun _ _ _ _ _ _ us hl => match us, hl with | [_, _], _ => rfl
  have g_law_row := gg__law_row
  have F_law_shown := fun_mk (st := s_law_shown) l_law_shown c_law_shown (He.keep_ok (cE.fact 95 (f := .keep "_law_shown") rfl))
  have b_law_shown := F_law_shown.binds (ps := ["space"]) fun _ _ _ _ _ _ us hl => match us, hl with | [_], _ => rfl
  have g_law_shown := gg__law_shown
  have F_law_nothing_left := fun_mk (st := s_law_nothing_left) l_law_nothing_left c_law_nothing_left (He.keep_ok (cE.fact 96 (f := .keep "_law_nothing_left") rfl))
  have b_law_nothing_left := F_law_nothing_left.binds (ps := ["desk"]) fun _ _ _ _ _ _ us hl => match us, hl with | [_], _ => rfl
  have g_law_nothing_left := gg__law_nothing_left
  have Flaw := fun_mk (st := slaw) llaw claw (He.keep_ok (cE.fact 97 (f := .keep "law") rfl))
  have glaw := gg_law
  obtain ⟨tMOST_FIGURES, g_MOST_FIGURES⟩ := He.int_ok X G (cE.fact 58 (f := .int "MOST_FIGURES" 30) rfl)
  obtain ⟨tFIG, g_FIGURES⟩ := He.str_ok X G (cE.fact 59 (f := .str "FIGURES" "0123456789") rfl)
  have m_abs := He.free_ok X G (cE.fact 44 (f := .free "abs") rfl)
  have m_all := He.free_ok X G (cE.fact 45 (f := .free "all") rfl)
  have m_bool := He.free_ok X G (cE.fact 46 (f := .free "bool") rfl)
  have m_int := He.free_ok X G (cE.fact 47 (f := .free "int") rfl)
  have m_isinstance := He.free_ok X G (cE.fact 48 (f := .free "isinstance") rfl)
  have m_len := He.free_ok X G (cE.fact 49 (f := .free "len") rfl)
  have m_list := He.free_ok X G (cE.fact 50 (f := .free "list") rfl)
  have m_max := He.free_ok X G (cE.fact 51 (f := .free "max") rfl)
  have m_min := He.free_ok X G (cE.fact 52 (f := .free "min") rfl)
  have m_range := He.free_ok X G (cE.fact 53 (f := .free "range") rfl)
  have m_sorted := He.free_ok X G (cE.fact 54 (f := .free "sorted") rfl)
  have m_str := He.free_ok X G (cE.fact 55 (f := .free "str") rfl)
  have m_tuple := He.free_ok X G (cE.fact 56 (f := .free "tuple") rfl)
  have m_zip := He.free_ok X G (cE.fact 57 (f := .free "zip") rfl)
  have cDesk := He.cls_ok (cE.fact 98 (f := .cls "Desk") rfl)
  have MDesk := He.mkr_ok (cE.fact 99 (f := .mkr "Desk") rfl)
  have gDesk := gg_Desk
  have nDesk_space := He.noat_ok (cE.fact 100 (f := .noat "Desk" "space") rfl)
  have nDesk_before := He.noat_ok (cE.fact 101 (f := .noat "Desk" "before") rfl)
  have meDesk___init__ := He.meth_ok (cE.fact 102 (f := .meth "Desk" "__init__") rfl)
  have FDesk___init__ := fun_mk (st := sDesk___init__) lDesk___init__ cDesk___init__ meDesk___init__.kp
  have bDesk___init__ := FDesk___init__.binds (ps := ["self"]) fun _ _ _ _ _ _ us hl => match us, hl with | [_], _ => rfl
  have meDesk_say := He.meth_ok (cE.fact 103 (f := .meth "Desk" "say") rfl)
  have FDesk_say := fun_mk (st := sDesk_say) lDesk_say cDesk_say meDesk_say.kp
  have bDesk_say := FDesk_say.binds (ps := ["self", "row"]) fun _ _ _ _ _ _ us hl => match us, hl with | [_, _], _ => rfl
  have meDesk__undo := He.meth_ok (cE.fact 104 (f := .meth "Desk" "_undo") rfl)
  have FDesk__undo := fun_mk (st := sDesk__undo) lDesk__undo cDesk__undo meDesk__undo.kp
  have bDesk__undo := FDesk__undo.binds (ps := ["self"]) fun _ _ _ _ _ _ us hl => match us, hl with | [_], _ => rfl
  obtain ⟨xCNoneYet, kCNoneYet, bCNoneYet, tCNoneYet⟩ := He.exc_ok (cE.fact 105 (f := .exc "NoneYet") rfl)
  have gNoneYet := gg_NoneYet
  have TNoneYet : ExF K mg "NoneYet" (He.ga K "NoneYet") := ⟨gNoneYet, xCNoneYet, kCNoneYet, bCNoneYet, tCNoneYet⟩
  have eNoneYet := He.exm_ok (cE.fact 106 (f := .exm "NoneYet" "NoneYet" true) rfl)
  obtain ⟨es_FORMS, n_FORMS, D_FORMS⟩ := saysT c 0 (t := ("FORMS", ["block", "join", "part", "split", "fuse", "fill", "drain", "undo", "show", "count", "border", "moves", "name", "corners", "sound", "turning", "least", "rooms", "off"])) rfl
  obtain ⟨es_CHANGES_desk, n_CHANGES_desk, D_CHANGES_desk⟩ := saysT c 1 (t := ("CHANGES_desk", ["block", "join", "part", "split", "fuse", "fill", "drain"])) rfl
  obtain ⟨es_QUESTIONS, n_QUESTIONS, D_QUESTIONS⟩ := saysT c 2 (t := ("QUESTIONS", ["show", "count", "border", "moves", "name", "corners", "sound", "turning", "least", "rooms", "off"])) rfl
  obtain ⟨⟨b1, b2⟩, ⟨b3, b4, b5, b6, b7⟩, ⟨b8, b9, b10⟩, b11, b12⟩ : (tupA K (He.ga K "ALONE") [.ref (fstA K (He.ga K "ALONE"))] = true ∧ tupA K (fstA K (He.ga K "ALONE")) nones = true) ∧ (formB K "block" [] = true ∧ formB K "part" ["number", "number"] = true ∧ formB K "join" ["number", "number", "joining"] = true ∧ formB K "show" [] = true ∧ formB K "undo" [] = true) ∧ (goesB K "CHANGES_desk" "block" "_block" = true ∧ goesB K "CHANGES_desk" "join" "_join" = true ∧ goesB K "CHANGES_desk" "part" "_part" = true) ∧ goesB K "QUESTIONS" "show" "_show" = true ∧ He.eqO (PySem.W.nsIn K (He.ga K "CHANGES_desk") "show") (some none) = true := by
    unfold bitX at cB
    simpa only [Bool.and_eq_true, and_assoc] using cB
  have hA : ∀ H, SqT K H (He.ga K "ALONE") [.ref (fstA K (He.ga K "ALONE"))] := fun H => tupA_ok b1 H
  have hcA : ∀ H, SqT K H (fstA K (He.ga K "ALONE")) nones := fun H => tupA_ok b2 H
  have hFB := formB_ok D_FORMS b3
  have hFP := formB_ok D_FORMS b4
  have hFJ := formB_ok D_FORMS b5
  have hFS := formB_ok D_FORMS b6
  have hFU := formB_ok D_FORMS b7
  have hCblock := goesB_ok D_CHANGES_desk b8
  have hCjoin := goesB_ok D_CHANGES_desk b9
  have hCpart := goesB_ok D_CHANGES_desk b10
  have hQshow := goesB_ok D_QUESTIONS b11
  have vCshow := He.eqO_ok b12
  have DF := D_FORMS
  have DC := D_CHANGES_desk
  have g_FORMS := gg_FORMS
  have g_CHANGES_desk := gg_CHANGES_desk
  have g_QUESTIONS := gg_QUESTIONS
  have g_ALONE := gg_ALONE
  have gAlias := gg_word_of_texts
  have nS := nDesk_space
  have nB := nDesk_before
  refine ⟨PySem.W.fnOf "law" "law" (defArgs slaw) (defBody slaw) (defScope slaw) .none kVlaw dclaw pmlaw anlaw cdlaw ctlaw, fun s v => .of_eq rfl, fun base _ _ => ?_⟩
  have Gis_whole := okis_whole (P := l.prog) (w := w) (K := K) (mg := mg) (base := base) Fis_whole m_isinstance m_int m_bool
  have Gis_listed := okis_listed (P := l.prog) (w := w) (K := K) (mg := mg) (base := base) Fis_listed m_isinstance m_list m_tuple
  have Gis_below := okis_below (P := l.prog) (w := w) (K := K) (mg := mg) (base := base) Fis_below Fis_whole gis_whole bis_whole Gis_whole
  have Gis_order := okis_order (P := l.prog) (w := w) (K := K) (mg := mg) (base := base) Fis_order Fis_whole gis_whole bis_whole Gis_whole Fis_listed gis_listed bis_listed Gis_listed m_all m_sorted m_list m_range
  have Gis_turn := okis_turn (P := l.prog) (w := w) (K := K) (mg := mg) (base := base) Fis_turn Fis_order gis_order bis_order Gis_order
  have Gcontrary0 := okcontrary (P := l.prog) (w := w) (K := K) (mg := mg) (base := base) Fcontrary m_range m_tuple
  have Gcontrary := fn_or Gcontrary0 (okcontraryL (P := l.prog) (w := w) (base := base) Fcontrary m_range m_tuple)
  have G_joining_of := ok_joining_of (P := l.prog) (w := w) (K := K) (mg := mg) (base := base) F_joining_of Fis_listed gis_listed bis_listed Gis_listed Fis_below gis_below bis_below Gis_below Fis_turn gis_turn bis_turn Gis_turn m_len m_tuple
  have G_block_of := ok_block_of (P := l.prog) (w := w) (K := K) (mg := mg) (base := base) F_block_of Fis_listed gis_listed bis_listed Gis_listed F_joining_of g_joining_of b_joining_of G_joining_of m_len m_tuple
  have G_goes_both_ways := ok_goes_both_ways (P := l.prog) (w := w) (K := K) (mg := mg) (base := base) F_goes_both_ways Fcontrary gcontrary bcontrary Gcontrary0
  have Gspace_of := okspace_of (P := l.prog) (w := w) (K := K) (mg := mg) (base := base) Fspace_of Fis_listed gis_listed bis_listed Gis_listed F_block_of g_block_of b_block_of G_block_of F_goes_both_ways g_goes_both_ways b_goes_both_ways G_goes_both_ways m_len m_tuple m_range
  have GC_is_listed := okis_listedC (P := l.prog) (w := w) (K := K) (mg := mg) (base := base) Fis_listed m_isinstance m_list m_tuple
  have GC_block_of := ok_block_ofC (P := l.prog) (w := w) (K := K) (mg := mg) (base := base) F_block_of Fis_listed gis_listed bis_listed GC_is_listed F_joining_of g_joining_of b_joining_of G_joining_of m_len m_tuple
  have GC_space_of := okspace_ofC (P := l.prog) (w := w) (K := K) (mg := mg) (base := base) Fspace_of Fis_listed gis_listed bis_listed GC_is_listed F_block_of g_block_of b_block_of GC_block_of F_goes_both_ways g_goes_both_ways b_goes_both_ways G_goes_both_ways m_len m_tuple m_range
  have G_is_face := ok_is_face (P := l.prog) (w := w) (K := K) (mg := mg) (base := base) F_is_face Fis_below gis_below bis_below Gis_below m_len
  have G_put := ok_put (P := l.prog) (w := w) (K := K) (mg := mg) (base := base) F_put m_tuple m_list
  have Gjoined := okjoined (P := l.prog) (w := w) (K := K) (mg := mg) (base := base) Fjoined Fspace_of gspace_of bspace_of Gspace_of F_is_face g_is_face b_is_face G_is_face Fis_below gis_below bis_below Gis_below Fis_turn gis_turn bis_turn Gis_turn Fcontrary gcontrary bcontrary Gcontrary F_put g_put b_put G_put m_len m_tuple
  have Gparted := okparted (P := l.prog) (w := w) (K := K) (mg := mg) (base := base) Fparted Fspace_of gspace_of bspace_of Gspace_of F_is_face g_is_face b_is_face G_is_face F_put g_put b_put G_put
  have G_block_behind := ok_block_behind (P := l.prog) (w := w) (K := K) (mg := mg) (base := base) F_block_behind m_tuple
  have Gbeside := okbesideC (P := l.prog) (w := w) (K := K) (mg := mg) (base := base) Fbeside Fspace_of gspace_of bspace_of GC_space_of F_block_behind g_block_behind b_block_behind G_block_behind m_len m_tuple
  have Pspace_text := okspace_textP (P := l.prog) (w := w) (K := K) (mg := mg) (base := base) Fspace_text F_line_of g_line_of b_line_of F_word_of gAlias b_word_of m_str
  have Gis_number_word := okis_number_word (P := l.prog) (w := w) (K := K) (mg := mg) (base := base) Fis_number_word g_FIGURES m_all
  have Gis_joining_word := okis_joining_word (P := l.prog) (w := w) (K := K) (mg := mg) (base := base) Fis_joining_word Fis_number_word gis_number_word bis_number_word Gis_number_word m_sorted
  have G_number_read := ok_number_read (P := l.prog) (w := w) (K := K) (mg := mg) (base := base) F_number_read Fis_number_word gis_number_word bis_number_word Gis_number_word g_MOST_FIGURES m_len m_int
  have G_joining_read := ok_joining_read (P := l.prog) (w := w) (K := K) (mg := mg) (base := base) F_joining_read Fis_joining_word gis_joining_word bis_joining_word Gis_joining_word F_number_read g_number_read b_number_read G_number_read m_int m_tuple
  have G_word_read := ok_word_read (P := l.prog) (w := w) (K := K) (mg := mg) (base := base) F_word_read F_number_read g_number_read b_number_read G_number_read F_joining_read g_joining_read b_joining_read G_joining_read
  have G_read := ok_read (P := l.prog) (w := w) (K := K) (mg := mg) (base := base) F_read F_word_read g_word_read b_word_read G_word_read g_FORMS DF m_isinstance m_str m_len m_zip
  have G_on_one_line := ok_on_one_line (P := l.prog) (w := w) (K := K) (mg := mg) (base := base) F_on_one_line Fspace_text gspace_text bspace_text Pspace_text
  have G_show := ok_show (P := l.prog) (w := w) (K := K) (mg := mg) (base := base) F_show F_on_one_line g_on_one_line b_on_one_line G_on_one_line
  have G_block := ok_block (P := l.prog) (w := w) (K := K) (mg := mg) (base := base) F_block Fbeside gbeside bbeside Gbeside g_ALONE hA hcA m_str m_len
  have G_join := ok_join (P := l.prog) (w := w) (K := K) (mg := mg) (base := base) F_join Fjoined gjoined (kb_joined_ot Fjoined) Gjoined
  have G_part := ok_part (P := l.prog) (w := w) (K := K) (mg := mg) (base := base) F_part Fparted gparted bparted Gparted
  have GDesk___init__ := okDesk___init__ (P := l.prog) (w := w) (K := K) (mg := mg) (base := base) FDesk___init__ cDesk nS nB g_ALONE
  have GDesk__undo := okDesk__undo (P := l.prog) (w := w) (K := K) (mg := mg) (base := base) FDesk__undo cDesk nS nB
  have GDesk__undoX := okDesk__undoX (P := l.prog) (w := w) (K := K) (mg := mg) (base := base) FDesk__undo cDesk nS nB TNoneYet
  have GsB := okDesk_sayB (P := l.prog) (w := w) (K := K) (mg := mg) (base := base) FDesk_say cDesk nS nB meDesk__undo bDesk__undo GDesk__undo F_read g_read b_read G_read g_CHANGES_desk DC F_block b_block G_block g_QUESTIONS F_show b_show G_show hFB hCblock
  have GsP := okDesk_sayP (P := l.prog) (w := w) (K := K) (mg := mg) (base := base) FDesk_say cDesk nS nB meDesk__undo bDesk__undo GDesk__undo F_read g_read b_read G_read g_CHANGES_desk DC F_part b_part G_part g_QUESTIONS F_show b_show G_show hFP hCpart
  have GsJ := okDesk_sayJ (P := l.prog) (w := w) (K := K) (mg := mg) (base := base) FDesk_say cDesk nS nB meDesk__undo bDesk__undo GDesk__undo F_read g_read b_read G_read g_CHANGES_desk DC F_join b_join G_join g_QUESTIONS F_show b_show G_show hFJ hCjoin
  have GsS := okDesk_sayS (P := l.prog) (w := w) (K := K) (mg := mg) (base := base) FDesk_say cDesk nS nB meDesk__undo bDesk__undo GDesk__undo F_read g_read b_read G_read g_CHANGES_desk DC F_part b_part G_part g_QUESTIONS F_show b_show G_show hFS vCshow hQshow
  have GsU := okDesk_sayU (P := l.prog) (w := w) (K := K) (mg := mg) (base := base) FDesk_say cDesk nS nB meDesk__undo bDesk__undo GDesk__undo F_read g_read b_read G_read g_CHANGES_desk DC F_part b_part G_part g_QUESTIONS F_show b_show G_show hFU
  have GsX := okDesk_sayX (P := l.prog) (w := w) (K := K) (mg := mg) (base := base) FDesk_say cDesk nS nB meDesk__undo bDesk__undo GDesk__undoX F_read g_read b_read G_read g_CHANGES_desk DC F_part b_part G_part g_QUESTIONS F_show b_show G_show hFU
  have GDesk_say : FnOk l.prog w K mg base CX0 9 _ _ ["self", "row"] (spSay K (He.ga K "Desk") (He.ga K "ALONE")) := fn_or GsB (fn_or GsP (fn_or GsJ (fn_or GsS GsU)))
  have G_law_reel := ok_law_reel (P := l.prog) (w := w) (K := K) (mg := mg) (base := base) F_law_reel m_abs
  have G_law_draw := ok_law_draw (P := l.prog) (w := w) (K := K) (mg := mg) (base := base) F_law_draw
  have G_law_cell := ok_law_cell (P := l.prog) (w := w) (K := K) (mg := mg) (base := base) F_law_cell m_len
  have G_law_way := ok_law_way (P := l.prog) (w := w) (K := K) (mg := mg) (base := base) F_law_way F_law_draw g_law_draw b_law_draw G_law_draw m_range m_len m_tuple
  have G_law_row := ok_law_row (P := l.prog) (w := w) (K := K) (mg := mg) (base := base) F_law_row F_law_draw g_law_draw b_law_draw G_law_draw F_law_way g_law_way b_law_way G_law_way Fparted gparted bparted Gparted Fjoined gjoined (kb_joined_ot Fjoined) Gjoined m_str
  have G_law_shown := ok_law_shown (P := l.prog) (w := w) (K := K) (mg := mg) (base := base) F_law_shown Fspace_text gspace_text bspace_text Pspace_text
  have G_law_nothing_left := ok_law_nothing_left (P := l.prog) (w := w) (K := K) (mg := mg) (base := base) F_law_nothing_left cDesk gNoneYet eNoneYet meDesk_say bDesk_say GsX
  exact ok_law Flaw cDesk MDesk gDesk bDesk___init__ GDesk___init__ meDesk_say bDesk_say GDesk_say Fbeside gbeside bbeside Gbeside F_law_reel g_law_reel b_law_reel G_law_reel F_law_cell g_law_cell b_law_cell G_law_cell F_law_draw g_law_draw b_law_draw G_law_draw F_law_row g_law_row b_law_row G_law_row F_law_shown g_law_shown b_law_shown G_law_shown F_law_nothing_left g_law_nothing_left b_law_nothing_left G_law_nothing_left hA hcA m_range m_len m_min m_max
end Bk
open PySem PySem.W PySem.Calls PyProof.Rows
set_option maxHeartbeats 0 in
theorem PySem.Challenge.cw_blockrooms_k85_whole_a_long_day_undone_holds : PySem.Challenge.rw_blockrooms_k85_whole_a_long_day_undone.Holds := by
  w_on; o_law
  refine HandSHeadRun.head_imp (r := OpenLaw.row PySem.Challenge.rw_blockrooms_k85_whole_a_long_day_undone) (q := view (OpenLaw.row PySem.Challenge.rw_blockrooms_k85_whole_a_long_day_undone).prog [0, 1, 177]) (H := Bk.hookX) (ob := Bk.obX) (M := 9000) (loose := Bk.hLoose) (d := HandSHeadRun.topDef (OpenLaw.row PySem.Challenge.rw_blockrooms_k85_whole_a_long_day_undone).prog 177) (kwd := []) Bk.obX_eq
    Bk.runX (by kernel_rfl) (by kernel_rfl) (by kernel_rfl) (by rfl) (by first | assumption | decide +kernel) (by decide +kernel) ⟨rfl, rfl, rfl, rfl, rfl, by decide +kernel⟩ ?hw ?hc
  case hw => w_witness2
  case hc =>
    refine L2.walk_ofE (l := PySem.Challenge.rw_blockrooms_k85_whole_a_long_day_undone) (n := 63) (k := 11) (x := "script") (CX := L2.CX0) rfl (by decide) (by kernel_rfl) ⟨rfl, by decide, by decide⟩ ?F (fun _ _ _ _ z => z)
    intro w mg fa h Y G hmg0
    obtain ⟨K, KX, c⟩ := Y
    have hmg : mg ("law" : PySem.Str) = some (.ref fa) := by
      have e : (HandSHeadRun.topDef (OpenLaw.row PySem.Challenge.rw_blockrooms_k85_whole_a_long_day_undone).prog 177).name = ("law" : PySem.Str) := by kernel_rfl
      rw [← e]
      exact hmg0
    obtain ⟨fd, hb, hF⟩ := Bk.facts (l := PySem.Challenge.rw_blockrooms_k85_whole_a_long_day_undone) (w := w) KX G hmg c
    exact ⟨K, fd, Bk.spLaw K, KX, hb, fun H a ns hl _ hS => ⟨a, ns, rfl, hS, hl, fun _ => rfl⟩, hF⟩

