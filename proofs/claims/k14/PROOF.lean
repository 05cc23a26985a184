import PyProof.Rows.All
import Wide.All
import OpenK.AllK
import Wide.FinOn
import KE.KStateDown
import Lean
import HandS.ForMost
import HandS.ForExc
import HandS.Defaults
import HandS.ClsMeth
import HandS.ExcInit
import HandS.IsInst
import HandS.Small
import HandS.Wide
import HandS.WideBits
import HandS.Deep
import HandS.Nested
import HandS.Star
import HandS.Head0
import HandS.Head1
import HandS.Head2
import HandS.HeadEnd
import HandS.HeadHook1
import HandS.HeadHook2
import HandS.HeadNt
import HandS.ExcInitHot
import HandS.ExcField
import HandS.ExcIs
import HandS.HotCalls
import HandS.Walk
import KE.GoesEnum
import KE.GoesZip
import KE.GoesNew
import HandS.OwnIter
import HandS.RaiseMore
import KE.KExcIs
import HandS.Style
import HandS.Replace
import HandS.SortInts
import HandS.TupSets
import HandS.Strs
import HandS.SetTxt0
import HandS.Set
import HandS.More
import HandS.Rev
import HandS.EndBits
import PySem.Challenge.RW_saidhere_k14_flag_readers
set_option Elab.async false
set_option linter.all false
set_option maxRecDepth 100000
set_option maxHeartbeats 0
namespace Kx
open PySem PySem.Spec PyProof.Rows L2
-- written by gen.py
def top (i : Nat) : Stmt := PySem.Challenge.pw_saidhere_k14_flag_readers.main.body.getD i (.Pass ⟨0, 0, 0, 0⟩)
abbrev s_WrongThing___init__ : Stmt := inClass (top 2) 0
abbrev N_WrongThing___init__ : List Str := ["self", "thing"]
-- slots of WrongThing___init__: 0 self, 1 thing
abbrev s_WrongItem___init__ : Stmt := inClass (top 3) 0
abbrev N_WrongItem___init__ : List Str := ["self", "number"]
-- slots of WrongItem___init__: 0 self, 1 number
abbrev s_BadRow___init__ : Stmt := inClass (top 9) 0
abbrev N_BadRow___init__ : List Str := ["self", "at"]
-- slots of BadRow___init__: 0 self, 1 at
abbrev s_is_whole : Stmt := top 11
abbrev N_is_whole : List Str := ["thing"]
-- slots of is_whole: 0 thing
abbrev s_is_below : Stmt := top 12
abbrev N_is_below : List Str := ["thing", "many"]
-- slots of is_below: 0 thing, 1 many
abbrev s_is_listing : Stmt := top 13
abbrev N_is_listing : List Str := ["thing"]
-- slots of is_listing: 0 thing
abbrev s_is_alphabet : Stmt := top 17
abbrev N_is_alphabet : List Str := ["thing", "known", "letter", "one", "other"]
-- slots of is_alphabet: 0 thing, 1 known, 2 letter, 3 one, 4 other
abbrev s_check_alphabet : Stmt := top 18
abbrev N_check_alphabet : List Str := ["thing"]
-- slots of check_alphabet: 0 thing
abbrev s_is_letter : Stmt := top 19
abbrev N_is_letter : List Str := ["alphabet", "thing"]
-- slots of is_letter: 0 alphabet, 1 thing
abbrev s_wrong_at : Stmt := top 20
abbrev N_wrong_at : List Str := ["alphabet", "thing", "at", "letter"]
-- slots of wrong_at: 0 alphabet, 1 thing, 2 at, 3 letter
abbrev s_check_row : Stmt := top 21
abbrev N_check_row : List Str := ["alphabet", "thing", "at"]
-- slots of check_row: 0 alphabet, 1 thing, 2 at
abbrev s_is_move : Stmt := top 25
abbrev N_is_move : List Str := ["thing", "letters", "standings", "standing"]
-- slots of is_move: 0 thing, 1 letters, 2 standings, 3 standing
abbrev s_is_names : Stmt := top 28
abbrev N_is_names : List Str := ["thing", "known", "name", "one", "other"]
-- slots of is_names: 0 thing, 1 known, 2 name, 3 one, 4 other
abbrev s_flagged_letters : Stmt := top 29
abbrev N_flagged_letters : List Str := ["alphabet", "names"]
-- slots of flagged_letters: 0 alphabet, 1 names
abbrev s_flagged : Stmt := top 30
abbrev N_flagged : List Str := ["names", "letter", "borne", "at", "name"]
-- slots of flagged: 0 names, 1 letter, 2 borne, 3 at, 4 name
abbrev s_kept_moves : Stmt := top 31
abbrev N_kept_moves : List Str := ["letters", "thing", "number", "move"]
-- slots of kept_moves: 0 letters, 1 thing, 2 number, 3 move
abbrev s_kept_accepted : Stmt := top 32
abbrev N_kept_accepted : List Str := ["standings", "thing", "number", "standing"]
-- slots of kept_accepted: 0 standings, 1 thing, 2 number, 3 standing
abbrev s_check_places : Stmt := top 33
abbrev N_check_places : List Str := ["names", "row", "thing", "place"]
-- slots of check_places: 0 names, 1 row, 2 thing, 3 place
abbrev s_Reader___init__ : Stmt := inClass (top 34) 0
abbrev N_Reader___init__ : List Str := ["self", "alphabet", "names", "moves", "accepted"]
-- slots of Reader___init__: 0 self, 1 alphabet, 2 names, 3 moves, 4 accepted
abbrev s_Reader___call__ : Stmt := inClass (top 34) 1
abbrev N_Reader___call__ : List Str := ["self", "row", "places", "standing", "at", "letter", "borne", "name", "place"]
-- slots of Reader___call__: 0 self, 1 row, 2 places, 3 standing, 4 at, 5 letter, 6 borne, 7 name, 8 place
abbrev s_Reader___eq__ : Stmt := inClass (top 34) 2
abbrev N_Reader___eq__ : List Str := ["self", "other"]
-- slots of Reader___eq__: 0 self, 1 other
abbrev s_Reader___len__ : Stmt := inClass (top 34) 3
abbrev N_Reader___len__ : List Str := ["self"]
-- slots of Reader___len__: 0 self
abbrev s__law_source : Stmt := top 36
abbrev N__law_source : List Str := ["_law_script", "_law_place", "_law_cell", "_law_seed", "_law_one", "_law_number"]
-- slots of _law_source: 0 _law_script, 1 _law_place, 2 _law_cell, 3 _law_seed, 4 _law_one, 5 _law_number
abbrev s__law_pick : Stmt := top 37
abbrev N__law_pick : List Str := ["_law_source_here", "_law_many", "_law_digit", "_law_mixed"]
-- slots of _law_pick: 0 _law_source_here, 1 _law_many, 2 _law_digit, 3 _law_mixed
abbrev s__law_alphabet : Stmt := top 38
abbrev N__law_alphabet : List Str := ["_law_source_here", "_law_menu"]
-- slots of _law_alphabet: 0 _law_source_here, 1 _law_menu
abbrev s__law_word : Stmt := top 39
abbrev N__law_word : List Str := ["_law_source_here", "_law_alphabet_here", "_law_most", "_law_size", "_law_k"]
-- slots of _law_word: 0 _law_source_here, 1 _law_alphabet_here, 2 _law_most, 3 _law_size, 4 _law_k
abbrev s__law_rows : Stmt := top 40
abbrev N__law_rows : List Str := ["_law_alphabet_here", "_law_most", "_law_level", "_law_told", "_law_k", "_law_later", "_law_row", "_law_letter"]
-- slots of _law_rows: 0 _law_alphabet_here, 1 _law_most, 2 _law_level, 3 _law_told, 4 _law_k, 5 _law_later, 6 _law_row, 7 _law_letter
abbrev s__law_is_number : Stmt := top 41
abbrev N__law_is_number : List Str := ["_law_thing", "_law_low", "_law_high"]
-- slots of _law_is_number: 0 _law_thing, 1 _law_low, 2 _law_high
abbrev s__law_width : Stmt := top 42
abbrev N__law_width : List Str := ["_law_names"]
-- slots of _law_width: 0 _law_names
abbrev s__law_world : Stmt := top 43
abbrev N__law_world : List Str := ["_law_source_here", "_law_alphabet_here", "_law_names", "_law_size", "_law_rare", "_law_many", "_law_moves", "_law_accepted", "_law_k", "_law_p"]
-- slots of _law_world: 0 _law_source_here, 1 _law_alphabet_here, 2 _law_names, 3 _law_size, 4 _law_rare, 5 _law_many, 6 _law_moves, 7 _law_accepted, 8 _law_k, 9 _law_p
abbrev s__law_reads : Stmt := top 44
abbrev N__law_reads : List Str := ["_law_world_here", "_law_row", "_law_places", "_law_alphabet_here", "_law_names", "_law_moves", "_law_accepted", "_law_standing", "_law_k", "_law_number", "_law_j"]
-- slots of _law_reads: 0 _law_world_here, 1 _law_row, 2 _law_places, 3 _law_alphabet_here, 4 _law_names, 5 _law_moves, 6 _law_accepted, 7 _law_standing, 8 _law_k, 9 _law_number, 10 _law_j
abbrev s__law_all_places : Stmt := top 45
abbrev N__law_all_places : List Str := ["_law_size", "_law_many", "_law_told", "_law_k", "_law_later", "_law_one", "_law_place"]
-- slots of _law_all_places: 0 _law_size, 1 _law_many, 2 _law_told, 3 _law_k, 4 _law_later, 5 _law_one, 6 _law_place
abbrev s__law_is_truth : Stmt := top 46
abbrev N__law_is_truth : List Str := ["_law_answer", "_law_due_here"]
-- slots of _law_is_truth: 0 _law_answer, 1 _law_due_here
abbrev s__law_answers : Stmt := top 47
abbrev N__law_answers : List Str := ["_law_reader", "_law_world_here", "_law_source_here", "_law_alphabet_here", "_law_names", "_law_most", "_law_row", "_law_places", "_law_turn", "_law_spots", "_law_kept", "_law_name"]
-- slots of _law_answers: 0 _law_reader, 1 _law_world_here, 2 _law_source_here, 3 _law_alphabet_here, 4 _law_names, 5 _law_most, 6 _law_row, 7 _law_places, 8 _law_turn, 9 _law_spots, 10 _law_kept, 11 _law_name
abbrev s__law_tuples : Stmt := top 48
abbrev N__law_tuples : List Str := ["_law_moves", "_law_move"]
-- slots of _law_tuples: 0 _law_moves, 1 _law_move
abbrev s__law_has : Stmt := top 49
abbrev N__law_has : List Str := ["_law_reader", "_law_world_here", "_law_alphabet_here", "_law_names", "_law_moves", "_law_accepted"]
-- slots of _law_has: 0 _law_reader, 1 _law_world_here, 2 _law_alphabet_here, 3 _law_names, 4 _law_moves, 5 _law_accepted
abbrev s__law_other_world : Stmt := top 50
abbrev N__law_other_world : List Str := ["_law_source_here", "_law_world_here", "_law_alphabet_here", "_law_names", "_law_moves", "_law_accepted", "_law_way", "_law_changed", "_law_p", "_law_k", "_law_move", "_law_one"]
-- slots of _law_other_world: 0 _law_source_here, 1 _law_world_here, 2 _law_alphabet_here, 3 _law_names, 4 _law_moves, 5 _law_accepted, 6 _law_way, 7 _law_changed, 8 _law_p, 9 _law_k, 10 _law_move, 11 _law_one
abbrev s__law_kinds : Stmt := top 51
abbrev N__law_kinds : List Str := ["_law_error", "_law_told"]
-- slots of _law_kinds: 0 _law_error, 1 _law_told
abbrev s__law_made : Stmt := top 52
abbrev N__law_made : List Str := ["_law_alphabet_here", "_law_names", "_law_moves", "_law_accepted", "_law_error", "_law_kinds_here"]
-- slots of _law_made: 0 _law_alphabet_here, 1 _law_names, 2 _law_moves, 3 _law_accepted, 4 _law_error, 5 _law_kinds_here
abbrev s__law_alphabet_good : Stmt := top 53
abbrev N__law_alphabet_good : List Str := ["_law_thing", "_law_letter"]
-- slots of _law_alphabet_good: 0 _law_thing, 1 _law_letter
abbrev s__law_names_good : Stmt := top 54
abbrev N__law_names_good : List Str := ["_law_thing", "_law_name"]
-- slots of _law_names_good: 0 _law_thing, 1 _law_name
abbrev s__law_listed : Stmt := top 55
abbrev N__law_listed : List Str := ["_law_thing"]
-- slots of _law_listed: 0 _law_thing
abbrev s__law_wrong_move : Stmt := top 56
abbrev N__law_wrong_move : List Str := ["_law_alphabet_here", "_law_names", "_law_moves", "_law_p", "_law_one"]
-- slots of _law_wrong_move: 0 _law_alphabet_here, 1 _law_names, 2 _law_moves, 3 _law_p, 4 _law_one
abbrev s__law_wrong_accepted : Stmt := top 57
abbrev N__law_wrong_accepted : List Str := ["_law_size", "_law_accepted", "_law_k"]
-- slots of _law_wrong_accepted: 0 _law_size, 1 _law_accepted, 2 _law_k
abbrev s__law_due : Stmt := top 58
abbrev N__law_due : List Str := ["_law_alphabet_here", "_law_names", "_law_moves", "_law_accepted", "_law_wrong"]
-- slots of _law_due: 0 _law_alphabet_here, 1 _law_names, 2 _law_moves, 3 _law_accepted, 4 _law_wrong
abbrev s__law_spoilt_moves : Stmt := top 59
abbrev N__law_spoilt_moves : List Str := ["_law_source_here", "_law_moves", "_law_told", "_law_way", "_law_p", "_law_k", "_law_move", "_law_one"]
-- slots of _law_spoilt_moves: 0 _law_source_here, 1 _law_moves, 2 _law_told, 3 _law_way, 4 _law_p, 5 _law_k, 6 _law_move, 7 _law_one
abbrev s__law_spoilt_accepted : Stmt := top 60
abbrev N__law_spoilt_accepted : List Str := ["_law_source_here", "_law_size", "_law_accepted", "_law_told", "_law_way", "_law_p"]
-- slots of _law_spoilt_accepted: 0 _law_source_here, 1 _law_size, 2 _law_accepted, 3 _law_told, 4 _law_way, 5 _law_p
abbrev s__law_refused : Stmt := top 61
abbrev N__law_refused : List Str := ["_law_source_here", "_law_world_here", "_law_alphabet_here", "_law_names", "_law_moves", "_law_accepted", "_law_way", "_law_menu"]
-- slots of _law_refused: 0 _law_source_here, 1 _law_world_here, 2 _law_alphabet_here, 3 _law_names, 4 _law_moves, 5 _law_accepted, 6 _law_way, 7 _law_menu
abbrev s__law_called : Stmt := top 62
abbrev N__law_called : List Str := ["_law_reader", "_law_row", "_law_places", "_law_error", "_law_kinds_here"]
-- slots of _law_called: 0 _law_reader, 1 _law_row, 2 _law_places, 3 _law_error, 4 _law_kinds_here
abbrev s__law_call_due : Stmt := top 63
abbrev N__law_call_due : List Str := ["_law_world_here", "_law_row", "_law_places", "_law_k", "_law_place"]
-- slots of _law_call_due: 0 _law_world_here, 1 _law_row, 2 _law_places, 3 _law_k, 4 _law_place
abbrev s__law_call_refused : Stmt := top 64
abbrev N__law_call_refused : List Str := ["_law_source_here", "_law_reader", "_law_world_here", "_law_row", "_law_places", "_law_way", "_law_at", "_law_handed", "_law_got", "_law_due_here", "_law_name"]
-- slots of _law_call_refused: 0 _law_source_here, 1 _law_reader, 2 _law_world_here, 3 _law_row, 4 _law_places, 5 _law_way, 6 _law_at, 7 _law_handed, 8 _law_got, 9 _law_due_here, 10 _law_name
abbrev s__law_bare : Stmt := top 65
abbrev N__law_bare : List Str := ["_law_reader", "_law_world_here", "_law_row", "_law_due_here", "_law_answer", "_law_error"]
-- slots of _law_bare: 0 _law_reader, 1 _law_world_here, 2 _law_row, 3 _law_due_here, 4 _law_answer, 5 _law_error
abbrev s_law : Stmt := top 66
abbrev N_law : List Str := ["_law_script", "_law_source_here", "_law_world_here", "_law_alphabet_here", "_law_names", "_law_moves", "_law_accepted", "_law_handed", "_law_lit", "_law_reader", "_law_twin", "_law_different", "_law_other", "_law_row", "_law_turn", "_law_move"]
-- slots of law: 0 _law_script, 1 _law_source_here, 2 _law_world_here, 3 _law_alphabet_here, 4 _law_names, 5 _law_moves, 6 _law_accepted, 7 _law_handed, 8 _law_lit, 9 _law_reader, 10 _law_twin, 11 _law_different, 12 _law_other, 13 _law_row, 14 _law_turn, 15 _law_move

def dD (x : Str) (st : Stmt) : He.DefD := ⟨(x, none), x, x, defArgs st, defBody st, defScope st, [], []⟩
def noPl : PySem.W.Frag → Addr := He.dflAt ("Reader", some "__call__") 0
def dM (C x q : Str) (st : Stmt) : He.DefD := ⟨(C, some x), x, q, defArgs st, defBody st, defScope st, [], []⟩
def fn0 : List He.DefD := [dM "WrongThing" "__init__" "WrongThing.__init__" s_WrongThing___init__, dM "WrongItem" "__init__" "WrongItem.__init__" s_WrongItem___init__, dM "BadRow" "__init__" "BadRow.__init__" s_BadRow___init__, dD "is_whole" s_is_whole, dD "is_below" s_is_below, dD "is_listing" s_is_listing, dD "is_alphabet" s_is_alphabet, dD "check_alphabet" s_check_alphabet, dD "is_letter" s_is_letter, dD "wrong_at" s_wrong_at]
def fn1 : List He.DefD := [dD "check_row" s_check_row, dD "is_move" s_is_move, dD "is_names" s_is_names, dD "flagged_letters" s_flagged_letters, dD "flagged" s_flagged, dD "kept_moves" s_kept_moves, dD "kept_accepted" s_kept_accepted, dD "check_places" s_check_places, dM "Reader" "__init__" "Reader.__init__" s_Reader___init__, ⟨("Reader", some "__call__"), "__call__", "Reader.__call__", defArgs s_Reader___call__, defBody s_Reader___call__, defScope s_Reader___call__, [.adr noPl], []⟩]
def fn2 : List He.DefD := [dM "Reader" "__eq__" "Reader.__eq__" s_Reader___eq__, dM "Reader" "__len__" "Reader.__len__" s_Reader___len__, dD "_law_source" s__law_source, dD "_law_pick" s__law_pick, dD "_law_alphabet" s__law_alphabet, dD "_law_word" s__law_word, dD "_law_rows" s__law_rows, dD "_law_is_number" s__law_is_number, dD "_law_width" s__law_width, dD "_law_world" s__law_world]
def fn3 : List He.DefD := [dD "_law_reads" s__law_reads, dD "_law_all_places" s__law_all_places, dD "_law_is_truth" s__law_is_truth, dD "_law_answers" s__law_answers, dD "_law_tuples" s__law_tuples, dD "_law_has" s__law_has, dD "_law_other_world" s__law_other_world, dD "_law_kinds" s__law_kinds, dD "_law_made" s__law_made, dD "_law_alphabet_good" s__law_alphabet_good]
def fn4 : List He.DefD := [dD "_law_names_good" s__law_names_good, dD "_law_listed" s__law_listed, dD "_law_wrong_move" s__law_wrong_move, dD "_law_wrong_accepted" s__law_wrong_accepted, dD "_law_due" s__law_due, dD "_law_spoilt_moves" s__law_spoilt_moves, dD "_law_spoilt_accepted" s__law_spoilt_accepted, dD "_law_refused" s__law_refused, dD "_law_called" s__law_called, dD "_law_call_due" s__law_call_due]
def fn5 : List He.DefD := [dD "_law_call_refused" s__law_call_refused, dD "_law_bare" s__law_bare, dD "law" s_law, dM "BadAlphabet" "__init__" "WrongThing.__init__" s_WrongThing___init__, dM "BadNames" "__init__" "WrongThing.__init__" s_WrongThing___init__, dM "BadPlaces" "__init__" "WrongThing.__init__" s_WrongThing___init__, dM "BadMove" "__init__" "WrongItem.__init__" s_WrongItem___init__, dM "BadAccepted" "__init__" "WrongItem.__init__" s_WrongItem___init__]
def fn : List He.DefD := fn0 ++ fn1 ++ fn2 ++ fn3 ++ fn4 ++ fn5
def fa0 : List He.Fa := [.glo "SaidError", .glo "WrongThing", .glo "WrongItem", .glo "BadAlphabet", .glo "BadPlaces", .glo "BadNames", .glo "BadMove", .glo "BadAccepted", .glo "BadRow", .glo "is_whole", .glo "is_below", .glo "is_listing", .glo "is_alphabet", .glo "check_alphabet", .glo "is_letter", .glo "wrong_at", .glo "check_row", .glo "is_move", .glo "is_names", .glo "flagged_letters", .glo "flagged", .glo "kept_moves", .glo "kept_accepted", .glo "check_places", .glo "Reader", .glo "_law_source", .glo "_law_pick", .glo "_law_alphabet", .glo "_law_word", .glo "_law_rows", .glo "_law_is_number", .glo "_law_width", .glo "_law_world", .glo "_law_reads", .glo "_law_all_places", .glo "_law_is_truth", .glo "_law_answers", .glo "_law_tuples", .glo "_law_has", .glo "_law_other_world"]
def fa1 : List He.Fa := [.glo "_law_kinds", .glo "_law_made", .glo "_law_alphabet_good", .glo "_law_names_good", .glo "_law_listed", .glo "_law_wrong_move", .glo "_law_wrong_accepted", .glo "_law_due", .glo "_law_spoilt_moves", .glo "_law_spoilt_accepted", .glo "_law_refused", .glo "_law_called", .glo "_law_call_due", .glo "_law_call_refused", .glo "_law_bare", .glo "law"]
def fa2 : List He.Fa := [.free "ValueError", .free "abs", .free "all", .free "any", .free "bool", .free "dict", .free "enumerate", .free "int", .free "isinstance", .free "len", .free "list", .free "max", .free "min", .free "range", .free "repr", .free "reversed", .free "set", .free "sorted", .free "str", .free "sum", .free "tuple", .free "zip"]
def fa3 : List He.Fa := [.int "MOST_LETTERS" 200, .int "MOST_NAMES" 4, .int "MOST_MOVES" 60, .str "LETTERS" "abcdefgh", .str "NAMES" "uvwxyz", .cls "Reader", .mkr "Reader", .noat "Reader" "alphabet", .noat "Reader" "names", .noat "Reader" "moves", .noat "Reader" "accepted", .meth "Reader" "__call__", .meth "Reader" "__eq__", .meth "Reader" "__len__"]
def fa : List He.Fa := fa0 ++ fa1 ++ fa2 ++ fa3
/-! what more is asked of the written part -/
def clsB (K : PySem.W.Frag) (C : Addr) : Bool := match K.lookup C with
  | some ⟨.type ty, od, .cls cd, sl⟩ => (match cd.mro, sl.toList with
    | .ref C' :: bm, [_, _, _, _, some (.builtin n), _] => decide (ty = "type") && decide (C' = C) && decide (n = "ValueError.__new__") && cd.hasDict && !cd.hasDel && PySem.HandSPX.refsVE bm
    | _, _ => false)
  | _ => false
def exB (K : PySem.W.Frag) (x : Str) (fs : List Str) : Bool :=
  clsB K (He.ga K x) && (decide (PySem.W.findIn K (.ref (He.ga K x)) "__setattr__" = some (some (.builtin "object.__setattr__"))) && (decide (PySem.W.subIn K (.ref (He.ga K x)) (.type "BaseException") = some true) &&
  (decide (PySem.W.typeIn K (.ref (He.ga K x)) = some (.type "type")) && (PySem.W.keepIn K (.ref (He.ga K x)) && (decide (PySem.W.findIn K (.ref (He.ga K x)) "__init__" = some (some (.ref (He.ma K (He.ga K x) "__init__")))) &&
  (decide (PySem.W.typeIn K (.ref (He.ma K (He.ga K x) "__init__")) = some (.type "function")) && (fs.all (fun f => decide (PySem.W.findIn K (.ref (He.ga K x)) f = some none)) && xfB K (He.ga K x))))))))
def exms (K : PySem.W.Frag) (xs : List Str) (y : Str) : Bool := xs.all fun x => decide (PySem.W.exmOne K (.ref (He.ga K x)) (.ref (He.ga K y)) = some true)
def excl : List (Str × List Str) := [("BadAlphabet", ["thing"]), ("BadNames", ["thing"]), ("BadPlaces", ["thing"]), ("BadMove", ["number"]), ("BadAccepted", ["number"]), ("BadRow", ["at"])]
def toldl : List Str := ["BadAlphabet", "BadNames", "BadPlaces", "BadMove", "BadAccepted", "BadRow"]
def askedl : List Str := ["WrongThing", "WrongItem", "BadAlphabet", "BadNames", "BadMove", "BadAccepted", "BadRow", "BadPlaces"]
/-- whether an error of the class x is one of the class y -/
def isErr (x y : Str) : Bool := decide (x = y) || (decide (y = ("WrongThing" : Str)) && decide (x ∈ (["BadAlphabet", "BadNames", "BadPlaces"] : List Str))) || (decide (y = ("WrongItem" : Str)) && decide (x ∈ (["BadMove", "BadAccepted"] : List Str)))
def kitsB (K : PySem.W.Frag) : Bool := toldl.all fun x => askedl.all fun y => decide (PySem.W.kitOne K (.ref (He.ga K x)) (.ref (He.ga K y)) = some (isErr x y))
def clsfB (K : PySem.W.Frag) (C : Addr) : Bool := decide (PySem.W.findIn K (.ref C) "__class__" = some (some (.builtin "object.__class__"))) && decide (PySem.W.mroIn K C (.type "object") = some true)
def objB (K : PySem.W.Frag) : Bool := decide (PySem.W.specialIn K (.builtin "object.__class__") "__get__" = some (some (.builtin "getset_descriptor.__get__"))) && decide (PySem.W.takesIn K (.builtin "object.__class__") = some true)
def fldsB (K : PySem.W.Frag) : Bool := toldl.all fun x => (["at", "number", "thing"] : List Str).all fun f => decide (PySem.W.findIn K (.ref (He.ga K x)) f = some none)
/-! the class Reader -/
def readB (K : PySem.W.Frag) (C : Addr) : Bool := clsfB K C && (decide (PySem.W.kitOne K (.type "tuple") (.ref C) = some false) && (decide (PySem.W.kitOne K (.type "int") (.ref C) = some false) && (decide (PySem.W.kitOne K (.type "NoneType") (.ref C) = some false) &&
  (PySem.W.notFirst K C (.type "tuple") && (PySem.W.notFirst K C (.type "int") && (PySem.W.notFirst K C (.type "NoneType") &&
  (PySem.W.fnIn K (He.ma K C "__call__") && PySem.W.isFn K (.ref (He.ma K C "__call__")))))))))
/-- the default of places: the tuple () -/
def noplB (K : PySem.W.Frag) : Bool := match K.lookup (noPl K) with
  | some ⟨.type ty, none, .seq its _, _⟩ => decide (ty = "tuple") && decide (its.toList.length = 0)
  | _ => false
def stopB (K : PySem.W.Frag) : Bool := ([("BadPlaces" : Str), "BadRow"] : List Str).all (fun x => decide (PySem.W.exmOne K (.ref (He.ga K x)) (.ref (He.ga K "BadPlaces")) = some (decide (x = "BadPlaces")))) &&
  toldl.all (fun x => decide (PySem.W.kitOne K (.ref (He.ga K x)) (.type "ValueError") = some true))

def extra (K : PySem.W.Frag) : Bool := (excl.all (fun p => exB K p.1 p.2) && exms K (excl.map (·.1)) "SaidError") && (kitsB K && (toldl.all (fun x => clsfB K (He.ga K x)) && (objB K && (fldsB K && (readB K (He.ga K "Reader") && (noplB K && stopB K))))))
end Kx
set_option Elab.async false
set_option linter.all false
set_option maxRecDepth 100000
set_option maxHeartbeats 0
namespace Kx
open PySem PySem.Spec PyProof.Rows L2
/-! ### the head, looked at in pieces: each its own run, joined behind -/
abbrev R : PySem.W.OpenRow := PySem.W.OpenLaw.row PySem.Challenge.rw_saidhere_k14_flag_readers
def lookAt {α : Type} (f : PySem.W.Frag → α) (g : Addr → Option Obj) : α := f (He.frG g (He5.asA g 5))
def look {α : Type} (f : PySem.W.Frag → α) (v : α) : PySem.W.Hook where
  α := α
  obs := fun s => lookAt f s.heap.get?
  val := fun _ => v
  says := fun _ h => ∃ K : PySem.W.Frag, K.In h ∧ f K = v
  of := fun _ _ e => ⟨_, He.frG_in, e⟩
  keeps := fun _ _ _ ⟨K, hK, c⟩ k => ⟨K, PySem.W.Frag.In.keeps hK k, c⟩
def lookT {α : Type} (f : PySem.W.Frag → α) (s : PySem.W.SharedT) : α := lookAt f (HandSHeadRun.getT s)
theorem lookT_eq {α : Type} (f : PySem.W.Frag → α) (v : α) (s : PySem.W.SharedT) : lookT f s = (look f v).obs s.abs := by
  have e : HandSHeadRun.getT s = s.abs.heap.get? := funext (HandSHeadRun.getT_eq s)
  show lookAt f (HandSHeadRun.getT s) = lookAt f s.abs.heap.get?
  rw [e]
theorem run_two {α β : Type} {f : PySem.W.Frag → α} {g : PySem.W.Frag → β} {u : α} {v : β} {q : Program} {M : Nat} {ls : List Str} {w : World}
    (a : HandSHeadRun.RunEq R q (look f u) (lookT f) M ls w) (b : HandSHeadRun.RunEq R q (look g v) (lookT g) M ls w) : HandSHeadRun.RunEq R q (look (fun K => (f K, g K)) (u, v)) (lookT fun K => (f K, g K)) M ls w := by
  intro os
  obtain ⟨s, e, h1⟩ := Option.map_eq_some_iff.mp (a os)
  obtain ⟨s', e', h2⟩ := Option.map_eq_some_iff.mp (b os)
  have es : s = s' := Option.some.inj (e.symm.trans e')
  subst es
  refine Option.map_eq_some_iff.mpr ⟨s, e, ?_⟩
  obtain ⟨p1, p2⟩ := Prod.mk.inj h1
  obtain ⟨p3, p4⟩ := Prod.mk.inj p2
  obtain ⟨_, r2⟩ := Prod.mk.inj h2
  obtain ⟨_, r4⟩ := Prod.mk.inj r2
  exact Prod.ext p1 (Prod.ext p3 (Prod.ext p4 r4))
theorem obs_join {fa' fa'' : List He.Fa} {fn' fn'' : List He.DefD} {K : PySem.W.Frag} (a : He.obsD fa' fn' K = He.valD fn') (b : He.obsD fa'' fn'' K = He.valD fn'') : He.SaysD (fa' ++ fa'') (fn' ++ fn'') K := by
  obtain ⟨a1, a2⟩ := Prod.mk.inj a
  obtain ⟨b1, b2⟩ := Prod.mk.inj b
  rw [Bool.and_eq_true] at a1 b1
  refine Prod.ext ?_ ?_
  · show ((fa' ++ fa'').all _ && (fn' ++ fn'').all _) = true
    rw [List.all_append, List.all_append, a1.1, a1.2, b1.1, b1.2]
    rfl
  · show (fn' ++ fn'').map _ = (fn' ++ fn'').map _
    rw [List.map_append, List.map_append, a2, b2]
def faA : List He.Fa := fa0 ++ fa1
def faB : List He.Fa := fa2 ++ fa3
def fnA : List He.DefD := fn0 ++ fn1 ++ fn2
def fnB : List He.DefD := fn3 ++ fn4 ++ fn5
theorem says_of {K : PySem.W.Frag} (a : He.obsD faA fnA K = He.valD fnA) (b : He.obsD faB fnB K = He.valD fnB) : He.SaysD fa fn K := by
  have e1 : fa = faA ++ faB := by unfold fa faA faB; simp only [List.append_assoc]
  have e2 : fn = fnA ++ fnB := by unfold fn fnA fnB; simp only [List.append_assoc]
  rw [e1, e2]
  exact obs_join a b
def nm0 : List PySem.Str := [("SaidError" : PySem.Str), ("WrongThing" : PySem.Str), ("WrongItem" : PySem.Str), ("BadAlphabet" : PySem.Str), ("BadPlaces" : PySem.Str), ("BadNames" : PySem.Str), ("BadMove" : PySem.Str), ("BadAccepted" : PySem.Str), ("BadRow" : PySem.Str), ("is_whole" : PySem.Str), ("is_below" : PySem.Str), ("is_listing" : PySem.Str), ("LETTERS" : PySem.Str), ("MOST_LETTERS" : PySem.Str), ("is_alphabet" : PySem.Str), ("check_alphabet" : PySem.Str)]
def nm1 : List PySem.Str := [("is_letter" : PySem.Str), ("wrong_at" : PySem.Str), ("check_row" : PySem.Str), ("NAMES" : PySem.Str), ("MOST_NAMES" : PySem.Str), ("is_move" : PySem.Str), ("MOST_MOVES" : PySem.Str), ("is_names" : PySem.Str), ("flagged_letters" : PySem.Str), ("flagged" : PySem.Str), ("kept_moves" : PySem.Str), ("kept_accepted" : PySem.Str), ("check_places" : PySem.Str), ("Reader" : PySem.Str), ("_law_source" : PySem.Str), ("_law_pick" : PySem.Str)]
def nm2 : List PySem.Str := [("_law_alphabet" : PySem.Str), ("_law_word" : PySem.Str), ("_law_rows" : PySem.Str), ("_law_is_number" : PySem.Str), ("_law_width" : PySem.Str), ("_law_world" : PySem.Str), ("_law_reads" : PySem.Str), ("_law_all_places" : PySem.Str), ("_law_is_truth" : PySem.Str), ("_law_answers" : PySem.Str), ("_law_tuples" : PySem.Str), ("_law_has" : PySem.Str), ("_law_other_world" : PySem.Str), ("_law_kinds" : PySem.Str), ("_law_made" : PySem.Str), ("_law_alphabet_good" : PySem.Str)]
def nm3 : List PySem.Str := [("_law_names_good" : PySem.Str), ("_law_listed" : PySem.Str), ("_law_wrong_move" : PySem.Str), ("_law_wrong_accepted" : PySem.Str), ("_law_due" : PySem.Str), ("_law_spoilt_moves" : PySem.Str), ("_law_spoilt_accepted" : PySem.Str), ("_law_refused" : PySem.Str), ("_law_called" : PySem.Str), ("_law_call_due" : PySem.Str), ("_law_call_refused" : PySem.Str), ("_law_bare" : PySem.Str)]
def nms : List PySem.Str := nm0 ++ nm1 ++ nm2 ++ nm3
def exA (K : PySem.W.Frag) : Bool := excl.all (fun p => exB K p.1 p.2) && exms K (excl.map (·.1)) "SaidError"
def exZ (K : PySem.W.Frag) : Bool := kitsB K && (toldl.all (fun x => clsfB K (He.ga K x)) && (objB K && (fldsB K && (readB K (He.ga K "Reader") && (noplB K && stopB K)))))
theorem extra_of {K : PySem.W.Frag} (a : exA K = true) (b : exZ K = true) : extra K = true := by
  show (exA K && exZ K) = true
  rw [a, b]
  rfl
end Kx
set_option Elab.async false
set_option linter.all false
set_option maxRecDepth 100000
set_option maxHeartbeats 0
namespace Kx
open PySem PySem.Spec PyProof.Rows L2
theorem run1 (w : World) : HandSHeadRun.RunEq R (PySem.W.view R.prog [66]) (look (He.obsD faA fnA) (He.valD fnA)) (lookT (He.obsD faA fnA)) 20000 nms w := by
  intro os
  kernel_rfl
end Kx
set_option Elab.async false
set_option linter.all false
set_option maxRecDepth 100000
set_option maxHeartbeats 0
namespace Kx
open PySem PySem.Spec PyProof.Rows L2
theorem run2 (w : World) : HandSHeadRun.RunEq R (PySem.W.view R.prog [66]) (look (He.obsD faB fnB) (He.valD fnB)) (lookT (He.obsD faB fnB)) 20000 nms w := by
  intro os
  kernel_rfl
end Kx
set_option Elab.async false
set_option linter.all false
set_option maxRecDepth 100000
set_option maxHeartbeats 0
namespace Kx
open PySem PySem.Spec PyProof.Rows L2
theorem run3 (w : World) : HandSHeadRun.RunEq R (PySem.W.view R.prog [66]) (look (exA) true) (lookT (exA)) 20000 nms w := by
  intro os
  kernel_rfl
end Kx
set_option Elab.async false
set_option linter.all false
set_option maxRecDepth 100000
set_option maxHeartbeats 0
namespace Kx
open PySem PySem.Spec PyProof.Rows L2
theorem run4 (w : World) : HandSHeadRun.RunEq R (PySem.W.view R.prog [66]) (look (exZ) true) (lookT (exZ)) 20000 nms w := by
  intro os
  kernel_rfl
end Kx
set_option Elab.async false
set_option linter.all false
set_option maxRecDepth 100000
set_option maxHeartbeats 4000000
namespace Kx
open PySem PySem.Spec PyProof.Rows L2
def fAll (K : PySem.W.Frag) : (He.AlD × He.AlD) × (Bool × Bool) := ((He.obsD faA fnA K, He.obsD faB fnB K), (exA K, exZ K))
def vAll : (He.AlD × He.AlD) × (Bool × Bool) := ((He.valD fnA, He.valD fnB), (true, true))
theorem runAll (w : World) : HandSHeadRun.RunEq R (PySem.W.view R.prog [66]) (look fAll vAll) (lookT fAll) 20000 nms w := run_two (run_two (run1 w) (run2 w)) (run_two (run3 w) (run4 w))
theorem all_of {K : PySem.W.Frag} (h : fAll K = vAll) : He.SaysD fa fn K ∧ extra K = true := by
  obtain ⟨h1, h2⟩ := Prod.mk.inj h
  obtain ⟨a, b⟩ := Prod.mk.inj h1
  obtain ⟨c, d⟩ := Prod.mk.inj h2
  exact ⟨says_of a b, extra_of c d⟩
end Kx
set_option Elab.async false
set_option linter.all false
set_option maxRecDepth 100000
set_option maxHeartbeats 0
namespace Kx
open PySem PySem.Spec PyProof.Rows L2
theorem sc_WrongThing___init__ : FnScope ["self", "thing"] ["self", "thing"] (defScope s_WrongThing___init__) := ⟨rfl, rfl, rfl, by decide +kernel, rfl, by decide +kernel, by decide +kernel⟩
theorem sc_WrongItem___init__ : FnScope ["self", "number"] ["self", "number"] (defScope s_WrongItem___init__) := ⟨rfl, rfl, rfl, by decide +kernel, rfl, by decide +kernel, by decide +kernel⟩
theorem sc_BadRow___init__ : FnScope ["self", "at"] ["self", "at"] (defScope s_BadRow___init__) := ⟨rfl, rfl, rfl, by decide +kernel, rfl, by decide +kernel, by decide +kernel⟩
theorem sc_is_whole : FnScope ["thing"] ["thing"] (defScope s_is_whole) := ⟨rfl, rfl, rfl, by decide +kernel, rfl, by decide +kernel, by decide +kernel⟩
theorem sc_is_below : FnScope ["thing", "many"] ["thing", "many"] (defScope s_is_below) := ⟨rfl, rfl, rfl, by decide +kernel, rfl, by decide +kernel, by decide +kernel⟩
theorem sc_is_listing : FnScope ["thing"] ["thing"] (defScope s_is_listing) := ⟨rfl, rfl, rfl, by decide +kernel, rfl, by decide +kernel, by decide +kernel⟩
theorem sc_is_alphabet : FnScope ["thing", "known", "letter", "one", "other"] ["thing"] (defScope s_is_alphabet) := ⟨rfl, rfl, rfl, by decide +kernel, rfl, by decide +kernel, by decide +kernel⟩
theorem sc_check_alphabet : FnScope ["thing"] ["thing"] (defScope s_check_alphabet) := ⟨rfl, rfl, rfl, by decide +kernel, rfl, by decide +kernel, by decide +kernel⟩
theorem sc_is_letter : FnScope ["alphabet", "thing"] ["alphabet", "thing"] (defScope s_is_letter) := ⟨rfl, rfl, rfl, by decide +kernel, rfl, by decide +kernel, by decide +kernel⟩
theorem sc_wrong_at : FnScope ["alphabet", "thing", "at", "letter"] ["alphabet", "thing"] (defScope s_wrong_at) := ⟨rfl, rfl, rfl, by decide +kernel, rfl, by decide +kernel, by decide +kernel⟩
theorem sc_check_row : FnScope ["alphabet", "thing", "at"] ["alphabet", "thing"] (defScope s_check_row) := ⟨rfl, rfl, rfl, by decide +kernel, rfl, by decide +kernel, by decide +kernel⟩
theorem sc_is_move : FnScope ["thing", "letters", "standings", "standing"] ["thing", "letters", "standings"] (defScope s_is_move) := ⟨rfl, rfl, rfl, by decide +kernel, rfl, by decide +kernel, by decide +kernel⟩
theorem sc_is_names : FnScope ["thing", "known", "name", "one", "other"] ["thing"] (defScope s_is_names) := ⟨rfl, rfl, rfl, by decide +kernel, rfl, by decide +kernel, by decide +kernel⟩
theorem sc_flagged_letters : FnScope ["alphabet", "names"] ["alphabet", "names"] (defScope s_flagged_letters) := ⟨rfl, rfl, rfl, by decide +kernel, rfl, by decide +kernel, by decide +kernel⟩
theorem sc_flagged : FnScope ["names", "letter", "borne", "at", "name"] ["names", "letter", "borne"] (defScope s_flagged) := ⟨rfl, rfl, rfl, by decide +kernel, rfl, by decide +kernel, by decide +kernel⟩
theorem sc_kept_moves : FnScope ["letters", "thing", "number", "move"] ["letters", "thing"] (defScope s_kept_moves) := ⟨rfl, rfl, rfl, by decide +kernel, rfl, by decide +kernel, by decide +kernel⟩
theorem sc_kept_accepted : FnScope ["standings", "thing", "number", "standing"] ["standings", "thing"] (defScope s_kept_accepted) := ⟨rfl, rfl, rfl, by decide +kernel, rfl, by decide +kernel, by decide +kernel⟩
theorem sc_check_places : FnScope ["names", "row", "thing", "place"] ["names", "row", "thing"] (defScope s_check_places) := ⟨rfl, rfl, rfl, by decide +kernel, rfl, by decide +kernel, by decide +kernel⟩
theorem sc_Reader___init__ : FnScope ["self", "alphabet", "names", "moves", "accepted"] ["self", "alphabet", "names", "moves", "accepted"] (defScope s_Reader___init__) := ⟨rfl, rfl, rfl, by decide +kernel, rfl, by decide +kernel, by decide +kernel⟩
theorem sc_Reader___call__ : FnScope ["self", "row", "places", "standing", "at", "letter", "borne", "name", "place"] ["self", "row", "places"] (defScope s_Reader___call__) := ⟨rfl, rfl, rfl, by decide +kernel, rfl, by decide +kernel, by decide +kernel⟩
theorem sc_Reader___eq__ : FnScope ["self", "other"] ["self", "other"] (defScope s_Reader___eq__) := ⟨rfl, rfl, rfl, by decide +kernel, rfl, by decide +kernel, by decide +kernel⟩
theorem sc_Reader___len__ : FnScope ["self"] ["self"] (defScope s_Reader___len__) := ⟨rfl, rfl, rfl, by decide +kernel, rfl, by decide +kernel, by decide +kernel⟩
theorem sc__law_source : FnScope ["_law_script", "_law_place", "_law_cell", "_law_seed", "_law_one", "_law_number"] ["_law_script", "_law_place"] (defScope s__law_source) := ⟨rfl, rfl, rfl, by decide +kernel, rfl, by decide +kernel, by decide +kernel⟩
theorem sc__law_pick : FnScope ["_law_source_here", "_law_many", "_law_digit", "_law_mixed"] ["_law_source_here", "_law_many"] (defScope s__law_pick) := ⟨rfl, rfl, rfl, by decide +kernel, rfl, by decide +kernel, by decide +kernel⟩
theorem sc__law_alphabet : FnScope ["_law_source_here", "_law_menu"] ["_law_source_here"] (defScope s__law_alphabet) := ⟨rfl, rfl, rfl, by decide +kernel, rfl, by decide +kernel, by decide +kernel⟩
theorem sc__law_word : FnScope ["_law_source_here", "_law_alphabet_here", "_law_most", "_law_size", "_law_k"] ["_law_source_here", "_law_alphabet_here", "_law_most"] (defScope s__law_word) := ⟨rfl, rfl, rfl, by decide +kernel, rfl, by decide +kernel, by decide +kernel⟩
theorem sc__law_rows : FnScope ["_law_alphabet_here", "_law_most", "_law_level", "_law_told", "_law_k", "_law_later", "_law_row", "_law_letter"] ["_law_alphabet_here", "_law_most"] (defScope s__law_rows) := ⟨rfl, rfl, rfl, by decide +kernel, rfl, by decide +kernel, by decide +kernel⟩
theorem sc__law_is_number : FnScope ["_law_thing", "_law_low", "_law_high"] ["_law_thing", "_law_low", "_law_high"] (defScope s__law_is_number) := ⟨rfl, rfl, rfl, by decide +kernel, rfl, by decide +kernel, by decide +kernel⟩
theorem sc__law_width : FnScope ["_law_names"] ["_law_names"] (defScope s__law_width) := ⟨rfl, rfl, rfl, by decide +kernel, rfl, by decide +kernel, by decide +kernel⟩
theorem sc__law_world : FnScope ["_law_source_here", "_law_alphabet_here", "_law_names", "_law_size", "_law_rare", "_law_many", "_law_moves", "_law_accepted", "_law_k", "_law_p"] ["_law_source_here"] (defScope s__law_world) := ⟨rfl, rfl, rfl, by decide +kernel, rfl, by decide +kernel, by decide +kernel⟩
theorem sc__law_reads : FnScope ["_law_world_here", "_law_row", "_law_places", "_law_alphabet_here", "_law_names", "_law_moves", "_law_accepted", "_law_standing", "_law_k", "_law_number", "_law_j"] ["_law_world_here", "_law_row", "_law_places"] (defScope s__law_reads) := ⟨rfl, rfl, rfl, by decide +kernel, rfl, by decide +kernel, by decide +kernel⟩
theorem sc__law_all_places : FnScope ["_law_size", "_law_many", "_law_told", "_law_k", "_law_later", "_law_one", "_law_place"] ["_law_size", "_law_many"] (defScope s__law_all_places) := ⟨rfl, rfl, rfl, by decide +kernel, rfl, by decide +kernel, by decide +kernel⟩
theorem sc__law_is_truth : FnScope ["_law_answer", "_law_due_here"] ["_law_answer", "_law_due_here"] (defScope s__law_is_truth) := ⟨rfl, rfl, rfl, by decide +kernel, rfl, by decide +kernel, by decide +kernel⟩
theorem sc__law_answers : FnScope ["_law_reader", "_law_world_here", "_law_source_here", "_law_alphabet_here", "_law_names", "_law_most", "_law_row", "_law_places", "_law_turn", "_law_spots", "_law_kept", "_law_name"] ["_law_reader", "_law_world_here", "_law_source_here"] (defScope s__law_answers) := ⟨rfl, rfl, rfl, by decide +kernel, rfl, by decide +kernel, by decide +kernel⟩
theorem sc__law_tuples : FnScope ["_law_moves", "_law_move"] ["_law_moves"] (defScope s__law_tuples) := ⟨rfl, rfl, rfl, by decide +kernel, rfl, by decide +kernel, by decide +kernel⟩
theorem sc__law_has : FnScope ["_law_reader", "_law_world_here", "_law_alphabet_here", "_law_names", "_law_moves", "_law_accepted"] ["_law_reader", "_law_world_here"] (defScope s__law_has) := ⟨rfl, rfl, rfl, by decide +kernel, rfl, by decide +kernel, by decide +kernel⟩
theorem sc__law_other_world : FnScope ["_law_source_here", "_law_world_here", "_law_alphabet_here", "_law_names", "_law_moves", "_law_accepted", "_law_way", "_law_changed", "_law_p", "_law_k", "_law_move", "_law_one"] ["_law_source_here", "_law_world_here"] (defScope s__law_other_world) := ⟨rfl, rfl, rfl, by decide +kernel, rfl, by decide +kernel, by decide +kernel⟩
theorem sc__law_kinds : FnScope ["_law_error", "_law_told"] ["_law_error"] (defScope s__law_kinds) := ⟨rfl, rfl, rfl, by decide +kernel, rfl, by decide +kernel, by decide +kernel⟩
theorem sc__law_made : FnScope ["_law_alphabet_here", "_law_names", "_law_moves", "_law_accepted", "_law_error", "_law_kinds_here"] ["_law_alphabet_here", "_law_names", "_law_moves", "_law_accepted"] (defScope s__law_made) := ⟨rfl, rfl, rfl, by decide +kernel, rfl, by decide +kernel, by decide +kernel⟩
theorem sc__law_alphabet_good : FnScope ["_law_thing", "_law_letter"] ["_law_thing"] (defScope s__law_alphabet_good) := ⟨rfl, rfl, rfl, by decide +kernel, rfl, by decide +kernel, by decide +kernel⟩
theorem sc__law_names_good : FnScope ["_law_thing", "_law_name"] ["_law_thing"] (defScope s__law_names_good) := ⟨rfl, rfl, rfl, by decide +kernel, rfl, by decide +kernel, by decide +kernel⟩
theorem sc__law_listed : FnScope ["_law_thing"] ["_law_thing"] (defScope s__law_listed) := ⟨rfl, rfl, rfl, by decide +kernel, rfl, by decide +kernel, by decide +kernel⟩
theorem sc__law_wrong_move : FnScope ["_law_alphabet_here", "_law_names", "_law_moves", "_law_p", "_law_one"] ["_law_alphabet_here", "_law_names", "_law_moves"] (defScope s__law_wrong_move) := ⟨rfl, rfl, rfl, by decide +kernel, rfl, by decide +kernel, by decide +kernel⟩
theorem sc__law_wrong_accepted : FnScope ["_law_size", "_law_accepted", "_law_k"] ["_law_size", "_law_accepted"] (defScope s__law_wrong_accepted) := ⟨rfl, rfl, rfl, by decide +kernel, rfl, by decide +kernel, by decide +kernel⟩
theorem sc__law_due : FnScope ["_law_alphabet_here", "_law_names", "_law_moves", "_law_accepted", "_law_wrong"] ["_law_alphabet_here", "_law_names", "_law_moves", "_law_accepted"] (defScope s__law_due) := ⟨rfl, rfl, rfl, by decide +kernel, rfl, by decide +kernel, by decide +kernel⟩
theorem sc__law_spoilt_moves : FnScope ["_law_source_here", "_law_moves", "_law_told", "_law_way", "_law_p", "_law_k", "_law_move", "_law_one"] ["_law_source_here", "_law_moves"] (defScope s__law_spoilt_moves) := ⟨rfl, rfl, rfl, by decide +kernel, rfl, by decide +kernel, by decide +kernel⟩
theorem sc__law_spoilt_accepted : FnScope ["_law_source_here", "_law_size", "_law_accepted", "_law_told", "_law_way", "_law_p"] ["_law_source_here", "_law_size", "_law_accepted"] (defScope s__law_spoilt_accepted) := ⟨rfl, rfl, rfl, by decide +kernel, rfl, by decide +kernel, by decide +kernel⟩
theorem sc__law_refused : FnScope ["_law_source_here", "_law_world_here", "_law_alphabet_here", "_law_names", "_law_moves", "_law_accepted", "_law_way", "_law_menu"] ["_law_source_here", "_law_world_here"] (defScope s__law_refused) := ⟨rfl, rfl, rfl, by decide +kernel, rfl, by decide +kernel, by decide +kernel⟩
theorem sc__law_called : FnScope ["_law_reader", "_law_row", "_law_places", "_law_error", "_law_kinds_here"] ["_law_reader", "_law_row", "_law_places"] (defScope s__law_called) := ⟨rfl, rfl, rfl, by decide +kernel, rfl, by decide +kernel, by decide +kernel⟩
theorem sc__law_call_due : FnScope ["_law_world_here", "_law_row", "_law_places", "_law_k", "_law_place"] ["_law_world_here", "_law_row", "_law_places"] (defScope s__law_call_due) := ⟨rfl, rfl, rfl, by decide +kernel, rfl, by decide +kernel, by decide +kernel⟩
theorem sc__law_call_refused : FnScope ["_law_source_here", "_law_reader", "_law_world_here", "_law_row", "_law_places", "_law_way", "_law_at", "_law_handed", "_law_got", "_law_due_here", "_law_name"] ["_law_source_here", "_law_reader", "_law_world_here"] (defScope s__law_call_refused) := ⟨rfl, rfl, rfl, by decide +kernel, rfl, by decide +kernel, by decide +kernel⟩
theorem sc__law_bare : FnScope ["_law_reader", "_law_world_here", "_law_row", "_law_due_here", "_law_answer", "_law_error"] ["_law_reader", "_law_world_here", "_law_row"] (defScope s__law_bare) := ⟨rfl, rfl, rfl, by decide +kernel, rfl, by decide +kernel, by decide +kernel⟩
theorem sc_law : FnScope ["_law_script", "_law_source_here", "_law_world_here", "_law_alphabet_here", "_law_names", "_law_moves", "_law_accepted", "_law_handed", "_law_lit", "_law_reader", "_law_twin", "_law_different", "_law_other", "_law_row", "_law_turn", "_law_move"] ["_law_script"] (defScope s_law) := ⟨rfl, rfl, rfl, by decide +kernel, rfl, by decide +kernel, by decide +kernel⟩
structure Txt (K : PySem.W.Frag) (mg : Str → Option Value) : Prop where
  sd : He.SaysD fa fn K
  g : ∀ x : Str, He.Fa.glo x ∈ fa → mg x = some (.ref (He.ga K x))
  fr : ∀ x : Str, He.Fa.free x ∈ fa → mg x = none
  ex : extra K = true
  i_MOST_LETTERS : ∃ t, mg "MOST_LETTERS" = some (.int 200 t)
  i_MOST_NAMES : ∃ t, mg "MOST_NAMES" = some (.int 4 t)
  i_MOST_MOVES : ∃ t, mg "MOST_MOVES" = some (.int 60 t)
  s_LETTERS : ∃ t, mg "LETTERS" = some (.str "abcdefgh" t)
  s_NAMES : ∃ t, mg "NAMES" = some (.str "uvwxyz" t)
theorem fr_of {K mg} (T : Txt K mg) (i : Nat) {x : Str} (h : fa2[i]? = some (.free x) := by rfl) : mg x = none := T.fr x (by unfold fa; exact List.mem_append_left _ (List.mem_append_right _ (List.mem_of_getElem? h)))
theorem fr_ValueError {K mg} (T : Txt K mg) : mg "ValueError" = none := fr_of T 0
theorem fr_abs {K mg} (T : Txt K mg) : mg "abs" = none := fr_of T 1
theorem fr_all {K mg} (T : Txt K mg) : mg "all" = none := fr_of T 2
theorem fr_any {K mg} (T : Txt K mg) : mg "any" = none := fr_of T 3
theorem fr_bool {K mg} (T : Txt K mg) : mg "bool" = none := fr_of T 4
theorem fr_dict {K mg} (T : Txt K mg) : mg "dict" = none := fr_of T 5
theorem fr_enumerate {K mg} (T : Txt K mg) : mg "enumerate" = none := fr_of T 6
theorem fr_int {K mg} (T : Txt K mg) : mg "int" = none := fr_of T 7
theorem fr_isinstance {K mg} (T : Txt K mg) : mg "isinstance" = none := fr_of T 8
theorem fr_len {K mg} (T : Txt K mg) : mg "len" = none := fr_of T 9
theorem fr_list {K mg} (T : Txt K mg) : mg "list" = none := fr_of T 10
theorem fr_max {K mg} (T : Txt K mg) : mg "max" = none := fr_of T 11
theorem fr_min {K mg} (T : Txt K mg) : mg "min" = none := fr_of T 12
theorem fr_range {K mg} (T : Txt K mg) : mg "range" = none := fr_of T 13
theorem fr_repr {K mg} (T : Txt K mg) : mg "repr" = none := fr_of T 14
theorem fr_reversed {K mg} (T : Txt K mg) : mg "reversed" = none := fr_of T 15
theorem fr_set {K mg} (T : Txt K mg) : mg "set" = none := fr_of T 16
theorem fr_sorted {K mg} (T : Txt K mg) : mg "sorted" = none := fr_of T 17
theorem fr_str {K mg} (T : Txt K mg) : mg "str" = none := fr_of T 18
theorem fr_sum {K mg} (T : Txt K mg) : mg "sum" = none := fr_of T 19
theorem fr_tuple {K mg} (T : Txt K mg) : mg "tuple" = none := fr_of T 20
theorem fr_zip {K mg} (T : Txt K mg) : mg "zip" = none := fr_of T 21
theorem g_of0 {K mg} (T : Txt K mg) (i : Nat) {x : Str} (h : fa0[i]? = some (.glo x) := by rfl) : mg x = some (.ref (He.ga K x)) := T.g x (by unfold fa; exact List.mem_append_left _ (List.mem_append_left _ (List.mem_append_left _ (List.mem_of_getElem? h))))
theorem g_of1 {K mg} (T : Txt K mg) (i : Nat) {x : Str} (h : fa1[i]? = some (.glo x) := by rfl) : mg x = some (.ref (He.ga K x)) := T.g x (by unfold fa; exact List.mem_append_left _ (List.mem_append_left _ (List.mem_append_right _ (List.mem_of_getElem? h))))
theorem g_SaidError {K mg} (T : Txt K mg) : mg "SaidError" = some (.ref (He.ga K "SaidError")) := g_of0 T 0
theorem g_WrongThing {K mg} (T : Txt K mg) : mg "WrongThing" = some (.ref (He.ga K "WrongThing")) := g_of0 T 1
theorem g_WrongItem {K mg} (T : Txt K mg) : mg "WrongItem" = some (.ref (He.ga K "WrongItem")) := g_of0 T 2
theorem g_BadAlphabet {K mg} (T : Txt K mg) : mg "BadAlphabet" = some (.ref (He.ga K "BadAlphabet")) := g_of0 T 3
theorem g_BadPlaces {K mg} (T : Txt K mg) : mg "BadPlaces" = some (.ref (He.ga K "BadPlaces")) := g_of0 T 4
theorem g_BadNames {K mg} (T : Txt K mg) : mg "BadNames" = some (.ref (He.ga K "BadNames")) := g_of0 T 5
theorem g_BadMove {K mg} (T : Txt K mg) : mg "BadMove" = some (.ref (He.ga K "BadMove")) := g_of0 T 6
theorem g_BadAccepted {K mg} (T : Txt K mg) : mg "BadAccepted" = some (.ref (He.ga K "BadAccepted")) := g_of0 T 7
theorem g_BadRow {K mg} (T : Txt K mg) : mg "BadRow" = some (.ref (He.ga K "BadRow")) := g_of0 T 8
theorem g_is_whole {K mg} (T : Txt K mg) : mg "is_whole" = some (.ref (He.ga K "is_whole")) := g_of0 T 9
theorem g_is_below {K mg} (T : Txt K mg) : mg "is_below" = some (.ref (He.ga K "is_below")) := g_of0 T 10
theorem g_is_listing {K mg} (T : Txt K mg) : mg "is_listing" = some (.ref (He.ga K "is_listing")) := g_of0 T 11
theorem g_is_alphabet {K mg} (T : Txt K mg) : mg "is_alphabet" = some (.ref (He.ga K "is_alphabet")) := g_of0 T 12
theorem g_check_alphabet {K mg} (T : Txt K mg) : mg "check_alphabet" = some (.ref (He.ga K "check_alphabet")) := g_of0 T 13
theorem g_is_letter {K mg} (T : Txt K mg) : mg "is_letter" = some (.ref (He.ga K "is_letter")) := g_of0 T 14
theorem g_wrong_at {K mg} (T : Txt K mg) : mg "wrong_at" = some (.ref (He.ga K "wrong_at")) := g_of0 T 15
theorem g_check_row {K mg} (T : Txt K mg) : mg "check_row" = some (.ref (He.ga K "check_row")) := g_of0 T 16
theorem g_is_move {K mg} (T : Txt K mg) : mg "is_move" = some (.ref (He.ga K "is_move")) := g_of0 T 17
theorem g_is_names {K mg} (T : Txt K mg) : mg "is_names" = some (.ref (He.ga K "is_names")) := g_of0 T 18
theorem g_flagged_letters {K mg} (T : Txt K mg) : mg "flagged_letters" = some (.ref (He.ga K "flagged_letters")) := g_of0 T 19
theorem g_flagged {K mg} (T : Txt K mg) : mg "flagged" = some (.ref (He.ga K "flagged")) := g_of0 T 20
theorem g_kept_moves {K mg} (T : Txt K mg) : mg "kept_moves" = some (.ref (He.ga K "kept_moves")) := g_of0 T 21
theorem g_kept_accepted {K mg} (T : Txt K mg) : mg "kept_accepted" = some (.ref (He.ga K "kept_accepted")) := g_of0 T 22
theorem g_check_places {K mg} (T : Txt K mg) : mg "check_places" = some (.ref (He.ga K "check_places")) := g_of0 T 23
theorem g_Reader {K mg} (T : Txt K mg) : mg "Reader" = some (.ref (He.ga K "Reader")) := g_of0 T 24
theorem g__law_source {K mg} (T : Txt K mg) : mg "_law_source" = some (.ref (He.ga K "_law_source")) := g_of0 T 25
theorem g__law_pick {K mg} (T : Txt K mg) : mg "_law_pick" = some (.ref (He.ga K "_law_pick")) := g_of0 T 26
theorem g__law_alphabet {K mg} (T : Txt K mg) : mg "_law_alphabet" = some (.ref (He.ga K "_law_alphabet")) := g_of0 T 27
theorem g__law_word {K mg} (T : Txt K mg) : mg "_law_word" = some (.ref (He.ga K "_law_word")) := g_of0 T 28
theorem g__law_rows {K mg} (T : Txt K mg) : mg "_law_rows" = some (.ref (He.ga K "_law_rows")) := g_of0 T 29
theorem g__law_is_number {K mg} (T : Txt K mg) : mg "_law_is_number" = some (.ref (He.ga K "_law_is_number")) := g_of0 T 30
theorem g__law_width {K mg} (T : Txt K mg) : mg "_law_width" = some (.ref (He.ga K "_law_width")) := g_of0 T 31
theorem g__law_world {K mg} (T : Txt K mg) : mg "_law_world" = some (.ref (He.ga K "_law_world")) := g_of0 T 32
theorem g__law_reads {K mg} (T : Txt K mg) : mg "_law_reads" = some (.ref (He.ga K "_law_reads")) := g_of0 T 33
theorem g__law_all_places {K mg} (T : Txt K mg) : mg "_law_all_places" = some (.ref (He.ga K "_law_all_places")) := g_of0 T 34
theorem g__law_is_truth {K mg} (T : Txt K mg) : mg "_law_is_truth" = some (.ref (He.ga K "_law_is_truth")) := g_of0 T 35
theorem g__law_answers {K mg} (T : Txt K mg) : mg "_law_answers" = some (.ref (He.ga K "_law_answers")) := g_of0 T 36
theorem g__law_tuples {K mg} (T : Txt K mg) : mg "_law_tuples" = some (.ref (He.ga K "_law_tuples")) := g_of0 T 37
theorem g__law_has {K mg} (T : Txt K mg) : mg "_law_has" = some (.ref (He.ga K "_law_has")) := g_of0 T 38
theorem g__law_other_world {K mg} (T : Txt K mg) : mg "_law_other_world" = some (.ref (He.ga K "_law_other_world")) := g_of0 T 39
theorem g__law_kinds {K mg} (T : Txt K mg) : mg "_law_kinds" = some (.ref (He.ga K "_law_kinds")) := g_of1 T 0
theorem g__law_made {K mg} (T : Txt K mg) : mg "_law_made" = some (.ref (He.ga K "_law_made")) := g_of1 T 1
theorem g__law_alphabet_good {K mg} (T : Txt K mg) : mg "_law_alphabet_good" = some (.ref (He.ga K "_law_alphabet_good")) := g_of1 T 2
theorem g__law_names_good {K mg} (T : Txt K mg) : mg "_law_names_good" = some (.ref (He.ga K "_law_names_good")) := g_of1 T 3
theorem g__law_listed {K mg} (T : Txt K mg) : mg "_law_listed" = some (.ref (He.ga K "_law_listed")) := g_of1 T 4
theorem g__law_wrong_move {K mg} (T : Txt K mg) : mg "_law_wrong_move" = some (.ref (He.ga K "_law_wrong_move")) := g_of1 T 5
theorem g__law_wrong_accepted {K mg} (T : Txt K mg) : mg "_law_wrong_accepted" = some (.ref (He.ga K "_law_wrong_accepted")) := g_of1 T 6
theorem g__law_due {K mg} (T : Txt K mg) : mg "_law_due" = some (.ref (He.ga K "_law_due")) := g_of1 T 7
theorem g__law_spoilt_moves {K mg} (T : Txt K mg) : mg "_law_spoilt_moves" = some (.ref (He.ga K "_law_spoilt_moves")) := g_of1 T 8
theorem g__law_spoilt_accepted {K mg} (T : Txt K mg) : mg "_law_spoilt_accepted" = some (.ref (He.ga K "_law_spoilt_accepted")) := g_of1 T 9
theorem g__law_refused {K mg} (T : Txt K mg) : mg "_law_refused" = some (.ref (He.ga K "_law_refused")) := g_of1 T 10
theorem g__law_called {K mg} (T : Txt K mg) : mg "_law_called" = some (.ref (He.ga K "_law_called")) := g_of1 T 11
theorem g__law_call_due {K mg} (T : Txt K mg) : mg "_law_call_due" = some (.ref (He.ga K "_law_call_due")) := g_of1 T 12
theorem g__law_call_refused {K mg} (T : Txt K mg) : mg "_law_call_refused" = some (.ref (He.ga K "_law_call_refused")) := g_of1 T 13
theorem g__law_bare {K mg} (T : Txt K mg) : mg "_law_bare" = some (.ref (He.ga K "_law_bare")) := g_of1 T 14
theorem g_law {K mg} (T : Txt K mg) : mg "law" = some (.ref (He.ga K "law")) := g_of1 T 15
theorem cls_Reader {K mg} (T : Txt K mg) : Cls K (He.ga K "Reader") := He.cls_ok (T.sd.fact 83 (f := .cls "Reader") rfl)
theorem mkr_Reader {K mg} (T : Txt K mg) : Mk K (He.ga K "Reader") (He.ma K (He.ga K "Reader") "__init__") := He.mkr_ok (T.sd.fact 84 (f := .mkr "Reader") rfl)
theorem noat_alphabet {K mg} (T : Txt K mg) : NoAttr K (He.ga K "Reader") "alphabet" := He.noat_ok (T.sd.fact 85 (f := .noat "Reader" "alphabet") rfl)
theorem noat_names {K mg} (T : Txt K mg) : NoAttr K (He.ga K "Reader") "names" := He.noat_ok (T.sd.fact 86 (f := .noat "Reader" "names") rfl)
theorem noat_moves {K mg} (T : Txt K mg) : NoAttr K (He.ga K "Reader") "moves" := He.noat_ok (T.sd.fact 87 (f := .noat "Reader" "moves") rfl)
theorem noat_accepted {K mg} (T : Txt K mg) : NoAttr K (He.ga K "Reader") "accepted" := He.noat_ok (T.sd.fact 88 (f := .noat "Reader" "accepted") rfl)
theorem meth___call__ {K mg} (T : Txt K mg) : Meth K (He.ga K "Reader") "__call__" (He.ma K (He.ga K "Reader") "__call__") := He.meth_ok (T.sd.fact 89 (f := .meth "Reader" "__call__") rfl)
theorem meth___eq__ {K mg} (T : Txt K mg) : Meth K (He.ga K "Reader") "__eq__" (He.ma K (He.ga K "Reader") "__eq__") := He.meth_ok (T.sd.fact 90 (f := .meth "Reader" "__eq__") rfl)
theorem meth___len__ {K mg} (T : Txt K mg) : Meth K (He.ga K "Reader") "__len__" (He.ma K (He.ga K "Reader") "__len__") := He.meth_ok (T.sd.fact 91 (f := .meth "Reader" "__len__") rfl)
abbrev FnP (K : PySem.W.Frag) (x q : Str) (st : Stmt) (f : Addr) (fd : FuncData) : Prop := FunD K x q (defArgs st) (defBody st) (defScope st) [] [] f fd
theorem F_WrongThing___init__ {K mg} (T : Txt K mg) : ∃ fd, FnP K "__init__" "WrongThing.__init__" s_WrongThing___init__ (He.ma K (He.ga K "WrongThing") "__init__") fd := T.sd.def_ 0 (d := dM "WrongThing" "__init__" "WrongThing.__init__" s_WrongThing___init__) rfl
theorem F_WrongItem___init__ {K mg} (T : Txt K mg) : ∃ fd, FnP K "__init__" "WrongItem.__init__" s_WrongItem___init__ (He.ma K (He.ga K "WrongItem") "__init__") fd := T.sd.def_ 1 (d := dM "WrongItem" "__init__" "WrongItem.__init__" s_WrongItem___init__) rfl
theorem F_BadRow___init__ {K mg} (T : Txt K mg) : ∃ fd, FnP K "__init__" "BadRow.__init__" s_BadRow___init__ (He.ma K (He.ga K "BadRow") "__init__") fd := T.sd.def_ 2 (d := dM "BadRow" "__init__" "BadRow.__init__" s_BadRow___init__) rfl
theorem F_is_whole {K mg} (T : Txt K mg) : ∃ fd, FnP K "is_whole" "is_whole" s_is_whole (He.ga K "is_whole") fd := T.sd.def_ 3 (d := dD "is_whole" s_is_whole) rfl
theorem F_is_below {K mg} (T : Txt K mg) : ∃ fd, FnP K "is_below" "is_below" s_is_below (He.ga K "is_below") fd := T.sd.def_ 4 (d := dD "is_below" s_is_below) rfl
theorem F_is_listing {K mg} (T : Txt K mg) : ∃ fd, FnP K "is_listing" "is_listing" s_is_listing (He.ga K "is_listing") fd := T.sd.def_ 5 (d := dD "is_listing" s_is_listing) rfl
theorem F_is_alphabet {K mg} (T : Txt K mg) : ∃ fd, FnP K "is_alphabet" "is_alphabet" s_is_alphabet (He.ga K "is_alphabet") fd := T.sd.def_ 6 (d := dD "is_alphabet" s_is_alphabet) rfl
theorem F_check_alphabet {K mg} (T : Txt K mg) : ∃ fd, FnP K "check_alphabet" "check_alphabet" s_check_alphabet (He.ga K "check_alphabet") fd := T.sd.def_ 7 (d := dD "check_alphabet" s_check_alphabet) rfl
theorem F_is_letter {K mg} (T : Txt K mg) : ∃ fd, FnP K "is_letter" "is_letter" s_is_letter (He.ga K "is_letter") fd := T.sd.def_ 8 (d := dD "is_letter" s_is_letter) rfl
theorem F_wrong_at {K mg} (T : Txt K mg) : ∃ fd, FnP K "wrong_at" "wrong_at" s_wrong_at (He.ga K "wrong_at") fd := T.sd.def_ 9 (d := dD "wrong_at" s_wrong_at) rfl
theorem F_check_row {K mg} (T : Txt K mg) : ∃ fd, FnP K "check_row" "check_row" s_check_row (He.ga K "check_row") fd := T.sd.def_ 10 (d := dD "check_row" s_check_row) rfl
theorem F_is_move {K mg} (T : Txt K mg) : ∃ fd, FnP K "is_move" "is_move" s_is_move (He.ga K "is_move") fd := T.sd.def_ 11 (d := dD "is_move" s_is_move) rfl
theorem F_is_names {K mg} (T : Txt K mg) : ∃ fd, FnP K "is_names" "is_names" s_is_names (He.ga K "is_names") fd := T.sd.def_ 12 (d := dD "is_names" s_is_names) rfl
theorem F_flagged_letters {K mg} (T : Txt K mg) : ∃ fd, FnP K "flagged_letters" "flagged_letters" s_flagged_letters (He.ga K "flagged_letters") fd := T.sd.def_ 13 (d := dD "flagged_letters" s_flagged_letters) rfl
theorem F_flagged {K mg} (T : Txt K mg) : ∃ fd, FnP K "flagged" "flagged" s_flagged (He.ga K "flagged") fd := T.sd.def_ 14 (d := dD "flagged" s_flagged) rfl
theorem F_kept_moves {K mg} (T : Txt K mg) : ∃ fd, FnP K "kept_moves" "kept_moves" s_kept_moves (He.ga K "kept_moves") fd := T.sd.def_ 15 (d := dD "kept_moves" s_kept_moves) rfl
theorem F_kept_accepted {K mg} (T : Txt K mg) : ∃ fd, FnP K "kept_accepted" "kept_accepted" s_kept_accepted (He.ga K "kept_accepted") fd := T.sd.def_ 16 (d := dD "kept_accepted" s_kept_accepted) rfl
theorem F_check_places {K mg} (T : Txt K mg) : ∃ fd, FnP K "check_places" "check_places" s_check_places (He.ga K "check_places") fd := T.sd.def_ 17 (d := dD "check_places" s_check_places) rfl
theorem F_Reader___init__ {K mg} (T : Txt K mg) : ∃ fd, FnP K "__init__" "Reader.__init__" s_Reader___init__ (He.ma K (He.ga K "Reader") "__init__") fd := T.sd.def_ 18 (d := dM "Reader" "__init__" "Reader.__init__" s_Reader___init__) rfl
theorem F_Reader___call__ {K mg} (T : Txt K mg) : ∃ fd, FunD K "__call__" "Reader.__call__" (defArgs s_Reader___call__) (defBody s_Reader___call__) (defScope s_Reader___call__) [.ref (noPl K)] [] (He.ma K (He.ga K "Reader") "__call__") fd := T.sd.def_ 19 (d := ⟨("Reader", some "__call__"), "__call__", "Reader.__call__", defArgs s_Reader___call__, defBody s_Reader___call__, defScope s_Reader___call__, [.adr noPl], []⟩) rfl
theorem F_Reader___eq__ {K mg} (T : Txt K mg) : ∃ fd, FnP K "__eq__" "Reader.__eq__" s_Reader___eq__ (He.ma K (He.ga K "Reader") "__eq__") fd := T.sd.def_ 20 (d := dM "Reader" "__eq__" "Reader.__eq__" s_Reader___eq__) rfl
theorem F_Reader___len__ {K mg} (T : Txt K mg) : ∃ fd, FnP K "__len__" "Reader.__len__" s_Reader___len__ (He.ma K (He.ga K "Reader") "__len__") fd := T.sd.def_ 21 (d := dM "Reader" "__len__" "Reader.__len__" s_Reader___len__) rfl
theorem F__law_source {K mg} (T : Txt K mg) : ∃ fd, FnP K "_law_source" "_law_source" s__law_source (He.ga K "_law_source") fd := T.sd.def_ 22 (d := dD "_law_source" s__law_source) rfl
theorem F__law_pick {K mg} (T : Txt K mg) : ∃ fd, FnP K "_law_pick" "_law_pick" s__law_pick (He.ga K "_law_pick") fd := T.sd.def_ 23 (d := dD "_law_pick" s__law_pick) rfl
theorem F__law_alphabet {K mg} (T : Txt K mg) : ∃ fd, FnP K "_law_alphabet" "_law_alphabet" s__law_alphabet (He.ga K "_law_alphabet") fd := T.sd.def_ 24 (d := dD "_law_alphabet" s__law_alphabet) rfl
theorem F__law_word {K mg} (T : Txt K mg) : ∃ fd, FnP K "_law_word" "_law_word" s__law_word (He.ga K "_law_word") fd := T.sd.def_ 25 (d := dD "_law_word" s__law_word) rfl
theorem F__law_rows {K mg} (T : Txt K mg) : ∃ fd, FnP K "_law_rows" "_law_rows" s__law_rows (He.ga K "_law_rows") fd := T.sd.def_ 26 (d := dD "_law_rows" s__law_rows) rfl
theorem F__law_is_number {K mg} (T : Txt K mg) : ∃ fd, FnP K "_law_is_number" "_law_is_number" s__law_is_number (He.ga K "_law_is_number") fd := T.sd.def_ 27 (d := dD "_law_is_number" s__law_is_number) rfl
theorem F__law_width {K mg} (T : Txt K mg) : ∃ fd, FnP K "_law_width" "_law_width" s__law_width (He.ga K "_law_width") fd := T.sd.def_ 28 (d := dD "_law_width" s__law_width) rfl
theorem F__law_world {K mg} (T : Txt K mg) : ∃ fd, FnP K "_law_world" "_law_world" s__law_world (He.ga K "_law_world") fd := T.sd.def_ 29 (d := dD "_law_world" s__law_world) rfl
theorem F__law_reads {K mg} (T : Txt K mg) : ∃ fd, FnP K "_law_reads" "_law_reads" s__law_reads (He.ga K "_law_reads") fd := T.sd.def_ 30 (d := dD "_law_reads" s__law_reads) rfl
theorem F__law_all_places {K mg} (T : Txt K mg) : ∃ fd, FnP K "_law_all_places" "_law_all_places" s__law_all_places (He.ga K "_law_all_places") fd := T.sd.def_ 31 (d := dD "_law_all_places" s__law_all_places) rfl
theorem F__law_is_truth {K mg} (T : Txt K mg) : ∃ fd, FnP K "_law_is_truth" "_law_is_truth" s__law_is_truth (He.ga K "_law_is_truth") fd := T.sd.def_ 32 (d := dD "_law_is_truth" s__law_is_truth) rfl
theorem F__law_answers {K mg} (T : Txt K mg) : ∃ fd, FnP K "_law_answers" "_law_answers" s__law_answers (He.ga K "_law_answers") fd := T.sd.def_ 33 (d := dD "_law_answers" s__law_answers) rfl
theorem F__law_tuples {K mg} (T : Txt K mg) : ∃ fd, FnP K "_law_tuples" "_law_tuples" s__law_tuples (He.ga K "_law_tuples") fd := T.sd.def_ 34 (d := dD "_law_tuples" s__law_tuples) rfl
theorem F__law_has {K mg} (T : Txt K mg) : ∃ fd, FnP K "_law_has" "_law_has" s__law_has (He.ga K "_law_has") fd := T.sd.def_ 35 (d := dD "_law_has" s__law_has) rfl
theorem F__law_other_world {K mg} (T : Txt K mg) : ∃ fd, FnP K "_law_other_world" "_law_other_world" s__law_other_world (He.ga K "_law_other_world") fd := T.sd.def_ 36 (d := dD "_law_other_world" s__law_other_world) rfl
theorem F__law_kinds {K mg} (T : Txt K mg) : ∃ fd, FnP K "_law_kinds" "_law_kinds" s__law_kinds (He.ga K "_law_kinds") fd := T.sd.def_ 37 (d := dD "_law_kinds" s__law_kinds) rfl
theorem F__law_made {K mg} (T : Txt K mg) : ∃ fd, FnP K "_law_made" "_law_made" s__law_made (He.ga K "_law_made") fd := T.sd.def_ 38 (d := dD "_law_made" s__law_made) rfl
theorem F__law_alphabet_good {K mg} (T : Txt K mg) : ∃ fd, FnP K "_law_alphabet_good" "_law_alphabet_good" s__law_alphabet_good (He.ga K "_law_alphabet_good") fd := T.sd.def_ 39 (d := dD "_law_alphabet_good" s__law_alphabet_good) rfl
theorem F__law_names_good {K mg} (T : Txt K mg) : ∃ fd, FnP K "_law_names_good" "_law_names_good" s__law_names_good (He.ga K "_law_names_good") fd := T.sd.def_ 40 (d := dD "_law_names_good" s__law_names_good) rfl
theorem F__law_listed {K mg} (T : Txt K mg) : ∃ fd, FnP K "_law_listed" "_law_listed" s__law_listed (He.ga K "_law_listed") fd := T.sd.def_ 41 (d := dD "_law_listed" s__law_listed) rfl
theorem F__law_wrong_move {K mg} (T : Txt K mg) : ∃ fd, FnP K "_law_wrong_move" "_law_wrong_move" s__law_wrong_move (He.ga K "_law_wrong_move") fd := T.sd.def_ 42 (d := dD "_law_wrong_move" s__law_wrong_move) rfl
theorem F__law_wrong_accepted {K mg} (T : Txt K mg) : ∃ fd, FnP K "_law_wrong_accepted" "_law_wrong_accepted" s__law_wrong_accepted (He.ga K "_law_wrong_accepted") fd := T.sd.def_ 43 (d := dD "_law_wrong_accepted" s__law_wrong_accepted) rfl
theorem F__law_due {K mg} (T : Txt K mg) : ∃ fd, FnP K "_law_due" "_law_due" s__law_due (He.ga K "_law_due") fd := T.sd.def_ 44 (d := dD "_law_due" s__law_due) rfl
theorem F__law_spoilt_moves {K mg} (T : Txt K mg) : ∃ fd, FnP K "_law_spoilt_moves" "_law_spoilt_moves" s__law_spoilt_moves (He.ga K "_law_spoilt_moves") fd := T.sd.def_ 45 (d := dD "_law_spoilt_moves" s__law_spoilt_moves) rfl
theorem F__law_spoilt_accepted {K mg} (T : Txt K mg) : ∃ fd, FnP K "_law_spoilt_accepted" "_law_spoilt_accepted" s__law_spoilt_accepted (He.ga K "_law_spoilt_accepted") fd := T.sd.def_ 46 (d := dD "_law_spoilt_accepted" s__law_spoilt_accepted) rfl
theorem F__law_refused {K mg} (T : Txt K mg) : ∃ fd, FnP K "_law_refused" "_law_refused" s__law_refused (He.ga K "_law_refused") fd := T.sd.def_ 47 (d := dD "_law_refused" s__law_refused) rfl
theorem F__law_called {K mg} (T : Txt K mg) : ∃ fd, FnP K "_law_called" "_law_called" s__law_called (He.ga K "_law_called") fd := T.sd.def_ 48 (d := dD "_law_called" s__law_called) rfl
theorem F__law_call_due {K mg} (T : Txt K mg) : ∃ fd, FnP K "_law_call_due" "_law_call_due" s__law_call_due (He.ga K "_law_call_due") fd := T.sd.def_ 49 (d := dD "_law_call_due" s__law_call_due) rfl
theorem F__law_call_refused {K mg} (T : Txt K mg) : ∃ fd, FnP K "_law_call_refused" "_law_call_refused" s__law_call_refused (He.ga K "_law_call_refused") fd := T.sd.def_ 50 (d := dD "_law_call_refused" s__law_call_refused) rfl
theorem F__law_bare {K mg} (T : Txt K mg) : ∃ fd, FnP K "_law_bare" "_law_bare" s__law_bare (He.ga K "_law_bare") fd := T.sd.def_ 51 (d := dD "_law_bare" s__law_bare) rfl
theorem F_law {K mg} (T : Txt K mg) : ∃ fd, FnP K "law" "law" s_law (He.ga K "law") fd := T.sd.def_ 52 (d := dD "law" s_law) rfl
theorem F_BadAlphabet___init__ {K mg} (T : Txt K mg) : ∃ fd, FnP K "__init__" "WrongThing.__init__" s_WrongThing___init__ (He.ma K (He.ga K "BadAlphabet") "__init__") fd := T.sd.def_ 53 (d := dM "BadAlphabet" "__init__" "WrongThing.__init__" s_WrongThing___init__) rfl
theorem F_BadNames___init__ {K mg} (T : Txt K mg) : ∃ fd, FnP K "__init__" "WrongThing.__init__" s_WrongThing___init__ (He.ma K (He.ga K "BadNames") "__init__") fd := T.sd.def_ 54 (d := dM "BadNames" "__init__" "WrongThing.__init__" s_WrongThing___init__) rfl
theorem F_BadPlaces___init__ {K mg} (T : Txt K mg) : ∃ fd, FnP K "__init__" "WrongThing.__init__" s_WrongThing___init__ (He.ma K (He.ga K "BadPlaces") "__init__") fd := T.sd.def_ 55 (d := dM "BadPlaces" "__init__" "WrongThing.__init__" s_WrongThing___init__) rfl
theorem F_BadMove___init__ {K mg} (T : Txt K mg) : ∃ fd, FnP K "__init__" "WrongItem.__init__" s_WrongItem___init__ (He.ma K (He.ga K "BadMove") "__init__") fd := T.sd.def_ 56 (d := dM "BadMove" "__init__" "WrongItem.__init__" s_WrongItem___init__) rfl
theorem F_BadAccepted___init__ {K mg} (T : Txt K mg) : ∃ fd, FnP K "__init__" "WrongItem.__init__" s_WrongItem___init__ (He.ma K (He.ga K "BadAccepted") "__init__") fd := T.sd.def_ 57 (d := dM "BadAccepted" "__init__" "WrongItem.__init__" s_WrongItem___init__) rfl
end Kx
set_option Elab.async false
set_option linter.all false
set_option maxRecDepth 100000
set_option maxHeartbeats 1000000
namespace Kx
open PySem PySem.Spec PyProof.Rows L2
/-- a def that stands under the module's name x, with its promise -/
structure Cal (P : Program) (w : World) (K : PySem.W.Frag) (mg : Str → Option Value) (base : Heap) (CX : CXT) (k : Nat) (x : Str) (ps : List Str) (sp : Sp) : Prop where
  ok : ∃ fd, FnOk P w K mg base CX k (He.ga K x) fd ps sp ∧ Binds K fd ps []
  g : mg x = some (.ref (He.ga K x))
  kp : PySem.W.keepIn K (.ref (He.ga K x)) = true
section
variable {P : Program} {w : World} {K : PySem.W.Frag} {mg : Str → Option Value} {base : Heap}
theorem cal_mk {x q : Str} {st : Stmt} {fd : FuncData} {N ps : List Str} {k : Nat} {sp : Sp} {CX : CXT} (F : FnP K x q st (He.ga K x) fd) (g : mg x = some (.ref (He.ga K x))) (S : FnScope N ps (defScope st))
    (hb : ∀ (kV doc pm : Value) (an : Option Addr) (cdv ct : Value) (us : List Value), us.length = ps.length → bindArgs (PySem.W.fnOf x q (defArgs st) (defBody st) (defScope st) .none kV doc pm an cdv ct) ⟨us, []⟩ = pure (ps.zip us))
    (len : ∀ vs H Q E, sp vs H Q E → vs.length = ps.length)
    (hbody : ∀ (cdv : Value) (A : Around) (outer : List Env) (s : Shared) (H : Hp) (vs : List V) (Q : VK) (E : XK), Room k (A.deeper (envOfC q (defScope st) s.heap.objs.size (He.ga K x) cdv)) → sp vs H Q E →
      ∃ t, PSs (cxOf CX P w K mg base N q (defScope st) (He.ga K x) cdv A outer s H E) (defBody st) t ∧ t { nx := fun _ H' => Q .non H', rt := Q } (start N vs) H) : Cal P w K mg base CX (k + 1) x ps sp :=
  ⟨⟨fd, F.ok S len hbody, F.bindsN hb⟩, g, F.kp⟩
end
section
variable {X : Cx} {CX : CXT} {k : Nat} {x : Str} {ps : List Str} {sp : Sp} {E : XK} {e : Expr} {es : List Expr} {t : TA} {p pos : Pos}
/-- f(e, ..) -/
theorem pe_cal (F : Cal X.prog X.w X.K X.mg X.base CX k x ps sp) (hr : Room k X.A) (hx : Passes CX X E) (ha : PA X (e :: es) t) (hg : Gl X x := by rfl) (hdb : (x == ("__debug__" : Str)) = false := by decide)
    (he : starEach (e :: es) X.env = (false, eval e X.env) :: starEach es X.env := by rfl) (hpl : (backTo pos (starEach es X.env)).any (·.1) = false := by rfl) :
    PE X (.Call (.Name x p) (e :: es) [] pos) (tCall sp [] E t) := by
  obtain ⟨fd, h1, h2⟩ := F.ok
  exact pe_call h1 hr hg F.g F.kp h2 .nil hx ha hdb he hpl
end
/-! ### isinstance with a built-in class -/
/-- isinstance(e, T), T a built-in class -/
def tIs (K : PySem.W.Frag) (T : String) (t : TE) : TE := fun σ H Q => t σ H fun x H1 => ∃ a : String, TyX K H1 x (.type a) ∧ ∃ b, kitB a T = some b ∧ Q (.bl b) H1
end Kx
set_option Elab.async false
set_option linter.all false
set_option maxRecDepth 100000
set_option maxHeartbeats 1000000
namespace Kx
open PySem PySem.Spec PyProof.Rows L2
/-- kinds of things that are passed -/
inductive Kd where
  | non | bl | int | str | lst | tup | dct
  deriving DecidableEq
def Kd.nm : Kd → String
  | .non => "NoneType" | .bl => "bool" | .int => "int" | .str => "str" | .lst => "list" | .tup => "tuple" | .dct => "dict"
/-- the value is of the kind -/
def Ko (K : PySem.W.Frag) (H : Hp) (v : V) (k : Kd) : Prop := TyX K H v (.type k.nm)
def Kd.is : Kd → String → Bool
  | .bl, "int" => true
  | k, s => k.nm == s
section
variable {X : Cx}
theorem PE.imp {e : Expr} {t t' : TE} (h : PE X e t) (i : ∀ σ H Q, t' σ H Q → t σ H Q) : PE X e t' := ⟨fun pins s σ H Q I q => h.run pins s σ H Q I (i σ H Q q)⟩
theorem pe_ty {T : String} {u : Str} {p : Pos} (hT : X.mg u = none) (hv : bootBuiltins u = some (.type T)) (hgT : Gl X u := by rfl)
    (hn : u ≠ "__name__" := by decide) (hd : (u == ("__debug__" : Str)) = false := by decide) : PE X (.Name u p) (tC (.ty T)) := pe_bltn (v := .ty T) hgT hT hv rfl hn hd
theorem CallR.imp {f : Value} {r r' : List V → Hp → VK → Prop} (h : CallR X f r) (i : ∀ xs H Q, r' xs H Q → r xs H Q) : CallR X f r' := fun pins s σ H vs us Q I rv q => h pins s σ H vs us Q I rv (i _ _ _ q)
end
theorem k_int : ∀ a : Kd, kitB a.nm "int" = some (a.is "int") := by intro a; cases a <;> decide +kernel
theorem k_bool : ∀ a : Kd, kitB a.nm "bool" = some (a.is "bool") := by intro a; cases a <;> decide +kernel
theorem k_str : ∀ a : Kd, kitB a.nm "str" = some (a.is "str") := by intro a; cases a <;> decide +kernel
theorem k_tuple : ∀ a : Kd, kitB a.nm "tuple" = some (a.is "tuple") := by intro a; cases a <;> decide +kernel
theorem k_list : ∀ a : Kd, kitB a.nm "list" = some (a.is "list") := by intro a; cases a <;> decide +kernel

/-- isinstance(x, T), T one of these built-in classes -/
def rIsB (K : PySem.W.Frag) : List V → Hp → VK → Prop := fun xs H Q => ∃ (x : V) (T : String) (a : Kd), xs = [x, .ty T] ∧ Ko K H x a ∧ kitB a.nm T = some (a.is T) ∧ Q (.bl (a.is T)) H
theorem call_isB {X : Cx} : CallR X (.builtin "isinstance") (rIsB X.K) := CallR.imp call_isi fun xs H Q ⟨x, T, a, e, ko, kb, q⟩ => ⟨x, .ty T, _, _, _, e, .ty T, ko, kit_ty kb, q⟩
theorem Ko.same {K : PySem.W.Frag} {H H' : Hp} {v : V} {a : Kd} (s : Same H H') (h : Ko K H v a) : Ko K H' v a := by
  have h' : TyX K H v (.type a.nm) := h
  show TyX K H' v (.type a.nm)
  generalize Value.type a.nm = z at h' ⊢
  cases h' with
  | base b =>
    refine .base ?_
    cases b with
    | non => exact .non
    | bl x => exact .bl x
    | int i => exact .int i
    | str x => exact .str x
    | flt x => exact .flt x
    | lst e => exact .lst (s _ _ e)
    | frz e => exact .frz (s _ _ e)
    | tup e => exact .tup (s _ _ e)
    | dK e => exact .dK (s _ _ e)
    | dT e => exact .dT (s _ _ e)
    | ins e cl ha hn htk hm => exact .ins (s _ _ e) cl ha hn htk hm
  | byt b => exact .byt b
  | set e => exact .set (s _ _ e)
  | kList e c => exact .kList e c
  | kTuple e c => exact .kTuple e c
  | kDict e c => exact .kDict e c
  | fTuple e => exact .fTuple (s _ _ e)
  | fDict e => exact .fDict (s _ _ e)
section
variable {P : Program} {w : World} {K : PySem.W.Frag} {mg : Str → Option Value} {base : Heap}
theorem b_isinstance : bootBuiltins "isinstance" = some (.builtin "isinstance") := by decide +kernel
theorem b_int : bootBuiltins "int" = some (.type "int") := by decide +kernel
theorem b_bool : bootBuiltins "bool" = some (.type "bool") := by decide +kernel
theorem b_str : bootBuiltins "str" = some (.type "str") := by decide +kernel
theorem b_tuple : bootBuiltins "tuple" = some (.type "tuple") := by decide +kernel
theorem b_list : bootBuiltins "list" = some (.type "list") := by decide +kernel
/-! ### is_whole -/
def sp_is_whole (K : PySem.W.Frag) : Sp := fun vs H Q _ => ∃ (v : V) (a : Kd), vs = [v] ∧ Ko K H v a ∧ Q (.bl (a == .int)) H
theorem ok_is_whole (T : Txt K mg) : Cal P w K mg base CX0 1 "is_whole" ["thing"] (sp_is_whole K) := by
  obtain ⟨fd, F⟩ := F_is_whole T
  refine cal_mk F (g_is_whole T) sc_is_whole (fun _ _ _ _ _ _ us hl => match us, hl with | [_], _ => rfl) (fun vs H Q E h => ?_) (fun cdv A outer s H vs Q E hr h => ?_)
  · obtain ⟨v, a, rfl, _⟩ := h; rfl
  · refine ⟨_, PSs.nox (pss_one (ps_ret (pe_and (pe_callB call_isB (by rfl) (fr_isinstance T) b_isinstance (pa_cons (pv 0) (pa_cons (pe_ty (fr_int T) b_int) pa_nil)))
      (pe_one (pe_not (pe_callB call_isB (by rfl) (fr_isinstance T) b_isinstance (pa_cons (pv 0) (pa_cons (pe_ty (fr_bool T) b_bool) pa_nil)))))))), ?_⟩
    obtain ⟨v, a, rfl, ko, q⟩ := h
    refine ⟨v, rfl, v, "int", a, rfl, ko, k_int a, _, rfl, ?_⟩
    cases hb : a.is "int" with
    | false =>
      refine iteF ?_
      have : (a == Kd.int) = false := by cases a <;> first | rfl | (exact Bool.noConfusion hb)
      rw [this] at q; exact q
    | true =>
      refine iteT ?_
      refine ⟨v, rfl, v, "bool", a, rfl, ko, k_bool a, _, rfl, ?_⟩
      have : (a == Kd.int) = (!a.is "bool") := by cases a <;> first | rfl | (exact Bool.noConfusion hb)
      rw [this] at q; exact q
/-! ### is_below -/
/-- the int of a value, if it is one -/
def below (v : V) (m : Int) : Bool := match v with
  | .int i => decide (0 ≤ i) && decide (i < m)
  | _ => false
theorem ko_int {K : PySem.W.Frag} {H : Hp} {v : V} (h : Ko K H v .int) : ∃ i, v = .int i := by
  have h' : TyX K H v (.type "int") := h
  generalize hx : Value.type "int" = z at h'
  cases h' with
  | base b => cases b <;> first | exact ⟨_, rfl⟩ | (exfalso; simp at hx)
  | _ => exfalso; simp at hx
theorem ko_notint {K : PySem.W.Frag} {H : Hp} {i : Int} {a : Kd} (h : Ko K H (.int i) a) : a = .int := by
  have h' : TyX K H (.int i) (.type a.nm) := h
  generalize hx : Value.type a.nm = z at h'
  cases h' with
  | base b => cases b; cases a <;> first | rfl | (exfalso; simp [Kd.nm] at hx)
def sp_is_below (K : PySem.W.Frag) : Sp := fun vs H Q _ => ∃ (v : V) (m : Int) (a : Kd), vs = [v, .int m] ∧ Ko K H v a ∧ Q (.bl (below v m)) H
theorem ok_is_below (T : Txt K mg) : Cal P w K mg base CX0 2 "is_below" ["thing", "many"] (sp_is_below K) := by
  obtain ⟨fd, F⟩ := F_is_below T
  refine cal_mk F (g_is_below T) sc_is_below (fun _ _ _ _ _ _ us hl => match us, hl with | [_, _], _ => rfl) (fun vs H Q E h => ?_) (fun cdv A outer s H vs Q E hr h => ?_)
  · obtain ⟨v, m, a, rfl, _⟩ := h; rfl
  · refine ⟨_, PSs.nox (pss_one (ps_ret (pe_and (pe_cal (ok_is_whole T) hr pass0 (pa_cons (pv 0) pa_nil))
      (pe_one (pe_chain op_le op_lt pe_int (pv 0) (pv 1)))))), ?_⟩
    obtain ⟨v, m, a, rfl, ko, q⟩ := h
    refine ⟨v, rfl, v, a, rfl, ko, _, rfl, ?_⟩
    cases hb : (a == Kd.int) with
    | false =>
      refine iteF ?_
      have : below v m = false := by
        cases v <;> first | rfl | (have := ko_notint ko; subst this; exact Bool.noConfusion hb)
      rw [this] at q; exact q
    | true =>
      refine iteT ?_
      have ha : a = .int := by cases a <;> first | rfl | (exact Bool.noConfusion hb)
      subst ha
      obtain ⟨i, rfl⟩ := ko_int ko
      refine ⟨.int i, rfl, 0, i, rfl, rfl, _, rfl, ?_⟩
      have e : below (.int i) m = (decide (0 ≤ i) && decide (i < m)) := rfl
      rw [e] at q
      cases hc : decide ((0 : Int) ≤ i) with
      | false =>
        rw [hc] at q
        exact iteF q
      | true =>
        rw [hc] at q
        refine iteT ⟨.int m, rfl, i, m, rfl, rfl, ?_⟩
        exact q
/-! ### is_listing -/
def sp_is_listing (K : PySem.W.Frag) : Sp := fun vs H Q _ => ∃ (v : V) (a : Kd), vs = [v] ∧ Ko K H v a ∧ ∀ H', Same H H' → Q (.bl (a == .lst || a == .tup)) H'
/-- isinstance(x, (T1, T2)): the tuple laid in the call, of built-in classes -/
def rIsT (K : PySem.W.Frag) : List V → Hp → VK → Prop := fun xs H Q => ∃ (x : V) (tp : Addr) (Ts : List String) (a : Kd), xs = [x, .ref tp] ∧ H tp = some (.tup (Ts.map V.ty)) ∧ Ko K H x a ∧ (∀ t ∈ Ts, kitB a.nm t = some (a.is t)) ∧ Q (.bl (Ts.any a.is)) H
theorem kitAny_ts {K : PySem.W.Frag} {a : Kd} : ∀ {Ts : List String}, (∀ t ∈ Ts, kitB a.nm t = some (a.is t)) → PySem.W.kitAny K (.type a.nm) (Ts.map Value.type) = some (Ts.any a.is)
  | [], _ => rfl
  | t :: Ts, h => by
    refine kitAny_cons (kit_ty (h t (List.mem_cons_self ..))) (fun e => ?_) (fun e => ?_)
    · rw [List.any_cons, e, Bool.false_or]
      exact kitAny_ts fun z hz => h z (List.mem_cons_of_mem _ hz)
    · rw [List.any_cons, e, Bool.true_or]
theorem paired_ts : ∀ {Ts : List String}, Paired ClsV (Ts.map V.ty) (Ts.map Value.type)
  | [] => .nil
  | t :: Ts => .cons (.ty t) paired_ts
theorem call_isT {X : Cx} : CallR X (.builtin "isinstance") (rIsT X.K) := CallR.imp call_isiT fun xs H Q ⟨x, tp, Ts, a, e, ht, ko, kb, q⟩ =>
  ⟨x, tp, _, _, _, _, e, ht, paired_ts, ko, kitAny_ts kb, q⟩
theorem ok_is_listing (T : Txt K mg) : Cal P w K mg base CX0 1 "is_listing" ["thing"] (sp_is_listing K) := by
  obtain ⟨fd, F⟩ := F_is_listing T
  refine cal_mk F (g_is_listing T) sc_is_listing (fun _ _ _ _ _ _ us hl => match us, hl with | [_], _ => rfl) (fun vs H Q E h => ?_) (fun cdv A outer s H vs Q E hr h => ?_)
  · obtain ⟨v, a, rfl, _⟩ := h; rfl
  · refine ⟨_, PSs.nox (pss_one (ps_ret (pe_callB call_isT (by rfl) (fr_isinstance T) b_isinstance (pa_cons (pv 0) (pa_cons (pe_tup (pa_cons (pe_ty (fr_tuple T) b_tuple) (pa_cons (pe_ty (fr_list T) b_list) pa_nil))) pa_nil))))), ?_⟩
    obtain ⟨v, a, rfl, ko, q⟩ := h
    refine ⟨v, rfl, (by show 2 ≤ sizeLine; decide), fun t ht => ⟨v, t, ["tuple", "list"], a, rfl, upd_same, ?_, ?_, ?_⟩⟩
    · exact Ko.same (fun b o hb => by rw [upd_ne (ne_of_none hb ht)]; exact hb) ko
    · intro t ht
      rcases List.mem_cons.mp ht with rfl | ht
      · exact k_tuple a
      · rcases List.mem_cons.mp ht with rfl | ht
        · exact k_list a
        · cases ht
    · have e : (["tuple", "list"].any a.is) = (a == .lst || a == .tup) := by cases a <;> rfl
      rw [e]
      exact q _ fun b o hb => by rw [upd_ne (ne_of_none hb ht)]; exact hb
end
end Kx
set_option Elab.async false
set_option linter.all false
set_option maxRecDepth 100000
set_option maxHeartbeats 1000000
namespace Kx
open PySem PySem.Spec PyProof.Rows L2
/-! ### walks over lists or tuples -/
/-- at a: a list or a tuple of xs -/
def SqS (K : PySem.W.Frag) (H : Hp) (a : Addr) (xs : List V) : Prop := SqL K H a xs ∨ SqT K H a xs
theorem sqS_same {K : PySem.W.Frag} {H H' : Hp} {a : Addr} {xs : List V} (s : Same H H') (h : SqS K H a xs) : SqS K H' a xs := by
  rcases h with h | h
  · exact .inl (s.seq h)
  · right
    rcases h with (h | ⟨o, h⟩) | h
    · exact .inl (.inl (s _ _ h))
    · exact .inl (.inr ⟨o, s _ _ h⟩)
    · exact .inr h
/-- a walk: whatever the iterator, it goes n turns while G holds, giving what Y says -/
def iW (te : TE) (n : V → Hp → Nat) (G : V → Hp → Hp → Prop) (Y : V → Hp → Nat → Hp → V → Hp → Prop) (ok : V → Hp → Prop) : TI := fun σ H R => te σ H fun x H1 => ok x H1 ∧ ∀ J, Walk J (n x H1) (G x H1) (Y x H1) → R J H1
/-- over a list or a tuple -/
def iSeq (K : PySem.W.Frag) (te : TE) : TI := fun σ H R => te σ H fun x H1 => ∃ a xs, x = .ref a ∧ ((SqL K H1 a xs ∧ ∀ J, Walk J xs.length (fun H => SqL K H a xs) (YAt xs) → R J H1) ∨ (SqT K H1 a xs ∧ ∀ J, Walk J xs.length (fun H => SqT K H a xs) (YAt xs) → R J H1))
section
variable {X : Cx} {tg : Expr}
theorem pi_seq {l : Expr} {tl : TE} (hl : PE X l tl) : PI X tg l (iSeq X.K tl) := by
  refine ⟨fun pins s σ H R I h => ?_⟩
  refine thn (hl.run pins s σ H _ I h) fun v s1 ⟨x, H1, I1, r1, a, xs, e, q⟩ => ?_
  subst e
  cases r1
  rcases q with ⟨hq, q⟩ | ⟨hq, q⟩
  · obtain ⟨its, rv, p, hz⟩ := I1.list hq
    refine wpAny_pyIter_list p.isList ?_
    refine ⟨s1.heap.objs.size, [s1.heap.objs.size], _, _, H1, rfl, I1.kept (t' := s1.toks) fun b o e => Heap.get?_push_of_some _ e, turn_list a _, ⟨_, Heap.get?_push_size _ rfl, rfl, rfl⟩, fun b hb => ?_, q _ walk_list⟩
    have e : b = s1.heap.objs.size := by simpa using hb
    subst e
    exact I1.fpOk (Nat.le_refl _) (I1.hok.fresh (Nat.le_refl _))
  · obtain ⟨its, rv, p, hz⟩ := I1.tuple hq
    refine wpAny_pyIter_tuple (show s1.heap.IsTuple a its.toArray from p) ?_
    refine ⟨s1.heap.objs.size, [s1.heap.objs.size], _, _, H1, rfl, I1.kept (t' := s1.toks) fun b o e => Heap.get?_push_of_some _ e, turn_tuple a _, ⟨_, Heap.get?_push_size _ rfl, rfl, rfl⟩, fun b hb => ?_, q _ walk_tup⟩
    have e : b = s1.heap.objs.size := by simpa using hb
    subst e
    exact I1.fpOk (Nat.le_refl _) (I1.hok.fresh (Nat.le_refl _))
end
end Kx
set_option Elab.async false
set_option linter.all false
set_option maxRecDepth 100000
set_option maxHeartbeats 1000000
namespace Kx
open PySem PySem.Spec PyProof.Rows L2
/-! ### what an iterator draws, by what stands in the heap of values -/
/-- at `it` an iterator that draws n things while G holds; the i-th is told by E; own: the iterator's own record -/
structure SrcI (P : Program) (w : World) (K : PySem.W.Frag) (it : Addr) (n : Nat) (G : Hp → Prop) (E : Nat → V → Prop) (own : Nat → Heap → Prop) (kf : List Addr) : Prop where
  obj : ∀ i h, own i h → ∃ o, h.get? it = some o ∧ ∀ v, o.data ≠ .cell v
  keep : ∀ i h h', own i h → (∀ o, h.get? it = some o → h'.get? it = some o) → own i h'
  dr : ∀ (X : Cx), X.prog = P → X.w = w → X.K = K → X.calm = true → ∀ (pins : List (Addr × Obj)) (s : Shared) (σ : L2.St) (H : Hp), Inv X pins σ H s → G H → H it = none →
    ∃ (fs : List Addr) (Pv : Nat → Value → Prop) (Sd : Nat → Heap → Prop), Draws P w X.A.in1 it (it :: fs) n Pv Sd ∧ (∀ b ∈ fs, (∃ o, H b = some o) ∨ b ∈ kf) ∧ (∀ i, own i s.heap → Sd i s.heap) ∧ (∀ i h, Sd i h → own i h) ∧ (∀ i u, Pv i u → ∃ v, RelV v u ∧ E i v)
/-- what a thing that is walked is: a tracked list, a tracked tuple, a text -/
inductive Src (K : PySem.W.Frag) : V → Nat → (Hp → Prop) → (Nat → V → Prop) → Prop
  | lst (a : Addr) (xs : List V) : Src K (.ref a) xs.length (fun H => H a = some (.lst xs)) (fun i v => xs[i]? = some v)
  | tup (a : Addr) (xs : List V) : Src K (.ref a) xs.length (fun H => H a = some (.tup xs)) (fun i v => xs[i]? = some v)
  | txt (z : Str) : Src K (.str z) z.cps.size (fun _ => True) (fun i v => ∃ c, z.cps[i]? = some c ∧ v = .str ⟨#[c]⟩)
  | ktp (a : Addr) (xs : List V) (h : ∃ (o : Obj) (its : Array Value) (n : Nat), K.lookup a = some o ∧ o.cls = .type "tuple" ∧ o.data = .seq its n ∧ its.size ≤ sizeLine ∧ Vals xs its.toList) : Src K (.ref a) xs.length (fun _ => True) (fun i v => xs[i]? = some v)
section
variable {P : Program} {w : World} {K : PySem.W.Frag} {it : Addr}
theorem handled_in1 {A : Around} (h : A.handled = none) : A.in1.handled = none := h
theorem srcI_list (a : Addr) (xs : List V) : SrcI P w K it xs.length (fun H => H a = some (.lst xs)) (fun i v => xs[i]? = some v) (fun i h => h.IsListIter it a i) [] where
  obj := fun i h ⟨o, ho, hc, hd⟩ => ⟨o, ho, fun v q => by rw [hd] at q; cases q⟩
  keep := fun i h h' st k => st.at k
  dr := by
    intro X hP hw hK hc pins s σ H I hg hn
    subst hP hw hK
    have hq : SqL X.K H a xs := SqL.of hg
    obtain ⟨its, rv, p, hz⟩ := I.list hq
    have hne : a ≠ it := fun z => by rw [z, hn] at hg; cases hg
    have el : its.toArray.size = xs.length := by simp [rv.length]
    refine ⟨[a], _, _, el ▸ Draws.list (handled_in1 (I.ok.hd hc)) it a hne its.toArray, fun b hb => ?_, fun i st => ⟨st, p.isList⟩, fun i h st => st.1, fun i u hu => ?_⟩
    · rw [List.mem_singleton.mp hb]; exact .inl ⟨_, hg⟩
    · have hu' : its[i]? = some u := by simpa using hu
      have hl : i < its.length := (List.getElem?_eq_some_iff.mp hu').1
      have hl2 : i < xs.length := by rw [rv.length]; exact hl
      obtain ⟨u', e1, e2⟩ := rv.get (i := i) (List.getElem?_eq_getElem hl2)
      rw [hu'] at e1
      cases e1
      exact ⟨xs[i], e2, List.getElem?_eq_getElem hl2⟩
theorem srcI_tup (a : Addr) (xs : List V) : SrcI P w K it xs.length (fun H => H a = some (.tup xs)) (fun i v => xs[i]? = some v) (fun i h => h.IsTupleIter it a i) [] where
  obj := fun i h ⟨o, ho, hc, hd⟩ => ⟨o, ho, fun v q => by rw [hd] at q; cases q⟩
  keep := fun i h h' st k => st.at k
  dr := by
    intro X hP hw hK hc pins s σ H I hg hn
    subst hP hw hK
    have hq : SqT X.K H a xs := SqT.of hg
    obtain ⟨its, rv, p, hz⟩ := I.tuple hq
    have hne : a ≠ it := fun z => by rw [z, hn] at hg; cases hg
    have el : its.toArray.size = xs.length := by simp [rv.length]
    refine ⟨[a], _, _, el ▸ Draws.tuple (handled_in1 (I.ok.hd hc)) it a hne its.toArray, fun b hb => ?_, fun i st => ⟨st, p⟩, fun i h st => st.1, fun i u hu => ?_⟩
    · rw [List.mem_singleton.mp hb]; exact .inl ⟨_, hg⟩
    · have hu' : its[i]? = some u := by simpa using hu
      have hl : i < its.length := (List.getElem?_eq_some_iff.mp hu').1
      have hl2 : i < xs.length := by rw [rv.length]; exact hl
      obtain ⟨u', e1, e2⟩ := rv.get (i := i) (List.getElem?_eq_getElem hl2)
      rw [hu'] at e1
      cases e1
      exact ⟨xs[i], e2, List.getElem?_eq_getElem hl2⟩
theorem srcI_txt (z : Str) (t : Tok) : SrcI P w K it z.cps.size (fun _ => True) (fun i v => ∃ c, z.cps[i]? = some c ∧ v = .str ⟨#[c]⟩) (fun i h => h.IsStrIter it (strIterType z) z t i) [] where
  obj := fun i h ⟨o, ho, hc, hd⟩ => ⟨o, ho, fun v q => by rw [hd] at q; cases q⟩
  keep := fun i h h' st k => let ⟨o, ho, r⟩ := st; ⟨o, k o ho, r⟩
  dr := by
    intro X hP hw hK hc pins s σ H I hg hn
    subst hP hw hK
    refine ⟨[], _, _, Draws.text (handled_in1 (I.ok.hd hc)) it z t, (fun b hb => absurd hb (by simp)), fun i st => st, fun i h st => st, fun i u hu => ?_⟩
    obtain ⟨c, t', hc', rfl⟩ := hu
    exact ⟨.str ⟨#[c]⟩, ⟨t', rfl⟩, c, hc', rfl⟩
theorem srcI_ktp (a : Addr) (xs : List V) (hk : ∃ (o : Obj) (its : Array Value) (n : Nat), K.lookup a = some o ∧ o.cls = .type "tuple" ∧ o.data = .seq its n ∧ its.size ≤ sizeLine ∧ Vals xs its.toList) (hne : a ≠ it) : SrcI P w K it xs.length (fun _ => True) (fun i v => xs[i]? = some v) (fun i h => h.IsTupleIter it a i) [a] where
  obj := fun i h ⟨o, ho, hc, hd⟩ => ⟨o, ho, fun v q => by rw [hd] at q; cases q⟩
  keep := fun i h h' st k => st.at k
  dr := by
    intro X hP hw hK hc pins s σ H I hg hn
    subst hP hw hK
    have hq : SqT X.K H a xs := .inr hk
    obtain ⟨its, rv, p, hz⟩ := I.tuple hq
    have el : its.toArray.size = xs.length := by simp [rv.length]
    refine ⟨[a], _, _, el ▸ Draws.tuple (handled_in1 (I.ok.hd hc)) it a hne its.toArray, fun b hb => ?_, fun i st => ⟨st, p⟩, fun i h st => st.1, fun i u hu => ?_⟩
    · exact .inr hb
    · have hu' : its[i]? = some u := by simpa using hu
      have hl : i < its.length := (List.getElem?_eq_some_iff.mp hu').1
      have hl2 : i < xs.length := by rw [rv.length]; exact hl
      obtain ⟨u', e1, e2⟩ := rv.get (i := i) (List.getElem?_eq_getElem hl2)
      rw [hu'] at e1
      cases e1
      exact ⟨xs[i], e2, List.getElem?_eq_getElem hl2⟩
/-- how a walked thing begins -/
theorem src_begins {X : Cx} {pins : List (Addr × Obj)} {s : Shared} {σ : L2.St} {H : Hp} {x : V} {u : Value} {n : Nat} {G : Hp → Prop} {E : Nat → V → Prop} (S : Src X.K x n G E) (I : Inv X pins σ H s) (hg : G H) (r : RelV x u) :
    ∃ (o : Obj) (Hs : Heap → Prop) (kf : List Addr), Begins u o Hs ∧ Hs s.heap ∧ (∀ b ∈ kf, b < s.heap.objs.size) ∧ ∀ it, it ∉ kf → ∃ own, SrcI X.prog X.w X.K it n G E own kf ∧ ∀ h', h'.get? it = some o → own 0 h' := by
  cases S with
  | lst a xs =>
    cases (show u = Value.ref a from r)
    obtain ⟨its, rv, p, hz⟩ := I.list (SqL.of hg)
    exact ⟨_, _, [], begins_list a its.toArray, p.isList, (fun b hb => by cases hb), fun it _ => ⟨_, srcI_list a xs, fun h' e => ⟨_, e, rfl, rfl⟩⟩⟩
  | tup a xs =>
    cases (show u = Value.ref a from r)
    obtain ⟨its, rv, p, hz⟩ := I.tuple (SqT.of hg)
    exact ⟨_, _, [], begins_tuple a its.toArray, p, (fun b hb => by cases hb), fun it _ => ⟨_, srcI_tup a xs, fun h' e => ⟨_, e, rfl, rfl⟩⟩⟩
  | txt z =>
    obtain ⟨t, rfl⟩ := (show ∃ t, u = Value.str z t from r)
    exact ⟨_, _, [], begins_text z t, trivial, (fun b hb => by cases hb), fun it _ => ⟨_, srcI_txt z t, fun h' e => ⟨_, e, rfl, rfl⟩⟩⟩
  | ktp a xs hk =>
    cases (show u = Value.ref a from r)
    obtain ⟨its, rv, p, hz⟩ := I.tuple (.inr hk)
    have hlt : a < s.heap.objs.size := by
      obtain ⟨o, ho, _⟩ := p
      exact Heap.lt_size ho
    exact ⟨_, _, [a], begins_tuple a its.toArray, p, (fun b hb => by rw [List.mem_singleton.mp hb]; exact hlt), fun it hn => ⟨_, srcI_ktp a xs hk (fun z => hn (by rw [z]; exact List.mem_singleton.mpr rfl)), fun h' e => ⟨_, e, rfl, rfl⟩⟩⟩
end
/-! ### from the library's walks that hand out new tuples to a loop's turns -/
/-- n turns while G holds, each gives a new tuple vs that Y tells -/
def ItN (n : Nat) (G : Hp → Prop) (Y : Nat → List V → Prop) : It :=
  ⟨fun i H => i < n ∧ G H, fun i H v H' => ∃ T vs, v = .ref T ∧ H T = none ∧ H' = upd H T (.tup vs) ∧ Y i vs, fun i H => i = n ∧ G H⟩
def YNew (Y : Nat → List V → Prop) : Nat → Hp → V → Hp → Prop := fun i H v H' => ∃ T vs, v = .ref T ∧ H T = none ∧ H' = upd H T (.tup vs) ∧ Y i vs
theorem walk_new {n : Nat} {G : Hp → Prop} {Y : Nat → List V → Prop} : Walk (ItN n G Y) n G (YNew Y) :=
  ⟨fun i _ hi q => ⟨hi, q⟩, fun _ q => ⟨rfl, q⟩, fun _ _ _ _ _ _ y => y⟩
theorem turn_of {P : Program} {w : World} {K : PySem.W.Frag} {elts : List Expr} {kk : Nat} {tpos : Pos} {e : Addr} {wr : List Addr} {n : Nat} {G : Hp → Prop} {own : Nat → Heap → Prop} {Y : Nat → List V → Prop} (hmem : e ∈ wr) (hY : ∀ i vs, Y i vs → vs.length ≤ sizeLine)
    (obj : ∀ i h, own i h → ∀ b ∈ wr, ∃ o, h.get? b = some o ∧ ∀ v, o.data ≠ .cell v)
    (keep : ∀ i h h', own i h → (∀ b ∈ wr, ∀ o, h.get? b = some o → h'.get? b = some o) → own i h')
    (dr : ∀ (X : Cx), X.prog = P → X.w = w → X.K = K → X.calm = true → ∀ (pins : List (Addr × Obj)) (s : Shared) (σ : L2.St) (H : Hp) (j : Nat), Inv X pins σ H s → (∀ b ∈ wr, H b = none) → own j s.heap → G H →
      ∃ fp wr0 Pt Sd Mid, (∀ b ∈ wr0, b ∈ wr) ∧ WalksT P w X.A e fp wr0 n Pt Sd Mid ∧ (∀ i, own i s.heap → Sd i s.heap) ∧ (∀ i h, Sd i h → own i h) ∧ (∀ i vals, i < n → Pt i vals → ∃ vs, Vals vs vals.toList ∧ Y i vs))
    (self : ∀ (A : Around) (i : Nat) (s : Shared) (Q : Value → Shared → Prop) (E : Value → Shared → Prop), own i s.heap → Q (.ref e) s → wpAny (model P w) A (pyIter (.ref e)) Q E s) :
    Turn P w K (.Tuple elts kk tpos) (ItN n G Y) wr e own where
  mem := hmem
  obj := obj
  keep := keep
  item := by
    intro X hP hw hK hc i pins s σ H E I hf st hg
    obtain ⟨fp, wr0, Pt, St', Mid, sub, W, h1, h2, h3⟩ := dr X hP hw hK hc pins s σ H i I (fun b hb => (hf b hb).1) st hg.2
    subst hP hw hK
    refine W.item i s _ _ hg.1 (h1 i st) fun T vals h' tk hp hT hTup hm fr => ?_
    refine ⟨_, rfl, W.go elts kk tpos i T { s with heap := h', toks := tk } _ _ hm fun h'' st2 fr2 => ?_⟩
    obtain ⟨vs, rv, hy⟩ := h3 i vals hg.1 hp
    have hTw : T ∉ wr := fun z => by
      obtain ⟨o, q, _⟩ := obj i s.heap st T z
      exact absurd (Heap.lt_size q) (Nat.not_lt.mpr hT)
    obtain ⟨oT, hTo, hTc, nT, hTd⟩ := hTup
    have hT2 : h''.get? T = some oT := fr2 T oT (fun z => hTw (sub T z)) hTo
    have new : ObjOk X.prog X.w (upd H T (.tup vs)) h'' T (.tup vs) := ⟨hY i vs hy, vals.toList, rv, ⟨oT, hT2, hTc, nT, by simpa using hTd⟩⟩
    have I1 : Inv X pins σ (upd H T (.tup vs)) { s with heap := h'', toks := tk } :=
      I.turnedNew (ch := wr) (fun b o hb q => fr2 b o (fun z => hb (sub b z)) (fr b o (fun z => hb (sub b z)) q)) hf hT new
    have nT : ∀ b ∈ wr, b ≠ T := fun b hb z => hTw (z ▸ hb)
    exact ⟨.ref T, _, I1, rfl, ⟨T, vs, rfl, I.hok.fresh hT, rfl, hy⟩, h2 _ _ st2, fun b hb => by rw [upd_ne (nT b hb)]; exact (hf b hb).1⟩
  done := by
    intro X hP hw hK hc i pins s σ H E I hf st hg
    obtain ⟨e1, hg⟩ := hg
    subst e1
    obtain ⟨fp, wr0, Pt, St', Mid, sub, W, h1, h2, h3⟩ := dr X hP hw hK hc pins s σ H i I (fun b hb => (hf b hb).1) st hg
    subst hP hw hK
    exact W.done s _ _ (h1 i st) fun h' tk fr => ⟨rfl, I.turnedL (ch := wr) (fun b o hb q => fr b o (fun z => hb (sub b z)) q) hf⟩
  self := self
end Kx
set_option Elab.async false
set_option linter.all false
set_option maxRecDepth 100000
set_option maxHeartbeats 2000000
namespace PySem
open Sem (wp)
/-- enumerate(v), v anything that begins -/
theorem meets_enumerate_new1B {v : Value} {o : Obj} {H : Heap → Prop} (B : Begins v o H) :
    Meets (Builtin.«enumerate.__new__» ⟨[.type "enumerate", v], []⟩) (fun _ R s => H s.heap ∧
      R (.ok (.ret (.ref (s.heap.push o).objs.size))) { s with heap := (s.heap.push o).push { cls := .type "enumerate", data := .fields #[.none, .bool false, .ref s.heap.objs.size, rawInt 0, .none, .none] } }) :=
  .of_wp fun prog w A R s h => by
    obtain ⟨hp, g, d, tk, os⟩ := s; obtain ⟨h1, h⟩ := h
    have hsub := sub_enumerate
    have q1 : ∀ {A' : Around} {E : Value → Shared → Prop} {Q : Value → Shared → Prop}, Q (.ref hp.objs.size) ⟨hp.push o, g, d, tk, os⟩ → wpAny (model prog w) A' (pyIter v) Q E ⟨hp, g, d, tk, os⟩ :=
      fun q => B.iter prog w _ _ ⟨hp, g, d, tk, os⟩ _ h1 q
    wp_walk using q1
    refine wpAny_stack_any fun st => wpAny_pure ?_
    split
    · rename_i c _ _ _ _ _
      cases (c == Value.type "enumerate")
      · wp_walk using q1
        exact ⟨_, rfl, h⟩
      · wp_walk using q1
        exact ⟨_, rfl, h⟩
    · wp_walk using q1
      exact ⟨_, rfl, h⟩
section
variable {prog : Program} {w : World} {A : Around} {E : Value → Shared → Prop} {s : Shared}
theorem enum_begins1 {v : Value} {o : Obj} {H : Heap → Prop} {Q : Value → Shared → Prop} (B : Begins v o H) (h1 : H s.heap)
    (h : ∀ h', IsEnum h' (s.heap.objs.size + 1) s.heap.objs.size 0 .none → h'.get? s.heap.objs.size = some o →
      (∀ b o, s.heap.get? b = some o → h'.get? b = some o) → Q (.ref (s.heap.objs.size + 1)) { s with heap := h' }) :
    wpAny (model prog w) A (call (.type "enumerate") [v]) Q E s := by
  refine callType_new F.called_enumerate (by decide) (F.typeCall_enumerate_1 _) (F.newCall_enumerate_1 _) (fun obj => F.args_object_init_2 obj _) F.entry_enumerate_new
    (meets_enumerate_new1B B) ⟨h1, ?_⟩
  have hz : (s.heap.push o).objs.size = s.heap.objs.size + 1 := Heap.size_push ..
  show _ ∧ _
  rw [hz]
  have he : IsEnum ((s.heap.push o).push { cls := .type "enumerate", data := .fields #[.none, .bool false, .ref s.heap.objs.size, rawInt 0, .none, .none] }) (s.heap.objs.size + 1) s.heap.objs.size 0 .none := by
    have := Heap.get?_push_size (s.heap.push o) (o := { cls := .type "enumerate", data := .fields #[.none, .bool false, .ref s.heap.objs.size, rawInt 0, .none, .none] }) rfl
    rw [hz] at this; exact this
  exact ⟨⟨_, he, rfl⟩, h _ he (Heap.get?_push_of_some _ (Heap.get?_push_size _ B.free)) fun b o x => Heap.get?_push_of_some _ (Heap.get?_push_of_some _ x)⟩
end
end PySem
namespace Kx
open PySem PySem.Spec PyProof.Rows L2
def YEn (E : Nat → V → Prop) : Nat → List V → Prop := fun i vs => ∃ y, vs = [.int (i : Nat), y] ∧ E i y
def YZ2 (E1 E2 : Nat → V → Prop) : Nat → List V → Prop := fun i vs => ∃ x y, vs = [x, y] ∧ E1 i x ∧ E2 i y
def YZ3 (E1 E2 E3 : Nat → V → Prop) : Nat → List V → Prop := fun i vs => ∃ x y z, vs = [x, y, z] ∧ E1 i x ∧ E2 i y ∧ E3 i z
theorem small3 {vs : List V} (h : vs.length ≤ 3) : vs.length ≤ sizeLine := Nat.le_trans h (by decide)
/-- enumerate(v) -/
def iEnumS (K : PySem.W.Frag) (ta : TA) : TI := fun σ H R => ta σ H fun vs H1 => ∃ x n G E, vs = [x] ∧ Src K x n G E ∧ G H1 ∧ R (ItN n G (YEn E)) H1
/-- zip(v1, v2), zip(v1, v2, v3) -/
def iZip2S (K : PySem.W.Frag) (ta : TA) : TI := fun σ H R => ta σ H fun vs H1 => ∃ x1 n1 G1 E1 x2 n2 G2 E2, vs = [x1, x2] ∧ Src K x1 n1 G1 E1 ∧ Src K x2 n2 G2 E2 ∧ G1 H1 ∧ G2 H1 ∧ R (ItN (min n1 n2) (fun H => G1 H ∧ G2 H) (YZ2 E1 E2)) H1
section
variable {X : Cx}
theorem cell_ne {h : Heap} {b : Addr} {o : Obj} (hb : h.get? b = some o) (hd : ∀ v, o.data ≠ .cell v) : ∃ o, h.get? b = some o ∧ ∀ v, o.data ≠ .cell v := ⟨o, hb, hd⟩
theorem turn_enumS {P : Program} {w : World} {K : PySem.W.Frag} {elts : List Expr} {kk : Nat} {tpos : Pos} {e it : Addr} {n : Nat} {G : Hp → Prop} {E : Nat → V → Prop} {own : Nat → Heap → Prop} {kf : List Addr} (hkf : e ∉ kf) (hne : e ≠ it) (S : SrcI P w K it n G E own kf) :
    Turn P w K (.Tuple elts kk tpos) (ItN n G (YEn E)) [e, it] e (fun i h => (∃ old, IsEnum h e it (0 + ((i : Nat) : Int)) old) ∧ own i h) := by
  refine turn_of (by simp) (fun i vs ⟨y, e, _⟩ => by rw [e]; exact small3 (by simp)) (fun i h st b hb => ?_) (fun i h h' st k => ?_) (fun X hP hw hK hc pins s σ H j I hn st hg => ?_) (fun A i s Q E st h => ?_)
  · obtain ⟨⟨old, he⟩, ho⟩ := st
    have e' : b = e ∨ b = it := by simpa using hb
    rcases e' with z | z
    · rw [z]; exact ⟨_, he, fun v q => nomatch q⟩
    · rw [z]; exact S.obj i h ho
  · obtain ⟨⟨old, he⟩, ho⟩ := st
    exact ⟨⟨old, k e (by simp) _ he⟩, S.keep i h h' ho fun o q => k it (by simp) o q⟩
  · obtain ⟨fs, Pv, Sd, D, hf, h1, h2, h3⟩ := S.dr X hP hw hK hc pins s σ H I hg (hn it (by simp))
    have hef : e ∉ it :: fs := fun hm => by
      rcases List.mem_cons.mp hm with z | z
      · exact hne z
      · rcases hf e z with ⟨o, q⟩ | q
        · rw [hn e (by simp)] at q
          cases q
        · exact hkf q
    refine ⟨_, _, _, _, _, fun b hb => hb, WalksT.enumFrom 0 D e hne hef (List.mem_cons_self ..), fun i st => ⟨st.1, h1 i st.2⟩, fun i h st => ⟨st.1, h2 i h st.2⟩, fun i vals hi hv => ?_⟩
    obtain ⟨t, x, hx, rfl⟩ := hv
    obtain ⟨v, rv, ev⟩ := h3 i x hx
    refine ⟨[.int (i : Nat), v], .cons ⟨t, ?_⟩ (.cons rv .nil), v, rfl, ev⟩
    rw [Int.zero_add]
  · obtain ⟨⟨old, he⟩, ho⟩ := st
    exact wpAny_pyIter_enum he h
theorem pi_enumS {e : Expr} {ta : TA} {p pos tpos : Pos} {elts : List Expr} {kk : Nat} (hg : Gl X "enumerate") (hm : X.mg "enumerate" = none) (ha : PA X [e] ta) (hs : starEach [e] X.env = [(false, eval e X.env)] := by rfl) :
    PI X (.Tuple elts kk tpos) (.Call (.Name "enumerate" p) [e] [] pos) (iEnumS X.K ta) := by
  refine ⟨fun pins s σ H R I h => ?_⟩
  refine Call_ (ld_blt I hg hm boot_enumerate (PyProof.Rows.callWith_type1 (thn (ha.run pos pins s σ H _ I h) fun us s1 ⟨vs, H1, I1, r1, q1⟩ => ?_) hs rfl))
  obtain ⟨x, n, G, E, ex, S, hg1, q⟩ := q1
  subst ex
  cases r1 with
  | cons r rr =>
    cases rr
    obtain ⟨o, Hs, kf, B, b1, hkf, hown⟩ := src_begins S I1 hg1 r
    have nkf : ∀ b, s1.heap.objs.size ≤ b → b ∉ kf := fun b hb hm => absurd (hkf b hm) (Nat.not_lt.mpr hb)
    obtain ⟨own, SI, hst⟩ := hown s1.heap.objs.size (nkf _ (Nat.le_refl _))
    refine enum_begins1 B b1 fun h' he hit hk => wpAny_pyIter_enum he ?_
    have I2 : Inv X pins σ H1 { s1 with heap := h' } := I1.kept (t' := s1.toks) hk
    refine ⟨s1.heap.objs.size + 1, [s1.heap.objs.size + 1, s1.heap.objs.size], _, _, H1, rfl, I2, turn_enumS (nkf _ (Nat.le_succ _)) (Nat.succ_ne_self _) SI, ⟨⟨.none, by rw [show (0 : Int) + ((0 : Nat) : Int) = 0 from rfl]; exact he⟩, hst h' hit⟩, fun b hb => ?_, q⟩
    have e' : b = s1.heap.objs.size + 1 ∨ b = s1.heap.objs.size := by simpa using hb
    have hle : s1.heap.objs.size ≤ b := by
      rcases e' with z | z
      · rw [z]; exact Nat.le_add_right _ _
      · rw [z]; exact Nat.le_refl _
    exact I1.fpOk hle (I1.hok.fresh hle)
theorem mem2 {b x y : Addr} {l : List Addr} (h : b ∈ x :: y :: l) : b = x ∨ b = y ∨ b ∈ l := by simpa using h
theorem turn_zip2S {P : Program} {w : World} {K : PySem.W.Frag} {elts : List Expr} {kk : Nat} {tpos : Pos} {z TI TO i1 i2 : Addr} {n1 n2 : Nat} {G1 G2 : Hp → Prop} {E1 E2 : Nat → V → Prop} {own1 own2 : Nat → Heap → Prop}
    {kf1 kf2 : List Addr} (hk1 : ∀ b ∈ [z, TI, TO, i1, i2], b ∉ kf1) (hk2 : ∀ b ∈ [z, TI, TO, i1, i2], b ∉ kf2) (d : [z, TI, TO, i1, i2].Nodup) (S1 : SrcI P w K i1 n1 G1 E1 own1 kf1) (S2 : SrcI P w K i2 n2 G2 E2 own2 kf2) :
    Turn P w K (.Tuple elts kk tpos) (ItN (min n1 n2) (fun H => G1 H ∧ G2 H) (YZ2 E1 E2)) [z, TI, TO, i1, i2] z
      (fun i h => IsZip h z TI TO .none ∧ IsTupOf2 h TI (.ref i1) (.ref i2) ∧ (∃ a1 a2, IsTupOf2 h TO a1 a2) ∧ own1 i h ∧ own2 i h) := by
  simp only [List.nodup_cons, List.mem_cons, List.not_mem_nil, or_false, not_or, not_false_eq_true, List.nodup_nil, and_true] at d
  obtain ⟨⟨d1, d2, d3, d4⟩, ⟨d5, d6, d7⟩, ⟨d8, d9⟩, d10⟩ := d
  refine turn_of (by simp) (fun i vs ⟨x, y, e, _⟩ => by rw [e]; exact small3 (by simp)) (fun i h st b hb => ?_) (fun i h h' st k => ?_) (fun X hP hw hK hc pins s σ H j I hn st hg => ?_) (fun A i s Q E st h => ?_)
  · obtain ⟨hz, hTI, ⟨a1, a2, hTO⟩, o1, o2⟩ := st
    have e' : b = z ∨ b = TI ∨ b = TO ∨ b = i1 ∨ b = i2 := by simpa using hb
    rcases e' with q | q | q | q | q
    · rw [q]; exact ⟨_, hz, fun v q => nomatch q⟩
    · rw [q]; exact ⟨_, hTI, fun v q => nomatch q⟩
    · rw [q]; exact ⟨_, hTO, fun v q => nomatch q⟩
    · rw [q]; exact S1.obj i h o1
    · rw [q]; exact S2.obj i h o2
  · obtain ⟨hz, hTI, ⟨a1, a2, hTO⟩, o1, o2⟩ := st
    exact ⟨k z (by simp) _ hz, k TI (by simp) _ hTI, ⟨a1, a2, k TO (by simp) _ hTO⟩, S1.keep i h h' o1 fun o q => k i1 (by simp) o q, S2.keep i h h' o2 fun o q => k i2 (by simp) o q⟩
  · obtain ⟨f1, Pv1, Sd1, D1, hf1, a1, b1, c1⟩ := S1.dr X hP hw hK hc pins s σ H I hg.1 (hn i1 (by simp))
    obtain ⟨f2, Pv2, Sd2, D2, hf2, a2, b2, c2⟩ := S2.dr X hP hw hK hc pins s σ H I hg.2 (hn i2 (by simp))
    have no : ∀ {b : Addr} {fs kf : List Addr}, b ∉ kf → H b = none → (∀ b ∈ fs, (∃ o, H b = some o) ∨ b ∈ kf) → b ∉ fs := fun {b fs kf} hk h hf hm => by
      rcases hf b hm with ⟨o, q⟩ | q
      · rw [h] at q; cases q
      · exact hk q
    have nc : ∀ {b c : Addr} {fs kf : List Addr}, b ≠ c → b ∉ kf → H b = none → (∀ b ∈ fs, (∃ o, H b = some o) ∨ b ∈ kf) → b ∉ c :: fs := fun {b c fs kf} h1 hk h2 h3 hm => (List.mem_cons.mp hm).elim h1 (no hk h2 h3)
    have SP : ZipSep2 z TI TO i1 i2 (i1 :: f1) (i2 :: f2) := {
      TIz := Ne.symm d1, TOz := Ne.symm d2, TITO := d5, TIi1 := d6, mem1 := List.mem_cons_self .., zf1 := nc d3 (hk1 z (by simp)) (hn z (by simp)) hf1, Tf1 := nc d8 (hk1 TO (by simp)) (hn TO (by simp)) hf1,
      TIi2 := d7, mem2 := List.mem_cons_self .., zf2 := nc d4 (hk2 z (by simp)) (hn z (by simp)) hf2, Tf2 := nc d9 (hk2 TO (by simp)) (hn TO (by simp)) hf2, sep1_2 := nc d10 (hk2 i1 (by simp)) (hn i1 (by simp)) hf2, sep2_1 := nc (Ne.symm d10) (hk1 i2 (by simp)) (hn i2 (by simp)) hf1 }
    refine ⟨_, _, _, _, _, (fun b hb => ?_), WalksT.zipD2 SP D1 D2, fun i st => ⟨st.1, st.2.1, st.2.2.1, a1 i st.2.2.2.1, a2 i st.2.2.2.2⟩, fun i h st => ⟨st.1, st.2.1, st.2.2.1, b1 i h st.2.2.2.1, b2 i h st.2.2.2.2⟩, fun i vals hi hv => ?_⟩
    · have e' : b = z ∨ b = TO ∨ b = i1 ∨ b = i2 := by simpa using hb
      rcases e' with q | q | q | q <;> rw [q] <;> simp
    · obtain ⟨x, y, hx, hy, rfl⟩ := hv
      obtain ⟨v1, r1, e1⟩ := c1 i x hx
      obtain ⟨v2, r2, e2⟩ := c2 i y hy
      exact ⟨[v1, v2], .cons r1 (.cons r2 .nil), v1, v2, rfl, e1, e2⟩
  · obtain ⟨hz, _⟩ := st
    exact wpAny_pyIter_zip hz h
theorem pi_zip2S {e e2 : Expr} {ta : TA} {p pos tpos : Pos} {elts : List Expr} {kk : Nat} (hg : Gl X "zip") (hm : X.mg "zip" = none) (ha : PA X [e, e2] ta)
    (hs : starEach [e, e2] X.env = (false, eval e X.env) :: starEach [e2] X.env := by rfl) (hpl : (backTo pos (starEach [e2] X.env)).any (·.1) = false := by rfl) :
    PI X (.Tuple elts kk tpos) (.Call (.Name "zip" p) [e, e2] [] pos) (iZip2S X.K ta) := by
  refine ⟨fun pins s σ H R I h => ?_⟩
  refine Call_ (ld_blt I hg hm boot_zip (PyProof.Rows.callWith_type1 (thn (ha.run pos pins s σ H _ I h) fun us s1 ⟨vs, H1, I1, r1, q1⟩ => ?_) hs hpl))
  obtain ⟨x1, n1, G1, E1, x2, n2, G2, E2, ex, S1, S2, hg1, hg2, q⟩ := q1
  subst ex
  cases r1 with
  | cons r rr =>
    cases rr with
    | cons r2 rr2 =>
      cases rr2
      obtain ⟨o1, Hs1, kf1, B1, b1, hkf1, hown1⟩ := src_begins S1 I1 hg1 r
      obtain ⟨o2, Hs2, kf2, B2, b2, hkf2, hown2⟩ := src_begins S2 I1 hg2 r2
      have nk1 : ∀ b, s1.heap.objs.size ≤ b → b ∉ kf1 := fun b hb hm => absurd (hkf1 b hm) (Nat.not_lt.mpr hb)
      have nk2 : ∀ b, s1.heap.objs.size ≤ b → b ∉ kf2 := fun b hb hm => absurd (hkf2 b hm) (Nat.not_lt.mpr hb)
      have own5 : ∀ b ∈ [s1.heap.objs.size + 4, s1.heap.objs.size + 2, s1.heap.objs.size + 3, s1.heap.objs.size, s1.heap.objs.size + 1], s1.heap.objs.size ≤ b := fun b hb => by
        have e' : b = s1.heap.objs.size + 4 ∨ b = s1.heap.objs.size + 2 ∨ b = s1.heap.objs.size + 3 ∨ b = s1.heap.objs.size ∨ b = s1.heap.objs.size + 1 := by simpa using hb
        rcases e' with q | q | q | q | q <;> (rw [q]; first | exact Nat.le_add_right _ _ | exact Nat.le_refl _)
      obtain ⟨own1, SI1, hst1⟩ := hown1 s1.heap.objs.size (nk1 _ (Nat.le_refl _))
      obtain ⟨own2, SI2, hst2⟩ := hown2 (s1.heap.objs.size + 1) (nk2 _ (Nat.le_succ _))
      refine zip_begins2 B1 B2 b1 b2 fun h' hz hTI hTO h1 h2 hsz hk => wpAny_pyIter_zip hz ?_
      have I2 : Inv X pins σ H1 { s1 with heap := h' } := I1.kept (t' := s1.toks) hk
      refine ⟨s1.heap.objs.size + 4, [s1.heap.objs.size + 4, s1.heap.objs.size + 2, s1.heap.objs.size + 3, s1.heap.objs.size, s1.heap.objs.size + 1], _, _, H1, rfl, I2, turn_zip2S (fun b hb => nk1 b (own5 b hb)) (fun b hb => nk2 b (own5 b hb)) (by simp) SI1 SI2, ⟨hz, hTI, ⟨_, _, hTO⟩, hst1 h' h1, hst2 h' h2⟩, fun b hb => ?_, q⟩
      have hle : s1.heap.objs.size ≤ b := by
        have e' : b = s1.heap.objs.size + 4 ∨ b = s1.heap.objs.size + 2 ∨ b = s1.heap.objs.size + 3 ∨ b = s1.heap.objs.size ∨ b = s1.heap.objs.size + 1 := by simpa using hb
        rcases e' with q | q | q | q | q <;> (rw [q]; first | exact Nat.le_add_right _ _ | exact Nat.le_refl _)
      exact I1.fpOk hle (I1.hok.fresh hle)
end
end Kx
set_option Elab.async false
set_option linter.all false
set_option maxRecDepth 100000
set_option maxHeartbeats 1000000
namespace Kx
open PySem PySem.Spec PyProof.Rows L2
/-! ### data -/
/-- tuples stay -/
def Tups (H H' : Hp) : Prop := ∀ b xs, H b = some (.tup xs) → H' b = some (.tup xs)
theorem Same.tups {H H' : Hp} (s : Same H H') : Tups H H' := fun b xs e => s b _ e
theorem Tups.refl (H : Hp) : Tups H H := fun _ _ h => h
theorem Tups.trans {H H1 H2 : Hp} (a : Tups H H1) (b : Tups H1 H2) : Tups H H2 := fun c o h => b c o (a c o h)
theorem tups_upd {H : Hp} {D : Addr} {o o' : HO} (e : H D = some o) (ho : ∀ xs, o ≠ .tup xs) : Tups H (upd H D o') := fun b xs hb => by
  rw [upd_ne (fun z => by rw [z, e] at hb; exact ho xs (Option.some.inj hb))]
  exact hb
theorem tups_upd_none {H : Hp} {D : Addr} {o' : HO} (e : H D = none) : Tups H (upd H D o') := fun b xs hb => by
  rw [upd_ne (ne_of_none hb e)]
  exact hb
mutual
/-- data of tuples alone -/
inductive Rt (H : Hp) : V → PyData → Prop
  | non : Rt H .non .none
  | bl (b : Bool) : Rt H (.bl b) (.bool b)
  | int (i : Int) : Rt H (.int i) (.int i)
  | str (z : Str) : Rt H (.str z) (.str z)
  | tup {a : Addr} {xs : List V} {ds : List PyData} : H a = some (.tup xs) → RtL H xs ds → Rt H (.ref a) (.tuple ds)
inductive RtL (H : Hp) : List V → List PyData → Prop
  | nil : RtL H [] []
  | cons {v : V} {vs : List V} {d : PyData} {ds : List PyData} : Rt H v d → RtL H vs ds → RtL H (v :: vs) (d :: ds)
end
mutual
/-- data as it is passed -/
inductive Rp (H : Hp) : V → PyData → Prop
  | non : Rp H .non .none
  | bl (b : Bool) : Rp H (.bl b) (.bool b)
  | int (i : Int) : Rp H (.int i) (.int i)
  | str (z : Str) : Rp H (.str z) (.str z)
  | lst {a : Addr} {xs : List V} {ds : List PyData} : H a = some (.lst xs) → RpL H xs ds → Rp H (.ref a) (.list ds)
  | tup {a : Addr} {xs : List V} {ds : List PyData} : H a = some (.tup xs) → RpL H xs ds → Rp H (.ref a) (.tuple ds)
  | dct {a : Addr} : H a = some (.dK []) → Rp H (.ref a) (.dict [])
inductive RpL (H : Hp) : List V → List PyData → Prop
  | nil : RpL H [] []
  | cons {v : V} {vs : List V} {d : PyData} {ds : List PyData} : Rp H v d → RpL H vs ds → RpL H (v :: vs) (d :: ds)
end
mutual
theorem Rt.tups {H H' : Hp} (s : Tups H H') : ∀ {v : V} {d : PyData}, Rt H v d → Rt H' v d
  | _, _, .non => .non
  | _, _, .bl b => .bl b
  | _, _, .int i => .int i
  | _, _, .str z => .str z
  | _, _, .tup e h => .tup (s _ _ e) (RtL.tups s h)
theorem RtL.tups {H H' : Hp} (s : Tups H H') : ∀ {vs : List V} {ds : List PyData}, RtL H vs ds → RtL H' vs ds
  | _, _, .nil => .nil
  | _, _, .cons h hs => .cons (Rt.tups s h) (RtL.tups s hs)
end
mutual
theorem Rp.same {H H' : Hp} (s : Same H H') : ∀ {v : V} {d : PyData}, Rp H v d → Rp H' v d
  | _, _, .non => .non
  | _, _, .bl b => .bl b
  | _, _, .int i => .int i
  | _, _, .str z => .str z
  | _, _, .lst e h => .lst (s _ _ e) (RpL.same s h)
  | _, _, .tup e h => .tup (s _ _ e) (RpL.same s h)
  | _, _, .dct e => .dct (s _ _ e)
theorem RpL.same {H H' : Hp} (s : Same H H') : ∀ {vs : List V} {ds : List PyData}, RpL H vs ds → RpL H' vs ds
  | _, _, .nil => .nil
  | _, _, .cons h hs => .cons (Rp.same s h) (RpL.same s hs)
end
mutual
theorem Rt.rp {H : Hp} : ∀ {v : V} {d : PyData}, Rt H v d → Rp H v d
  | _, _, .non => .non
  | _, _, .bl b => .bl b
  | _, _, .int i => .int i
  | _, _, .str z => .str z
  | _, _, .tup e h => .tup e (RtL.rp h)
theorem RtL.rp {H : Hp} : ∀ {vs : List V} {ds : List PyData}, RtL H vs ds → RpL H vs ds
  | _, _, .nil => .nil
  | _, _, .cons h hs => .cons (Rt.rp h) (RtL.rp hs)
end
theorem RpL.length {H : Hp} : ∀ {vs : List V} {ds : List PyData}, RpL H vs ds → vs.length = ds.length
  | _, _, .nil => rfl
  | _, _, .cons _ h => congrArg Nat.succ h.length
theorem RtL.length {H : Hp} : ∀ {vs : List V} {ds : List PyData}, RtL H vs ds → vs.length = ds.length
  | _, _, .nil => rfl
  | _, _, .cons _ h => congrArg Nat.succ h.length
theorem RpL.get {H : Hp} : ∀ {vs : List V} {ds : List PyData} {i : Nat} {v : V}, RpL H vs ds → vs[i]? = some v → ∃ d, ds[i]? = some d ∧ Rp H v d
  | _, _, 0, _, .cons h _, e => ⟨_, rfl, by cases e; exact h⟩
  | _, _, i + 1, _, .cons _ h, e => RpL.get (i := i) h e
theorem RtL.get {H : Hp} : ∀ {vs : List V} {ds : List PyData} {i : Nat} {v : V}, RtL H vs ds → vs[i]? = some v → ∃ d, ds[i]? = some d ∧ Rt H v d
  | _, _, 0, _, .cons h _, e => ⟨_, rfl, by cases e; exact h⟩
  | _, _, i + 1, _, .cons _ h, e => RtL.get (i := i) h e
theorem RtL.append {H : Hp} {v : V} {d : PyData} (h : Rt H v d) : ∀ {vs : List V} {ds : List PyData}, RtL H vs ds → RtL H (vs ++ [v]) (ds ++ [d])
  | _, _, .nil => .cons h .nil
  | _, _, .cons a b => .cons a (RtL.append h b)
/-! ### kinds of data -/
def kd : PyData → Kd
  | .none => .non | .bool _ => .bl | .int _ => .int | .str _ => .str | .list _ => .lst | .tuple _ => .tup | .dict _ => .dct
theorem Rp.ko {K : PySem.W.Frag} {H : Hp} {v : V} {d : PyData} (h : Rp H v d) : Ko K H v (kd d) := by
  cases h with
  | non => exact .base .non
  | bl b => exact .base (.bl b)
  | int i => exact .base (.int i)
  | str z => exact .base (.str z)
  | lst e _ => exact .base (.lst e)
  | tup e _ => exact .base (.tup e)
  | dct e => exact .base (.dK e)
def belowD (m : Int) : PyData → Bool
  | .int i => decide (0 ≤ i) && decide (i < m)
  | _ => false
theorem rp_below {H : Hp} {v : V} {d : PyData} (h : Rp H v d) (m : Int) : Kx.below v m = belowD m d := by
  cases h <;> rfl
/-- the items of a list or a tuple -/
def itemsD : PyData → Option (List PyData)
  | .list ds => some ds
  | .tuple ds => some ds
  | _ => none
/-! ### comprehensions that only lay new things -/
section
variable {J : It} {n : Nat} {G : Hp → Prop} {Y : Nat → Hp → V → Hp → Prop}
theorem lc_new (W : Walk J n G Y) {g : TG} {te : TE} {vs : List Nat} {σ : L2.St} {H1 : Hp} {D : Addr} {Qd : Hp → Prop} (hD : H1 D = none) (hn : n ≤ sizeLine) (Ev : Nat → Hp → V → Prop) (hE : ∀ i H H' v, Tups H H' → Ev i H v → Ev i H' v)
    (hG : ∀ H, Same H1 H → G H)
    (hs : ∀ i x H H' (Qk : VK), i < n → Same H1 H → Y i H x H' → (∀ y H4, Same H H4 → Ev i H4 y → Qk y H4) → g x (wipe σ vs) H' fun σ2 H2 => wipe σ2 vs = wipe σ vs ∧ te σ2 H2 Qk)
    (hd : ∀ H acc, Same H1 H → H D = some (.lst acc) → acc.length = n → (∀ i v, acc[i]? = some v → Ev i H v) → Qd H) :
    ∃ W : Nat → Nat → Hp → Prop, (∃ m, W 0 m (upd H1 D (.lst []))) ∧ ∀ i m H, W i m H →
      (J.stop i H ∧ Qd H) ∨ (J.go i H ∧ ∃ Nx : Hp → Prop, (∀ H', Nx H' → ∃ m', m' < m ∧ W (i + 1) m' H') ∧ ∀ x H', J.yld i H x H' → g x (wipe σ vs) H' fun σ2 H2 => wipe σ2 vs = wipe σ vs ∧ tYes σ2 H2 fun b H3 =>
        if b = true then te σ2 H3 fun y H4 => ∃ acc, H4 D = some (.lst acc) ∧ acc.length < sizeLine ∧ Nx (upd H4 D (.lst (acc ++ [y]))) else Nx H3) := by
  have up : ∀ {H : Hp} {o : HO}, Same H1 H → Same H1 (upd H D o) := fun {H o} s b u e => by
    rw [upd_ne (ne_of_none e hD)]
    exact s b u e
  refine lc_it W (tt := tYes) (fun i H => Same H1 H ∧ ∃ acc, H D = some (.lst acc) ∧ acc.length = i ∧ ∀ j v, acc[j]? = some v → Ev j H v) ⟨up (Same.refl _), [], upd_same, rfl, fun j v e => by simp at e⟩ (fun i H _ ⟨s, _⟩ => hG H s) ?_ fun H ⟨s, acc, e, l, h⟩ => hd H acc s e l h
  rintro i x H H' hi ⟨s, acc, e, l, hv⟩ y
  have q := hs i x H H' (fun y H4 => ∃ acc, H4 D = some (.lst acc) ∧ acc.length < sizeLine ∧ (Same H1 (upd H4 D (.lst (acc ++ [y]))) ∧ ∃ acc', (upd H4 D (.lst (acc ++ [y]))) D = some (.lst acc') ∧ acc'.length = i + 1 ∧ ∀ j v, acc'[j]? = some v → Ev j (upd H4 D (.lst (acc ++ [y]))) v)) hi s y
    (fun y H4 s4 ev => by
      have e4 : H4 D = some (.lst acc) := s4 _ _ e
      have tu : Tups H4 (upd H4 D (.lst (acc ++ [y]))) := tups_upd e4 fun xs z => by cases z
      refine ⟨acc, e4, by omega, up (s.trans s4), _, upd_same, by simp [l], fun j v hj => ?_⟩
      by_cases hlt : j < acc.length
      · rw [List.getElem?_append_left hlt] at hj
        exact hE j _ _ v ((Same.tups s4).trans tu) (hv j v hj)
      · rw [List.getElem?_append_right (by omega)] at hj
        have hj0 : j - acc.length = 0 := by
          cases hq : j - acc.length with
          | zero => rfl
          | succ k => rw [hq] at hj; simp at hj
        rw [hj0] at hj
        have ev' : v = y := by simpa using hj.symm
        have ej : j = i := by omega
        rw [ev', ej]
        exact hE i _ _ y tu ev)
  exact q
end
end Kx
set_option Elab.async false
set_option linter.all false
set_option maxRecDepth 100000
set_option maxHeartbeats 2000000
namespace Kx
open PySem PySem.Spec PyProof.Rows L2
/-! ### own errors: what the written part must say of a class, as a test -/
theorem clsB_ok {K : PySem.W.Frag} {C : Addr} (h : clsB K C = true) : ∃ nm q N bs bm sn sub ab col dd k0 k1 k2 k3 k5, K.lookup C = some (excClassObj nm q C N bs bm true sn sub ab col dd k0 k1 k2 k3 k5 "ValueError.__new__") ∧ PySem.HandSPX.refsVE bm = true := by
  unfold clsB at h
  split at h
  · rename_i ty od cd sl ho
    split at h
    · rename_i C' bm a0 a1 a2 a3 n a5 hm hs
      simp only [Bool.and_eq_true, decide_eq_true_eq, Bool.not_eq_true'] at h
      obtain ⟨⟨⟨⟨⟨h1, h2⟩, h3⟩, h4⟩, h5⟩, h6⟩ := h
      subst h1 h2 h3
      obtain ⟨nm, bs, mro, ns, qn, hd, sn, sb, ab, col, del⟩ := cd
      dsimp only at hm h4 h5
      subst hm h4 h5
      obtain ⟨sl⟩ := sl
      dsimp only at hs
      subst hs
      exact ⟨_, _, _, _, bm, _, _, _, _, od, a0, a1, a2, a3, a5, ho, h6⟩
    · cases h
  · cases h
end Kx
set_option Elab.async false
set_option linter.all false
set_option maxRecDepth 100000
set_option maxHeartbeats 2000000
namespace Kx
open PySem PySem.Spec PyProof.Rows L2
/-- an own error class, as it must stand -/
structure Ex (K : PySem.W.Frag) (x : Str) (fs : List Str) : Prop where
  c : OexC K (He.ga K x)
  ini : PySem.W.findIn K (.ref (He.ga K x)) "__init__" = some (some (.ref (He.ma K (He.ga K x) "__init__")))
  ty : PySem.W.typeIn K (.ref (He.ma K (He.ga K x) "__init__")) = some (.type "function")
  no : ∀ f ∈ fs, PySem.W.findIn K (.ref (He.ga K x)) f = some none
  xf : XfC K (He.ga K x)
theorem exB_ok {K : PySem.W.Frag} {x : Str} {fs : List Str} (h : exB K x fs = true) : Ex K x fs := by
  unfold exB at h
  simp only [Bool.and_eq_true, decide_eq_true_eq] at h
  obtain ⟨h1, h2, h3, h4, h5, h6, h789⟩ := h
  obtain ⟨h7, h8, h9⟩ : PySem.W.typeIn K (.ref (He.ma K (He.ga K x) "__init__")) = some (.type "function") ∧ fs.all (fun f => decide (PySem.W.findIn K (.ref (He.ga K x)) f = some none)) = true ∧ xfB K (He.ga K x) = true := by
    first | exact h789 | exact ⟨h789.1.1, h789.1.2, h789.2⟩
  exact ⟨⟨clsB_ok h1, h2, h3, h4, h5⟩, h6, h7, fun f hf => of_decide_eq_true (List.all_eq_true.mp h8 f hf), xfB_ok h9⟩
theorem ex_of {K mg} (T : Txt K mg) (i : Nat) {x : Str} {fs : List Str} (h : excl[i]? = some (x, fs) := by rfl) : Ex K x fs := by
  have e := (Bool.and_eq_true_iff.mp (Bool.and_eq_true_iff.mp T.ex).1).1
  exact exB_ok (List.all_eq_true.mp e (x, fs) (List.mem_of_getElem? h))
theorem said_of {K mg} (T : Txt K mg) (i : Nat) {x : Str} {fs : List Str} (h : excl[i]? = some (x, fs) := by rfl) : PySem.W.exmOne K (.ref (He.ga K x)) (.ref (He.ga K "SaidError")) = some true := by
  have e := (Bool.and_eq_true_iff.mp (Bool.and_eq_true_iff.mp T.ex).1).2
  exact of_decide_eq_true (List.all_eq_true.mp e x (List.mem_map.mpr ⟨(x, fs), List.mem_of_getElem? h, rfl⟩))
section
variable {X : Cx} {e : Expr} {es : List Expr} {ta : TA} {p pos : Pos}
/-- C(e, ..), where nothing is handled: an exception whose context is None -/
theorem pmk_oexN {CX : CXT} {x : Str} {C fI : Addr} {k : Nat} {fd : FuncData} {ps : List Str} {sp : Sp} (T : OexC X.K C) (iC : PySem.W.findIn X.K (.ref C) "__init__" = some (some (.ref fI))) (tI : PySem.W.typeIn X.K (.ref fI) = some (.type "function"))
    (F1 : FnOk X.prog X.w X.K X.mg X.base CX k fI fd ps sp) (hr : Room (k + 1) X.A) (hb : Binds X.K fd ps []) (hx : Passes CX X (fun _ _ _ => False)) (hg : Gl X x) (hm : X.mg x = some (.ref C)) (ha : PA X (e :: es) ta) {M : List V → Hp → XK → Prop}
    (hM : ∀ vs H1 Q, M vs H1 Q → vs.length ≤ 1000 ∧ ∀ a, H1 a = none → sp (.ref a :: vs) (upd H1 a (exo a C none)) (fun v H2 => v = .non ∧ ∃ (d : Addr) (fs : List (Str × V)), H2 a = some (exo a C (some d)) ∧ H2 d = some (exd d fs) ∧ H1 d = none ∧ Q (.ref C) (some d) (upd (del H2 a) d (.xd fs))) (fun _ _ _ => False))
    (hdb : (x == ("__debug__" : Str)) = false := by decide) (he : starEach (e :: es) X.env = (false, eval e X.env) :: starEach es X.env := by rfl) (hpl : (backTo pos (starEach es X.env)).any (·.1) = false := by rfl) :
    L2N.PMk X (.Call (.Name x p) (e :: es) [] pos) (fun σ H Q => ta σ H fun vs H1 => M vs H1 Q) := by
  intro pins s σ H Q I h
  obtain ⟨nm, q, N, bs, bm, sn, sub, ab, col, dd, k0, k1, k2, k3, k5, hC, hbm⟩ := T.cls
  refine wpAny_Call_Name_kw (ld_glob I hg hm ?_ hdb)
  refine PySem.W.callWith_K (h₀ := X.base) I.ok.mod.kin T.kC (thn (ha.run pos pins s σ H _ I h) fun us s1 hh => ?_) he hpl
  obtain ⟨vs, H1, I1, r1, hm1⟩ := hh
  obtain ⟨hz, q1⟩ := hM _ _ _ hm1
  refine ⟨I1.kIn, ?_⟩
  show wpAny _ _ (call (.ref C) us) _ _ _
  obtain ⟨hp, g, dr, tk, os⟩ := s1
  generalize ea0 : hp.objs.size + 1 = a0
  have hsz : hp.objs.size ≤ a0 := by rw [← ea0]; exact Nat.le_succ _
  have hq := q1 a0 (I1.hok.fresh hsz)
  have kk : ∀ b o, hp.get? b = some o → ((hp.push (PySem.W.kdv_tup us)).push (PySem.HandSPX.excO C hp.objs.size)).get? b = some o := fun b o z => Heap.get?_push_of_some _ (Heap.get?_push_of_some _ z)
  have hget : ((hp.push (PySem.W.kdv_tup us)).push (PySem.HandSPX.excO C hp.objs.size)).get? a0 = some (PySem.HandSPX.excO C hp.objs.size) := by
    rw [← ea0]
    heap_get
  have I2 : Inv X pins σ (upd H1 a0 (exo a0 C none)) ⟨(hp.push (PySem.W.kdv_tup us)).push (PySem.HandSPX.excO C hp.objs.size), g, dr, tk, os⟩ := I1.laid (t' := tk) kk hsz (exo_ok hget)
  have r2 : Vals (V.ref a0 :: vs) (Value.ref a0 :: us) := .cons rfl r1
  have hl : (Value.ref a0 :: us ++ []).length = ps.length := by
    rw [List.append_nil, ← F1.len _ _ _ _ hq, r2.length]
  have hus : us.length ≤ sizeLine := by
    rw [← Paired.length r1, sizeLine_eq]
    omega
  have b2 := hb _ (Value.ref a0 :: us) I2.kIn hl
  rw [List.append_nil] at b2
  subst ea0
  refine wpAny_call (PySem.HandSPX.call_own F.excBase_ValueError (fun Y => PySem.HandSPX.refsVE_contains Y bm hbm) (I1.kIn _ _ hC) (PySem.W.looks_findIn I1.kIn iC) (fun self => PySem.W.bind_fn I1.kIn self tI) hus
    (codeAny_mono (F1.run _ X.stack _ _ ⟨_, []⟩ _ _ _ (fun _ _ _ => False) (hr.make C us []) (I2.env0.make C us []) b2 r2 hq) fun r s' hq' => ?_))
  cases r with
  | error er => exact hx pins σ _ _ er s' I2 hq'
  | ok fl =>
    cases fl with
    | ret u =>
      obtain ⟨v, H2, os2, bare2, un2, hok2, rv, ev, d, fs, ea, ed, hd1, q2⟩ := hq'
      subst ev
      obtain ⟨h2, g2, d2, t2, os'⟩ := s'
      obtain ⟨t0, G, J, kG, ge, hoe, na⟩ := mk_end0 (d2 := d2) (t2 := t2) I1 hsz kk un2 hok2 os2 bare2 ea ed hd1
      exact ⟨rv, hp.objs.size + 1, _, _, ⟨G, g2, d2, t2, os'⟩, _, .ref C, some d, rfl, J, kG, ge, hoe, ⟨rfl, rfl, fun vs hv => by cases hv; rfl⟩, rfl, rfl, na, rfl, bare2, raises_own T.exC T.tyC, q2⟩
    | next => exact False.elim hq'
    | brk => exact False.elim hq'
    | cont => exact False.elim hq'
/-- self.f = e, twice at most: what an error's __init__ leaves -/
theorem heap_made {H1 : Hp} {a d : Addr} {C : Addr} {o : HO} {fs : List (Str × V)} (ha : H1 a = none) (hd : upd H1 a (exo a C none) d = none) (hne : d ≠ a) (H2 : Hp) (h2 : ∀ b, b ≠ a → b ≠ d → H2 b = H1 b) :
    upd (del H2 a) d (.xd fs) = upd H1 d (.xd fs) := by
  funext b
  by_cases hb : b = d
  · subst hb
    rw [upd_same, upd_same]
  · rw [upd_ne hb, upd_ne hb]
    by_cases hba : b = a
    · subst hba
      rw [del_same, ha]
    · rw [del_ne hba, h2 b hba hb]
end
end Kx
set_option Elab.async false
set_option linter.all false
set_option maxRecDepth 100000
set_option maxHeartbeats 2000000
namespace Kx
open PySem PySem.Spec PyProof.Rows L2
def sp_init1 (K : PySem.W.Frag) (C : Addr) (f : Str) : Sp := fun vs H Q _ => ∃ (a : Addr) (v : V), vs = [.ref a, v] ∧ OexC K C ∧ PySem.W.findIn K (.ref C) f = some none ∧ H a = some (exo a C none) ∧
  ∀ dx, H dx = none → dx ≠ a → Q .non (upd (upd H dx (exd dx [(f, v)])) a (exo a C (some dx)))
def sp_init2 (K : PySem.W.Frag) (C : Addr) (f g : Str) : Sp := fun vs H Q _ => ∃ (a : Addr) (v u : V), vs = [.ref a, v, u] ∧ OexC K C ∧ PySem.W.findIn K (.ref C) f = some none ∧ PySem.W.findIn K (.ref C) g = some none ∧ H a = some (exo a C none) ∧
  ∀ dx, H dx = none → dx ≠ a → Q .non (upd (upd (upd H dx (exd dx [(f, v)])) a (exo a C (some dx))) dx (exd dx [(g, u), (f, v)]))
section
variable {P : Program} {w : World} {K : PySem.W.Frag} {mg : Str → Option Value} {base : Heap} {C f : Addr} {fd : FuncData}
theorem ini_thing (F : FnP K "__init__" "WrongThing.__init__" s_WrongThing___init__ f fd) : FnOk P w K mg base CX0 1 f fd ["self", "thing"] (sp_init1 K C "thing") := by
  refine F.ok sc_WrongThing___init__ (fun vs H Q E h => ?_) (fun cdv A outer s H vs Q E hr h => ⟨_, PSs.nox (pss_one (ps_ost (pv 0) (pv 1))), ?_⟩)
  · obtain ⟨a, v, rfl, _⟩ := h; rfl
  · obtain ⟨a, v, rfl, T, hno, ha, q⟩ := h
    exact ⟨v, rfl, .ref a, rfl, a, C, rfl, T, hno, .inl ⟨ha, q⟩⟩
theorem ini_number (F : FnP K "__init__" "WrongItem.__init__" s_WrongItem___init__ f fd) : FnOk P w K mg base CX0 1 f fd ["self", "number"] (sp_init1 K C "number") := by
  refine F.ok sc_WrongItem___init__ (fun vs H Q E h => ?_) (fun cdv A outer s H vs Q E hr h => ⟨_, PSs.nox (pss_one (ps_ost (pv 0) (pv 1))), ?_⟩)
  · obtain ⟨a, v, rfl, _⟩ := h; rfl
  · obtain ⟨a, v, rfl, T, hno, ha, q⟩ := h
    exact ⟨v, rfl, .ref a, rfl, a, C, rfl, T, hno, .inl ⟨ha, q⟩⟩
theorem ini_at (F : FnP K "__init__" "BadRow.__init__" s_BadRow___init__ f fd) : FnOk P w K mg base CX0 1 f fd ["self", "at"] (sp_init1 K C "at") := by
  refine F.ok sc_BadRow___init__ (fun vs H Q E h => ?_) (fun cdv A outer s H vs Q E hr h => ⟨_, PSs.nox (pss_one (ps_ost (pv 0) (pv 1))), ?_⟩)
  · obtain ⟨a, v, rfl, _⟩ := h; rfl
  · obtain ⟨a, v, rfl, T, hno, ha, q⟩ := h
    exact ⟨v, rfl, .ref a, rfl, a, C, rfl, T, hno, .inl ⟨ha, q⟩⟩
end
/-! ### raising -/
section
variable {X : Cx} {e : Expr} {es : List Expr} {ta : TA} {p pos pos2 : Pos} {W : WX} {k : Nat} {x f g : Str} {ps : List Str} {fd : FuncData}
/-- what an error's making is worth: at every new d its own dict -/
def tRaise1 (C : Addr) (f : Str) (W : WX) (ta : TA) : TS := fun _ σ H => ta σ H fun vs H1 => ∃ v, vs = [v] ∧ ∀ d, H1 d = none → W (.ref C) (some d) σ (upd H1 d (.xd [(f, v)]))
def tRaise2 (C : Addr) (f g : Str) (W : WX) (ta : TA) : TS := fun _ σ H => ta σ H fun vs H1 => ∃ v u, vs = [v, u] ∧ ∀ d, H1 d = none → W (.ref C) (some d) σ (upd H1 d (.xd [(g, u), (f, v)]))
theorem ps_raise1 {fs : List Str} (T : Ex X.K x fs) (hf : f ∈ fs) (hc : X.calm = true) (F1 : FnOk X.prog X.w X.K X.mg X.base CX0 1 (He.ma X.K (He.ga X.K x) "__init__") fd ps (sp_init1 X.K (He.ga X.K x) f)) (hb : Binds X.K fd ps []) (hr : Room 2 X.A) (tk : L2N.Takes X W)
    (hm : X.mg x = some (.ref (He.ga X.K x))) (ha : PA X (e :: es) ta) (hg : Gl X x := by rfl) (hdb : (x == ("__debug__" : Str)) = false := by decide) (he : starEach (e :: es) X.env = (false, eval e X.env) :: starEach es X.env := by rfl)
    (hpl : (backTo pos (starEach es X.env)).any (·.1) = false := by rfl) : PS X (.Raise (some (.Call (.Name x p) (e :: es) [] pos)) none pos2) (tRaise1 (He.ga X.K x) f W ta) := by
  refine L2N.ps_raise hc tk (pmk_oexN T.c T.ini T.ty F1 hr hb pass0 hg hm ha (M := fun vs H1 Q => ∃ v, vs = [v] ∧ ∀ d, H1 d = none → Q (.ref (He.ga X.K x)) (some d) (upd H1 d (.xd [(f, v)]))) (fun vs H1 Q hM => ?_) hdb he hpl)
  obtain ⟨v, rfl, q⟩ := hM
  refine ⟨(by show 1 ≤ 1000; decide), fun a na => ⟨a, v, rfl, T.c, T.no f hf, upd_same, fun dx nx ne => ⟨rfl, dx, [(f, v)], upd_same, ?_, ?_, ?_⟩⟩⟩
  · rw [upd_ne ne, upd_same]
  · rw [upd_ne ne] at nx; exact nx
  · have nx' : H1 dx = none := by rw [upd_ne ne] at nx; exact nx
    rw [heap_made (o := exo a (He.ga X.K x) none) na nx ne _ fun b hb hd => by rw [upd_ne hb, upd_ne hd, upd_ne hb]]
    exact q dx nx'
theorem ps_raise2 {fs : List Str} (T : Ex X.K x fs) (hf : f ∈ fs) (hgm : g ∈ fs) (hc : X.calm = true) (F1 : FnOk X.prog X.w X.K X.mg X.base CX0 1 (He.ma X.K (He.ga X.K x) "__init__") fd ps (sp_init2 X.K (He.ga X.K x) f g)) (hb : Binds X.K fd ps []) (hr : Room 2 X.A) (tk : L2N.Takes X W)
    (hm : X.mg x = some (.ref (He.ga X.K x))) (ha : PA X (e :: es) ta) (hg : Gl X x := by rfl) (hdb : (x == ("__debug__" : Str)) = false := by decide) (he : starEach (e :: es) X.env = (false, eval e X.env) :: starEach es X.env := by rfl)
    (hpl : (backTo pos (starEach es X.env)).any (·.1) = false := by rfl) : PS X (.Raise (some (.Call (.Name x p) (e :: es) [] pos)) none pos2) (tRaise2 (He.ga X.K x) f g W ta) := by
  refine L2N.ps_raise hc tk (pmk_oexN T.c T.ini T.ty F1 hr hb pass0 hg hm ha (M := fun vs H1 Q => ∃ v u, vs = [v, u] ∧ ∀ d, H1 d = none → Q (.ref (He.ga X.K x)) (some d) (upd H1 d (.xd [(g, u), (f, v)]))) (fun vs H1 Q hM => ?_) hdb he hpl)
  obtain ⟨v, u, rfl, q⟩ := hM
  refine ⟨(by show 2 ≤ 1000; decide), fun a na => ⟨a, v, u, rfl, T.c, T.no f hf, T.no g hgm, upd_same, fun dx nx ne => ⟨rfl, dx, [(g, u), (f, v)], ?_, upd_same, ?_, ?_⟩⟩⟩
  · rw [upd_ne (Ne.symm ne), upd_same]
  · rw [upd_ne ne] at nx; exact nx
  · have nx' : H1 dx = none := by rw [upd_ne ne] at nx; exact nx
    rw [heap_made (o := exo a (He.ga X.K x) none) na nx ne _ fun b hb hd => by rw [upd_ne hd, upd_ne hb, upd_ne hd, upd_ne hb]]
    exact q dx nx'
end
end Kx
set_option Elab.async false
set_option linter.all false
set_option maxRecDepth 100000
set_option maxHeartbeats 2000000
namespace Kx
open PySem PySem.Spec PyProof.Rows L2
theorem b_all : bootBuiltins "all" = some (.builtin "all") := by decide +kernel
theorem itemsD_kd {d : PyData} (h : (kd d == .lst || kd d == .tup) = true) : ∃ ds, itemsD d = some ds := by
  cases d <;> first | exact ⟨_, rfl⟩ | (exact Bool.noConfusion h)
theorem itemsD_none {d : PyData} (h : (kd d == .lst || kd d == .tup) = false) : itemsD d = none := by
  cases d <;> first | rfl | (exact Bool.noConfusion h)
/-- the first that is not so -/
def firstBad (p : PyData → Bool) : List PyData → Int → Option Int
  | [], _ => none
  | d :: ds, k => if p d then firstBad p ds (k + 1) else some k
/-- the sequence that stands there -/
theorem rp_seq {H : Hp} {v : V} {d : PyData} {ds : List PyData} (h : Rp H v d) (e : itemsD d = some ds) : ∃ a xs, v = .ref a ∧ RpL H xs ds ∧ (H a = some (.lst xs) ∨ H a = some (.tup xs)) := by
  cases h with
  | lst e1 h1 => cases e; exact ⟨_, _, rfl, h1, .inl e1⟩
  | tup e1 h1 => cases e; exact ⟨_, _, rfl, h1, .inr e1⟩
  | _ => cases e
theorem lenV_seq {K : PySem.W.Frag} {H : Hp} {a : Addr} {xs : List V} (h : H a = some (.lst xs) ∨ H a = some (.tup xs)) : LenV K (.ref a) H xs.length := by
  rcases h with h | h
  · exact .inl ⟨xs, SqL.of h, rfl⟩
  · exact .inr ⟨xs, SqT.of h, rfl⟩
theorem src_seq {K : PySem.W.Frag} {H : Hp} {a : Addr} {xs : List V} (h : H a = some (.lst xs) ∨ H a = some (.tup xs)) : ∃ G, Src K (.ref a) xs.length G (fun i v => xs[i]? = some v) ∧ G H ∧ ∀ H', Same H H' → G H' := by
  rcases h with h | h
  · exact ⟨_, .lst a xs, h, fun H' s => s _ _ h⟩
  · exact ⟨_, .tup a xs, h, fun H' s => s _ _ h⟩
theorem lenV_str {K : PySem.W.Frag} {H : Hp} {z : Str} (h : z.length ≤ 100000) : LenV K (.str z) H z.length := ⟨Nat.le_trans h (by decide), rfl⟩
theorem dec_int (i j : Int) : decide (V.int i = V.int j) = decide (i = j) := by
  by_cases h : i = j
  · rw [h]; simp
  · simp [h]
end Kx
set_option Elab.async false
set_option linter.all false
set_option maxRecDepth 100000
set_option maxHeartbeats 2000000
namespace Kx
open PySem PySem.Spec PyProof.Rows L2
theorem cut1 (z : Str) : (cutS z (some 1) none).cps.toList = z.cps.toList.drop 1 := by
  unfold cutS
  have hz : z.cps.toList.length = z.length := Array.length_toList
  have e1 : HT.sIx z.length 0 (some 1) = min 1 z.length := by
    unfold HT.sIx
    simp
    try omega
  have e2 : HT.sIx z.length z.length none = z.length := rfl
  rw [e1, e2]
  show ((z.cps.toList.drop (min 1 z.length)).take (z.length - min 1 z.length)) = _
  rw [List.take_of_length_le (by rw [List.length_drop, hz]; exact Nat.le_refl _)]
  by_cases h : 1 ≤ z.length
  · rw [Nat.min_eq_left h]
  · have : z.length = 0 := by omega
    have hl : z.cps.toList = [] := List.length_eq_zero_iff.mp (by rw [hz]; exact this)
    rw [hl]
    simp
/-! ### alphabets -/
def lettersL : List Nat := ("abcdefgh" : Str).cps.toList
def ascL (l : List Nat) : Bool := (l.zip (l.drop 1)).all fun p => decide ([p.1] < [p.2])
def alphaL (l : List Nat) : Bool := decide (1 ≤ l.length ∧ l.length ≤ 8) && (l.all (fun c => decide (c ∈ lettersL)) && ascL l)
def alphaD : PyData → Bool
  | .str z => alphaL z.cps.toList
  | _ => false
/-- a text that is passed is not very long -/
def smallT (d : PyData) : Prop := ∀ z, d = .str z → z.length ≤ 100000
theorem len_abc : ("abcdefgh" : Str).length = 8 := by decide +kernel
section
variable {P : Program} {w : World} {K : PySem.W.Frag} {mg : Str → Option Value} {base : Heap}
def sp_is_alphabet : Sp := fun vs H Q _ => ∃ (v : V) (d : PyData), vs = [v] ∧ Rp H v d ∧ smallT d ∧ ∀ H', Same H H' → Q (.bl (alphaD d)) H'
theorem kd_str {d : PyData} (h : (kd d).is "str" = true) : ∃ z, d = .str z := by
  cases d <;> first | exact ⟨_, rfl⟩ | (exact Bool.noConfusion h)
theorem kd_nstr {d : PyData} (h : (kd d).is "str" = false) : alphaD d = false := by
  cases d <;> first | rfl | (exact Bool.noConfusion h)
/-- a list of bools that was just made is what all is asked of -/
theorem bls_of {acc : List V} {bs : List Bool} (hl : acc.length = bs.length) (h : ∀ (i : Nat) (v : V), acc[i]? = some v → ∀ b, bs[i]? = some b → v = .bl b) : acc = bs.map V.bl := by
  apply List.ext_getElem?
  intro i
  by_cases hi : i < bs.length
  · have h1 : acc[i]? = some (acc[i]'(by omega)) := List.getElem?_eq_getElem (by omega)
    rw [h1, h i _ h1 bs[i] (List.getElem?_eq_getElem hi)]
    simp [hi]
  · rw [List.getElem?_eq_none (by omega), List.getElem?_eq_none (by simp; omega)]
theorem ok_is_alphabet (T : Txt K mg) : Cal P w K mg base CX0 1 "is_alphabet" ["thing"] sp_is_alphabet := by
  obtain ⟨fd, F⟩ := F_is_alphabet T
  obtain ⟨t8, h8⟩ := T.s_LETTERS
  refine cal_mk F (g_is_alphabet T) sc_is_alphabet (fun _ _ _ _ _ _ us hl => match us, hl with | [_], _ => rfl) (fun vs H Q E h => ?_) (fun cdv A outer s H vs Q E hr h => ?_)
  · obtain ⟨v, d, rfl, _⟩ := h; rfl
  · refine ⟨_, PSs.nox (pss_cons (ps_if (PW.pt (pw_or (pt_not (pt_val (pe_callB call_isB (by rfl) (fr_isinstance T) b_isinstance (pa_cons (pv 0) (pa_cons (pe_ty (fr_str T) b_str) pa_nil)))))
        (pw_or1 (pt_not (pt_chain op_le op_le pe_int (pe_callB call_len (by rfl) (fr_len T) boot_len (pa_cons (pv 0) pa_nil)) (pe_callB call_len (by rfl) (fr_len T) boot_len (pa_cons (pe_glob (v := .str "abcdefgh") (by rfl) h8 ⟨t8, rfl⟩) pa_nil))))))) (pss_one (ps_ret pe_bl)) pss_nil)
      (pss_cons (ps_set (i := 1) sc_is_alphabet.nd rfl (Or.inl rfl) (pe_callB (cr_all rfl) (by rfl) (fr_all T) b_all (pa_cons (pe_lc (own := [("letter", 2)]) (g := gName 2) (tt := tYes) rfl sc_is_alphabet.nd (pi_str (pv 0)) (blkOk_by (N := N_is_alphabet) (sc := defScope s_is_alphabet) (by decide +kernel))
        (fun _ _ _ _ _ => pg_name (i := 2) sc_is_alphabet.nd rfl (Or.inl rfl)) (fun _ _ _ _ _ => pts_nil) (fun _ _ _ _ _ => pe_cmpR op_in_sign (pv 2) (pe_glob (v := .str "abcdefgh") (by rfl) h8 ⟨t8, rfl⟩) rfl)) pa_nil)))
      (pss_one (ps_ret (pe_and (pv 1) (pe_one (pe_callB (cr_all rfl) (by rfl) (fr_all T) b_all (pa_cons (pe_lc (own := [("one", 3), ("other", 4)]) (g := gTup K 2 (gCons (gName 3) (gCons (gName 4) gNil))) (tt := tYes) rfl sc_is_alphabet.nd
        (pi_zip2S (by rfl) (fr_zip T) (pa_cons (pv 0) (pa_cons (pe_slice sl_str (pv 0) (po_some pe_int) po_none) pa_nil))) (blkOk_by (N := N_is_alphabet) (sc := defScope s_is_alphabet) (by decide +kernel))
        (fun _ _ _ _ _ => by exact pg_tup rfl (pgs_cons (pg_name (i := 3) sc_is_alphabet.nd rfl (Or.inl rfl)) (pgs_cons (pg_name (i := 4) sc_is_alphabet.nd rfl (Or.inl rfl)) pgs_nil))) (fun _ _ _ _ _ => pts_nil) (fun _ _ _ _ _ => pe_cmpR op_lt_str (pv 3) (pv 4) (nomark _))) pa_nil)))))))), ?_⟩
    obtain ⟨v, d, rfl, rd, sm, q⟩ := h
    refine ⟨v, rfl, v, "str", kd d, rfl, rd.ko, k_str _, _, rfl, ?_⟩
    cases hb : (kd d).is "str" with
    | false =>
      refine iteT (iteT ?_)
      rw [kd_nstr hb] at q
      exact q H (Same.refl H)
    | true =>
      refine iteF ?_
      obtain ⟨z, rfl⟩ := kd_str hb
      cases rd
      have hz : z.cps.toList.length = z.length := Array.length_toList
      have hzs : z.length ≤ 100000 := sm z rfl
      have hal : ¬ (1 ≤ z.length ∧ z.length ≤ 8) → alphaD (.str z) = false := fun hn => by
        show alphaL z.cps.toList = false
        unfold alphaL
        rw [hz, decide_eq_false hn, Bool.false_and]
      refine ⟨.str z, rfl, _, _, rfl, lenV_str hzs, 1, _, rfl, rfl, _, rfl, ?_⟩
      by_cases h1 : (1 : Int) ≤ (z.length : Int)
      · rw [decide_eq_true h1]
        refine iteT ⟨.str "abcdefgh", 8, rfl, ⟨by decide, len_abc.symm⟩, _, _, rfl, rfl, _, rfl, ?_⟩
        by_cases h2 : (z.length : Int) ≤ ((8 : Nat) : Int)
        · rw [decide_eq_true h2]
          refine iteF ?_
          refine ⟨.str z, rfl, z, rfl, fun D hD => ?_⟩
          refine lc_new walk_str hD (Nat.le_trans (by show z.length ≤ 100000; exact hzs) (by decide)) (fun (i : Nat) _ v => ∀ c, z.cps.toList[i]? = some c → v = V.bl (decide (c ∈ lettersL))) (fun _ _ _ _ _ h => h) (fun _ _ => trivial)
            (fun i x H2 H3 Qk hi sH hy hk => ?_) (fun H2 acc s2 hD2 hl hv => ?_)
          · obtain ⟨e, c, hc, rfl⟩ := hy
            subst e
            refine ⟨rfl, .str ⟨#[c]⟩, rfl, c, "abcdefgh", rfl, rfl, hk _ _ (Same.refl _) fun c' hc' => ?_⟩
            rw [Array.getElem?_toList, hc] at hc'
            cases hc'
            rfl
          · have ea : acc = (z.cps.toList.map fun c => decide (c ∈ lettersL)).map V.bl := by
              refine bls_of (by rw [List.length_map, hz]; exact hl) fun i v hi b hb => ?_
              rw [List.getElem?_map] at hb
              cases hc : z.cps.toList[i]? with
              | none => rw [hc] at hb; cases hb
              | some c =>
                rw [hc] at hb
                cases hb
                exact hv i v hi c hc
            refine ⟨D, _, rfl, SqL.of (by rw [hD2, ea]), ?_⟩
            refine ⟨_, rfl, _, rfl, ?_⟩
            have hmain : alphaD (.str z) = ((z.cps.toList.map fun c => decide (c ∈ lettersL)).all id && ascL z.cps.toList) := by
              show alphaL z.cps.toList = _
              unfold alphaL
              have hn : 1 ≤ z.length ∧ z.length ≤ 8 := by omega
              rw [hz, decide_eq_true hn, Bool.true_and, List.all_map]
              rfl
            cases hk1 : (z.cps.toList.map fun c => decide (c ∈ lettersL)).all id with
            | false =>
              refine iteF ?_
              rw [hmain, hk1, Bool.false_and] at q
              exact q H2 s2
            | true =>
              refine iteT ?_
              rw [hmain, hk1, Bool.true_and] at q
              refine ⟨.str z, rfl, .str z, rfl, 1, rfl, z, rfl, Nat.le_trans hzs (by decide), .str z, _, _, _, .str (cutS z (some 1) none), _, _, _, rfl, .txt z, .txt _, trivial, trivial, fun D2 hD3 => ?_⟩
              have hz2 : (cutS z (some 1) none).cps.size = z.length - 1 := by
                rw [← Array.length_toList, cut1, List.length_drop, hz]
              have hmin : min z.cps.size (cutS z (some 1) none).cps.size = z.length - 1 := by
                rw [hz2]
                show min z.length (z.length - 1) = z.length - 1
                omega
              refine lc_new (walk_new (n := min z.cps.size (cutS z (some 1) none).cps.size)) hD3 (by rw [hmin]; exact Nat.le_trans (Nat.sub_le _ _) (Nat.le_trans hzs (by decide)))
                (fun (i : Nat) _ v => ∀ c d, z.cps.toList[i]? = some c → (z.cps.toList.drop 1)[i]? = some d → v = V.bl (decide ([c] < [d]))) (fun _ _ _ _ _ h => h) (fun _ _ => ⟨trivial, trivial⟩)
                (fun i x H3 H4 Qk hi sH hy hk => ?_) (fun H3 acc2 s3 hD4 hl2 hv2 => ?_)
              · obtain ⟨Tt, vs, rfl, hTn, rfl, a, b, rfl, ⟨c, hc, rfl⟩, ⟨d, hd, rfl⟩⟩ := hy
                have s4 : Same H3 (upd H3 Tt (.tup [.str ⟨#[c]⟩, .str ⟨#[d]⟩])) := fun b o e => by rw [upd_ne (ne_of_none e hTn)]; exact e
                refine ⟨Tt, _, rfl, SqT.of upd_same, rfl, _, _, rfl, _, _, rfl, rfl, rfl, _, rfl, _, rfl, ⟨#[c]⟩, ⟨#[d]⟩, rfl, rfl, hk _ _ s4 fun c' d' hc' hd' => ?_⟩
                rw [Array.getElem?_toList, hc] at hc'
                rw [← cut1, Array.getElem?_toList, hd] at hd'
                cases hc'
                cases hd'
                rfl
              · have ea2 : acc2 = ((z.cps.toList.zip (z.cps.toList.drop 1)).map fun p => decide ([p.1] < [p.2])).map V.bl := by
                  refine bls_of (by rw [List.length_map, List.length_zip, List.length_drop, hz, hl2, hmin]; omega) fun i v hi b hb => ?_
                  rw [List.getElem?_map] at hb
                  cases hp : (z.cps.toList.zip (z.cps.toList.drop 1))[i]? with
                  | none => rw [hp] at hb; cases hb
                  | some p =>
                    rw [hp] at hb
                    cases hb
                    obtain ⟨h5, h6⟩ := List.getElem?_zip_eq_some.mp hp
                    exact hv2 i v hi _ _ h5 h6
                refine ⟨D2, _, rfl, SqL.of (by rw [hD4, ea2]), ?_⟩
                have e5 : ((z.cps.toList.zip (z.cps.toList.drop 1)).map fun p => decide ([p.1] < [p.2])).all id = ascL z.cps.toList := by
                  unfold ascL
                  rw [List.all_map]
                  rfl
                rw [e5]
                exact q H3 (s2.trans s3)
        · rw [decide_eq_false h2]
          refine iteT ?_
          rw [hal (by omega)] at q
          exact q H (Same.refl H)
      · rw [decide_eq_false h1]
        refine iteF ⟨_, rfl, ?_⟩
        refine iteT ?_
        rw [hal (by omega)] at q
        exact q H (Same.refl H)
end
end Kx
set_option Elab.async false
set_option linter.all false
set_option maxRecDepth 100000
set_option maxHeartbeats 2000000
namespace Kx
open PySem PySem.Spec PyProof.Rows L2
/-- a one-field error, at every new own dict -/
def errAt (C : Addr) (f : Str) (v : V) (H : Hp) (E : XK) : Prop := ∀ H', Same H H' → ∀ dx, H' dx = none → E (.ref C) (some dx) (upd H' dx (.xd [(f, v)]))
section
variable {P : Program} {w : World} {K : PySem.W.Frag} {mg : Str → Option Value} {base : Heap}
def sp_check_alphabet (K : PySem.W.Frag) : Sp := fun vs H Q E => ∃ (v : V) (d : PyData), vs = [v] ∧ Rp H v d ∧ smallT d ∧ (alphaD d = false → errAt (He.ga K "BadAlphabet") "thing" v H E) ∧ (alphaD d = true → ∀ H', Same H H' → Q .non H')
theorem ok_check_alphabet (T : Txt K mg) : Cal P w K mg base (L2N.CX P w) 3 "check_alphabet" ["thing"] (sp_check_alphabet K) := by
  obtain ⟨fd, F⟩ := F_check_alphabet T
  obtain ⟨fdR, FR⟩ := F_BadAlphabet___init__ T
  have bR : Binds K fdR ["self", "thing"] [] := FR.bindsN fun _ _ _ _ _ _ us hl => match us, hl with | [_, _], _ => rfl
  have ex : Ex K "BadAlphabet" ["thing"] := ex_of T 0
  refine cal_mk F (g_check_alphabet T) sc_check_alphabet (fun _ _ _ _ _ _ us hl => match us, hl with | [_], _ => rfl) (fun vs H Q E h => ?_) (fun cdv A outer s H vs Q E hr h => ?_)
  · obtain ⟨v, d, rfl, _⟩ := h; rfl
  · refine ⟨_, pss_one (ps_if (pt_not (pt_val (pe_cal (ok_is_alphabet T) (hr.mono (by decide)) pass0 (pa_cons (pv 0) pa_nil))))
      (pss_one (ps_raise1 ex (f := "thing") (by decide) rfl (ini_thing FR) bR hr (L2N.takes_of rfl rfl rfl rfl) (g_BadAlphabet T) (pa_cons (pv 0) pa_nil))) pss_nil), ?_⟩
    obtain ⟨v, d, rfl, rd, sm, kE, kQ⟩ := h
    refine ⟨v, rfl, v, d, rfl, rd, sm, fun H1 s1 => ⟨_, rfl, ?_⟩⟩
    cases hb : alphaD d with
    | false => exact iteT ⟨v, rfl, v, rfl, fun dx hd => kE hb H1 s1 dx hd⟩
    | true => exact iteF (kQ hb H1 s1)
/-! ### letters -/
def letterL (al : List Nat) : PyData → Bool
  | .str z => match z.cps.toList with
    | [c] => decide (c ∈ al)
    | _ => false
  | _ => false
def sp_is_letter : Sp := fun vs H Q _ => ∃ (al : Str) (v : V) (d : PyData), vs = [.str al, v] ∧ Rp H v d ∧ smallT d ∧ Q (.bl (letterL al.cps.toList d)) H
theorem kd_nstr2 {d : PyData} {al : List Nat} (h : (kd d).is "str" = false) : letterL al d = false := by
  cases d <;> first | rfl | (exact Bool.noConfusion h)
theorem ok_is_letter (T : Txt K mg) : Cal P w K mg base CX0 1 "is_letter" ["alphabet", "thing"] sp_is_letter := by
  obtain ⟨fd, F⟩ := F_is_letter T
  refine cal_mk F (g_is_letter T) sc_is_letter (fun _ _ _ _ _ _ us hl => match us, hl with | [_, _], _ => rfl) (fun vs H Q E h => ?_) (fun cdv A outer s H vs Q E hr h => ?_)
  · obtain ⟨al, v, d, rfl, _⟩ := h; rfl
  · refine ⟨_, PSs.nox (pss_one (ps_ret (pe_and (pe_callB call_isB (by rfl) (fr_isinstance T) b_isinstance (pa_cons (pv 1) (pa_cons (pe_ty (fr_str T) b_str) pa_nil)))
      (pe_and (pe_cmpR op_eq (pe_callB call_len (by rfl) (fr_len T) boot_len (pa_cons (pv 1) pa_nil)) pe_int (nomark _)) (pe_one (pe_cmpR op_in_sign (pv 1) (pv 0) rfl)))))), ?_⟩
    obtain ⟨al, v, d, rfl, rd, sm, q⟩ := h
    refine ⟨v, rfl, v, "str", kd d, rfl, rd.ko, k_str _, _, rfl, ?_⟩
    cases hb : (kd d).is "str" with
    | false =>
      refine iteF ?_
      rw [kd_nstr2 hb] at q
      exact q
    | true =>
      refine iteT ?_
      obtain ⟨z, rfl⟩ := kd_str hb
      cases rd
      have hz : z.cps.toList.length = z.length := Array.length_toList
      refine ⟨.str z, rfl, _, _, rfl, lenV_str (sm z rfl), rfl, _, rfl, ?_⟩
      rw [show decide (V.int (z.length : Int) = V.int 1) = decide ((z.length : Int) = 1) from dec_int _ _]
      by_cases h1 : (z.length : Int) = 1
      · rw [decide_eq_true h1]
        refine iteT ?_
        cases hl : z.cps.toList with
        | nil => rw [hl] at hz; simp at hz; omega
        | cons c r =>
          cases r with
          | cons c2 r2 => rw [hl] at hz; simp at hz; omega
          | nil =>
            have ez : z = ⟨#[c]⟩ := by
              obtain ⟨⟨l⟩⟩ := z
              have hl' : l = [c] := hl
              rw [hl']
            subst ez
            exact ⟨_, rfl, _, rfl, c, al, rfl, rfl, q⟩
      · rw [decide_eq_false h1]
        refine iteF ?_
        have e : letterL al.cps.toList (.str z) = false := by
          show (match z.cps.toList with | [c] => decide (c ∈ al.cps.toList) | _ => false) = false
          split
          · rename_i c hc
            rw [hc] at hz
            simp at hz
            omega
          · rfl
        rw [e] at q
        exact q
end
end Kx
set_option Elab.async false
set_option linter.all false
set_option maxRecDepth 100000
set_option maxHeartbeats 2000000
namespace Kx
open PySem PySem.Spec PyProof.Rows L2
section
variable {P : Program} {w : World} {K : PySem.W.Frag} {mg : Str → Option Value} {base : Heap}
def firstNot (al : List Nat) : List Nat → Nat → Option Int
  | [], _ => none
  | c :: cs, k => if c ∈ al then firstNot al cs (k + 1) else some (k : Nat)
def wrongL (al : List Nat) : PyData → Option Int
  | .str z => if z.length ≤ 200 then firstNot al z.cps.toList 0 else some (-1)
  | _ => some (-1)
theorem firstNot_at {al : List Nat} : ∀ {cs : List Nat} {k i c : Nat}, cs[i]? = some c → (∀ j x, j < i → cs[j]? = some x → x ∈ al) → c ∉ al → firstNot al cs k = some ((k + i : Nat) : Int)
  | [], _, i, _, h, _, _ => by simp at h
  | d :: cs, k, 0, x, h, _, hp => by
    have e : d = x := by simpa using h
    unfold firstNot
    rw [e, if_neg hp]
    rfl
  | d :: cs, k, i + 1, x, h, ha, hp => by
    have h0 := ha 0 d (Nat.succ_pos _) rfl
    unfold firstNot
    rw [if_pos h0, firstNot_at (k := k + 1) (i := i) (by simpa using h) (fun j y hj hy => ha (j + 1) y (by omega) (by simpa using hy)) hp]
    congr 2
    omega
theorem firstNot_none {al : List Nat} : ∀ {cs : List Nat} {k : Nat}, (∀ (j : Nat) x, cs[j]? = some x → x ∈ al) → firstNot al cs k = none
  | [], _, _ => rfl
  | d :: cs, k, h => by
    unfold firstNot
    rw [if_pos (h 0 d rfl)]
    exact firstNot_none fun j y hy => h (j + 1) y (by simpa using hy)
def optV : Option Int → V
  | none => .non
  | some k => .int k
def sp_wrong_at : Sp := fun vs H Q _ => ∃ (al : Str) (v : V) (d : PyData), vs = [.str al, v] ∧ Rp H v d ∧ smallT d ∧ ∀ H', Same H H' → Q (optV (wrongL al.cps.toList d)) H'
theorem kd_nstr3 {d : PyData} {al : List Nat} (h : (kd d).is "str" = false) : wrongL al d = some (-1) := by
  cases d <;> first | rfl | (exact Bool.noConfusion h)
theorem ok_wrong_at (T : Txt K mg) : Cal P w K mg base CX0 1 "wrong_at" ["alphabet", "thing"] sp_wrong_at := by
  obtain ⟨fd, F⟩ := F_wrong_at T
  obtain ⟨t2, h200⟩ := T.i_MOST_LETTERS
  refine cal_mk F (g_wrong_at T) sc_wrong_at (fun _ _ _ _ _ _ us hl => match us, hl with | [_, _], _ => rfl) (fun vs H Q E h => ?_) (fun cdv A outer s H vs Q E hr h => ?_)
  · obtain ⟨al, v, d, rfl, _⟩ := h; rfl
  · refine ⟨_, PSs.nox (pss_cons (ps_if (PW.pt (pw_or (pt_not (pt_val (pe_callB call_isB (by rfl) (fr_isinstance T) b_isinstance (pa_cons (pv 1) (pa_cons (pe_ty (fr_str T) b_str) pa_nil)))))
        (pw_or1 (pt_cmpR op_gt (pe_callB call_len (by rfl) (fr_len T) boot_len (pa_cons (pv 1) pa_nil)) (pe_glob (v := .int 200) (by rfl) h200 ⟨t2, rfl⟩) (nomark _))))) (pss_one (ps_ret (pe_un un_neg pe_int))) pss_nil)
      (pss_cons (ps_for PassesOwn.never rfl (pi_enumS (by rfl) (fr_enumerate T) (pa_cons (pv 1) pa_nil)) (pg_tup rfl (pgs_cons (pg_name (i := 2) sc_wrong_at.nd rfl (Or.inl rfl)) (pgs_cons (pg_name (i := 3) sc_wrong_at.nd rfl (Or.inl rfl)) pgs_nil)))
        (pss_one (ps_if (pt_cmpR op_notIn_sign (pv 3) (pv 0) rfl) (pss_one (ps_ret (pv 2))) pss_nil)))
      (pss_one (ps_ret pe_non)))), ?_⟩
    obtain ⟨al, v, d, rfl, rd, sm, q⟩ := h
    refine ⟨v, rfl, v, "str", kd d, rfl, rd.ko, k_str _, _, rfl, ?_⟩
    cases hb : (kd d).is "str" with
    | false =>
      refine iteT (iteT ?_)
      rw [kd_nstr3 hb] at q
      exact ⟨1, rfl, q H (Same.refl H)⟩
    | true =>
      refine iteF ?_
      obtain ⟨z, rfl⟩ := kd_str hb
      cases rd
      have hz : z.cps.toList.length = z.length := Array.length_toList
      refine ⟨.str z, rfl, _, _, rfl, lenV_str (sm z rfl), _, 200, rfl, rfl, _, rfl, ?_⟩
      by_cases h1 : (z.length : Int) > 200
      · rw [decide_eq_true h1]
        refine iteT ⟨1, rfl, ?_⟩
        have e : wrongL al.cps.toList (.str z) = some (-1) := if_neg (by omega)
        rw [e] at q
        exact q H (Same.refl H)
      · rw [decide_eq_false h1]
        refine iteF ?_
        have e : wrongL al.cps.toList (.str z) = firstNot al.cps.toList z.cps.toList 0 := if_pos (by omega)
        rw [e] at q
        refine ⟨_, rfl, .str z, _, _, _, rfl, .txt z, trivial, for_it walk_new (fun i σ H2 => ∃ (v2 v3 : Option V), σ = [some (.str al), some (.str z), v2, v3] ∧ Same H H2 ∧ ∀ (j : Nat) x, j < i → z.cps.toList[j]? = some x → x ∈ al.cps.toList)
          ⟨none, none, rfl, Same.refl H, fun j x hj => absurd hj (Nat.not_lt_zero _)⟩ (fun _ _ _ _ _ => trivial) ?_ ?_⟩
        · rintro i x σ H2 H3 hi ⟨v2, v3, rfl, s2, hall⟩ ⟨Tt, vs, rfl, hTn, rfl, y, rfl, c, hc, rfl⟩
          have s4 : Same H2 (upd H2 Tt (.tup [.int (i : Nat), .str ⟨#[c]⟩])) := fun b o e => by rw [upd_ne (ne_of_none e hTn)]; exact e
          have hc' : z.cps.toList[i]? = some c := by rw [Array.getElem?_toList]; exact hc
          refine ⟨Tt, _, rfl, SqT.of upd_same, rfl, _, _, rfl, _, _, rfl, rfl, .str ⟨#[c]⟩, rfl, .str al, rfl, c, al, rfl, rfl, _, rfl, ?_⟩
          by_cases hm : c ∈ al.cps.toList
          · rw [decide_eq_true hm]
            refine iteF ⟨_, _, rfl, s2.trans s4, fun j x hj hx => ?_⟩
            by_cases hji : j < i
            · exact hall j x hji hx
            · have : j = i := by omega
              subst this
              rw [hc'] at hx
              cases hx
              exact hm
          · rw [decide_eq_false hm]
            refine iteT ⟨.int (i : Nat), rfl, ?_⟩
            rw [firstNot_at hc' hall hm, Nat.zero_add] at q
            exact q _ (s2.trans s4)
        · rintro σ H2 ⟨v2, v3, rfl, s2, hall⟩
          rw [firstNot_none fun j x hx => hall j x (by rw [← Array.length_toList]; exact (List.getElem?_eq_some_iff.mp hx).1) hx] at q
          exact q H2 s2
def sp_check_row (K : PySem.W.Frag) : Sp := fun vs H Q E => ∃ (al : Str) (v : V) (d : PyData), vs = [.str al, v] ∧ Rp H v d ∧ smallT d ∧ (∀ k, wrongL al.cps.toList d = some k → errAt (He.ga K "BadRow") "at" (.int k) H E) ∧ (wrongL al.cps.toList d = none → ∀ H', Same H H' → Q .non H')
theorem ok_check_row (T : Txt K mg) : Cal P w K mg base (L2N.CX P w) 3 "check_row" ["alphabet", "thing"] (sp_check_row K) := by
  obtain ⟨fd, F⟩ := F_check_row T
  obtain ⟨fdR, FR⟩ := F_BadRow___init__ T
  have bR : Binds K fdR ["self", "at"] [] := FR.bindsN fun _ _ _ _ _ _ us hl => match us, hl with | [_, _], _ => rfl
  have ex : Ex K "BadRow" ["at"] := ex_of T 5
  refine cal_mk F (g_check_row T) sc_check_row (fun _ _ _ _ _ _ us hl => match us, hl with | [_, _], _ => rfl) (fun vs H Q E h => ?_) (fun cdv A outer s H vs Q E hr h => ?_)
  · obtain ⟨al, v, d, rfl, _⟩ := h; rfl
  · refine ⟨_, pss_cons (ps_set (i := 2) sc_check_row.nd rfl (Or.inl rfl) (pe_cal (ok_wrong_at T) (hr.mono (by decide)) pass0 (pa_cons (pv 0) (pa_cons (pv 1) pa_nil))))
      (pss_one (ps_if (pt_cmpR op_notN (pv 2) pe_non (nomark _)) (pss_one (ps_raise1 ex (f := "at") (by decide) rfl (ini_at FR) bR hr (L2N.takes_of rfl rfl rfl rfl) (g_BadRow T) (pa_cons (pv 2) pa_nil))) pss_nil)), ?_⟩
    obtain ⟨al, v, d, rfl, rd, sm, kE, kQ⟩ := h
    refine ⟨.str al, rfl, v, rfl, al, v, d, rfl, rd, sm, fun H1 s1 => ?_⟩
    cases hb : wrongL al.cps.toList d with
    | none =>
      refine ⟨_, rfl, rfl, _, rfl, ?_⟩
      exact iteF (kQ hb H1 s1)
    | some k =>
      refine ⟨_, rfl, rfl, _, rfl, ?_⟩
      exact iteT ⟨.int k, rfl, .int k, rfl, fun dx hd => kE k hb H1 s1 dx hd⟩
end
end Kx
set_option Elab.async false
set_option linter.all false
set_option maxRecDepth 100000
set_option maxHeartbeats 1000000
namespace Kx
open PySem PySem.Spec PyProof.Rows L2
section
variable {P : Program} {w : World} {K : PySem.W.Frag} {mg : Str → Option Value} {base : Heap}
/-! ### is_move -/
def moveD (l m : Int) (d : PyData) : Bool := match itemsD d with
  | some ds => decide ((ds.length : Int) = l) && ds.all (belowD m)
  | none => false
/-- a list or tuple of few things -/
def smallD (d : PyData) : Prop := ∀ ds, itemsD d = some ds → ds.length ≤ 100000
def sp_is_move (K : PySem.W.Frag) : Sp := fun vs H Q _ => ∃ (v : V) (d : PyData) (l m : Int), vs = [v, .int l, .int m] ∧ Rp H v d ∧ smallD d ∧ ∀ H', Same H H' → Q (.bl (moveD l m d)) H'
theorem ok_is_move (T : Txt K mg) : Cal P w K mg base CX0 3 "is_move" ["thing", "letters", "standings"] (sp_is_move K) := by
  obtain ⟨fd, F⟩ := F_is_move T
  refine cal_mk F (g_is_move T) sc_is_move (fun _ _ _ _ _ _ us hl => match us, hl with | [_, _, _], _ => rfl) (fun vs H Q E h => ?_) (fun cdv A outer s H vs Q E hr h => ?_)
  · obtain ⟨v, d, l, m, rfl, _⟩ := h; rfl
  · refine ⟨_, PSs.nox (pss_cons (ps_if (PW.pt (pw_or (pt_not (pt_val (pe_cal (ok_is_listing T) (hr.mono (by decide)) pass0 (pa_cons (pv 0) pa_nil))))
        (pw_or1 (pt_cmpR op_ne (pe_callB call_len (by rfl) (fr_len T) boot_len (pa_cons (pv 0) pa_nil)) (pv 1) (nomark _))))) (pss_one (ps_ret pe_bl)) pss_nil)
      (pss_one (ps_ret (pe_callB (cr_all rfl) (by rfl) (fr_all T) b_all (pa_cons (pe_lc (own := [("standing", 3)]) (g := gName 3) (tt := tYes) rfl sc_is_move.nd (pi_seq (pv 0)) (blkOk_by (N := N_is_move) (sc := defScope s_is_move) (by decide +kernel))
        (fun _ _ _ _ _ => pg_name (i := 3) sc_is_move.nd rfl (Or.inl rfl)) (fun _ _ _ _ _ => pts_nil) (fun _ _ _ _ _ => pe_cal (ok_is_below T) hr pass0 (pa_cons (pv 3) (pa_cons (pv 2) pa_nil)))) pa_nil))))), ?_⟩
    obtain ⟨v, d, l, m, rfl, rd, sm, q⟩ := h
    refine ⟨v, rfl, v, kd d, rfl, rd.ko, fun H1 s1 => ⟨_, rfl, ?_⟩⟩
    cases hb : (kd d == Kd.lst || kd d == Kd.tup) with
    | false =>
      refine iteT (iteT ?_)
      have e : moveD l m d = false := by unfold moveD; rw [itemsD_none hb]
      rw [e] at q
      exact q H1 s1
    | true =>
      refine iteF ?_
      obtain ⟨ds, hds⟩ := itemsD_kd hb
      have e : moveD l m d = (decide ((ds.length : Int) = l) && ds.all (belowD m)) := by unfold moveD; rw [hds]
      rw [e] at q
      -- the sequence at a
      obtain ⟨a, xs, rfl, hxs, hsq⟩ : ∃ a xs, v = .ref a ∧ RpL H1 xs ds ∧ ((H1 a = some (.lst xs)) ∨ H1 a = some (.tup xs)) := by
        have rd1 := rd.same s1
        cases rd1 with
        | lst e1 h1 => exact ⟨_, _, rfl, by cases hds; exact h1, .inl e1⟩
        | tup e1 h1 => exact ⟨_, _, rfl, by cases hds; exact h1, .inr e1⟩
        | _ => exact Bool.noConfusion hb
      have hl : xs.length = ds.length := hxs.length
      have hsz : xs.length ≤ sizeLine := Nat.le_trans (by rw [hl]; exact sm ds hds) (by decide)
      have hlen : LenV K (.ref a) H1 ds.length := by
        rcases hsq with h | h
        · exact .inl ⟨xs, SqL.of h, hl.symm⟩
        · exact .inr ⟨xs, SqT.of h, hl.symm⟩
      refine ⟨_, rfl, _, ds.length, rfl, hlen, _, rfl, rfl, _, rfl, ?_⟩
      by_cases hll : (ds.length : Int) = l
      · have e2 : (!decide (V.int (ds.length : Int) = V.int l)) = false := by rw [hll]; simp
        rw [e2]
        refine iteF ?_
        have hz : xs.length ≤ sizeLine := hsz
        have fin : ∀ (H' : Hp) (acc : List V) (D : Addr), Same H1 H' → H' D = some (.lst acc) → acc.length = xs.length → (∀ (i : Nat) (v : V), acc[i]? = some v → ∀ d, ds[i]? = some d → v = V.bl (belowD m d)) → ∃ (a : Addr) (bs : List Bool), [V.ref D] = [V.ref a] ∧ SqL K H' a (bs.map V.bl) ∧ Q (.bl (bs.all id)) H' := by
          intro H' acc D s' hD hla hacc
          have ea : acc = (ds.map (belowD m)).map V.bl := by
            apply List.ext_getElem?
            intro i
            by_cases hi : i < ds.length
            · have h1 : acc[i]? = some (acc[i]'(by omega)) := List.getElem?_eq_getElem (by omega)
              rw [h1, hacc i _ h1 ds[i] (List.getElem?_eq_getElem hi)]
              simp [hi]
            · rw [List.getElem?_eq_none (by omega), List.getElem?_eq_none (by simp; omega)]
          refine ⟨D, ds.map (belowD m), rfl, SqL.of (by rw [hD, ea]), ?_⟩
          have e3 : (ds.map (belowD m)).all id = ds.all (belowD m) := by rw [List.all_map]; rfl
          rw [e3]
          have e4 := q H' (s1.trans s')
          rw [hll, decide_eq_true rfl, Bool.true_and] at e4
          exact e4
        have turn : ∀ (i : Nat) (x : V) (H H' : Hp) (Qk : VK), i < xs.length → Same H1 H → YAt xs i H x H' → (∀ y H4, Same H H4 → (∀ d, ds[i]? = some d → y = V.bl (belowD m d)) → Qk y H4) → sp_is_below K [x, .int m] H' Qk E0 := by
          rintro i x H _ Qk hi sH ⟨rfl, hx⟩ hk
          obtain ⟨d', hd', rx⟩ := hxs.get hx
          have rx2 := rx.same sH
          refine ⟨x, m, kd d', rfl, rx2.ko, hk _ _ (Same.refl _) fun d e => ?_⟩
          rw [hd'] at e
          cases e
          rw [rp_below rx2 m]
        rcases hsq with h | h
        · refine ⟨_, rfl, a, xs, rfl, .inl ⟨SqL.of h, fun J WJ D hD => ?_⟩⟩
          exact lc_new WJ hD hz (fun (i : Nat) _ v => ∀ d, ds[i]? = some d → v = V.bl (belowD m d)) (fun _ _ _ _ _ h => h) (fun H s => SqL.of (s _ _ h))
            (fun i x H H' Qk hi sH hy hk => ⟨rfl, _, rfl, _, rfl, turn i x H H' Qk hi sH hy hk⟩) (fun H acc s hD hl h => fin H acc D s hD hl h)
        · refine ⟨_, rfl, a, xs, rfl, .inr ⟨SqT.of h, fun J WJ D hD => ?_⟩⟩
          exact lc_new WJ hD hz (fun (i : Nat) _ v => ∀ d, ds[i]? = some d → v = V.bl (belowD m d)) (fun _ _ _ _ _ h => h) (fun H s => SqT.of (s _ _ h))
            (fun i x H H' Qk hi sH hy hk => ⟨rfl, _, rfl, _, rfl, turn i x H H' Qk hi sH hy hk⟩) (fun H acc s hD hl h => fin H acc D s hD hl h)
      · have e2 : (!decide (V.int (ds.length : Int) = V.int l)) = true := by simp [hll]
        rw [e2]
        refine iteT ?_
        rw [decide_eq_false hll, Bool.false_and] at q
        exact q H1 s1
end
end Kx
set_option Elab.async false
set_option linter.all false
set_option maxRecDepth 100000
set_option maxHeartbeats 4000000
namespace Kx
open PySem PySem.Spec PyProof.Rows L2
/-! ### is_names -/
def namesL : List Nat := ("uvwxyz" : Str).cps.toList
def namesD : PyData → Bool
  | .str z => decide (z.length ≤ 4) && (z.cps.toList.all (fun c => decide (c ∈ namesL)) && ascL z.cps.toList)
  | _ => false
section
variable {P : Program} {w : World} {K : PySem.W.Frag} {mg : Str → Option Value} {base : Heap}
def sp_is_names : Sp := fun vs H Q _ => ∃ (v : V) (d : PyData), vs = [v] ∧ Rp H v d ∧ smallT d ∧ ∀ H', Same H H' → Q (.bl (namesD d)) H'
theorem kd_nstrN {d : PyData} (h : (kd d).is "str" = false) : namesD d = false := by
  cases d <;> first | rfl | (exact Bool.noConfusion h)
theorem ok_is_names (T : Txt K mg) : Cal P w K mg base CX0 2 "is_names" ["thing"] sp_is_names := by
  obtain ⟨fd, F⟩ := F_is_names T
  obtain ⟨t_NAMES, h_NAMES⟩ := T.s_NAMES
  obtain ⟨t_MOST_NAMES, h_MOST_NAMES⟩ := T.i_MOST_NAMES
  refine cal_mk F (g_is_names T) sc_is_names (fun _ _ _ _ _ _ us hl => match us, hl with | [_], _ => rfl) (fun vs H Q E h => ?_) (fun cdv A outer s H vs Q E hr h => ?_)
  · obtain ⟨v, d, rfl, _⟩ := h; rfl
  · refine ⟨_, PSs.nox (pss_cons (ps_if (PW.pt (pw_or (pt_not (pt_val (pe_callB call_isB (by rfl) (fr_isinstance T) b_isinstance (pa_cons (pv 0) (pa_cons (pe_ty (fr_str T) b_str) pa_nil))))) (pw_or1 (pt_cmpR op_gt (pe_callB call_len (by rfl) (fr_len T) boot_len (pa_cons (pv 0) pa_nil)) (pe_glob (v := .int 4) (by rfl) h_MOST_NAMES ⟨t_MOST_NAMES, rfl⟩) (nomark _))))) (pss_one (ps_ret pe_bl)) pss_nil)
        (pss_cons (ps_set (i := 1) sc_is_names.nd rfl (Or.inl rfl) (pe_callB (cr_all rfl) (by rfl) (fr_all T) b_all (pa_cons (pe_lc (own := [("name", 2)]) (g := (gName 2)) (tt := tYes) rfl sc_is_names.nd  (pi_str (pv 0)) (blkOk_by (N := N_is_names) (sc := defScope s_is_names) (by decide +kernel)) (fun _ _ _ _ _ => (pg_name (i := 2) sc_is_names.nd rfl (Or.inl rfl))) (fun _ _ _ _ _ => pts_nil) (fun _ _ _ _ _ => (pe_cal (ok_is_letter T) (hr.mono (by decide)) pass0 (pa_cons (pe_glob (v := .str "uvwxyz") (by rfl) h_NAMES ⟨t_NAMES, rfl⟩) (pa_cons (pv 2) pa_nil))))) pa_nil)))
        (pss_one (ps_ret (pe_and (pv 1) (pe_one (pe_callB (cr_all rfl) (by rfl) (fr_all T) b_all (pa_cons (pe_lc (own := [("one", 3), ("other", 4)]) (g := (gTup K 2 (gCons (gName 3) (gCons (gName 4) gNil)))) (tt := tYes) rfl sc_is_names.nd  (pi_zip2S (by rfl) (fr_zip T) (pa_cons (pv 0) (pa_cons (pe_slice sl_str (pv 0) (po_some pe_int) po_none) pa_nil))) (blkOk_by (N := N_is_names) (sc := defScope s_is_names) (by decide +kernel)) (fun _ _ _ _ _ => (pg_tup rfl (pgs_cons (pg_name (i := 3) sc_is_names.nd rfl (Or.inl rfl)) (pgs_cons (pg_name (i := 4) sc_is_names.nd rfl (Or.inl rfl)) pgs_nil)))) (fun _ _ _ _ _ => pts_nil) (fun _ _ _ _ _ => (pe_cmpR op_lt_str (pv 3) (pv 4) (nomark _)))) pa_nil)))))))), ?_⟩
    obtain ⟨v, d, rfl, rd, sm, q⟩ := h
    refine ⟨v, rfl, v, "str", kd d, rfl, rd.ko, k_str _, _, rfl, ?_⟩
    cases hb : (kd d).is "str" with
    | false =>
      refine iteT (iteT ?_)
      rw [kd_nstrN hb] at q
      exact q H (Same.refl H)
    | true =>
      refine iteF ?_
      obtain ⟨z, rfl⟩ := kd_str hb
      cases rd
      have hz : z.cps.toList.length = z.length := Array.length_toList
      have hzs : z.length ≤ 100000 := sm z rfl
      refine ⟨.str z, rfl, _, _, rfl, lenV_str hzs, _, 4, rfl, rfl, _, rfl, ?_⟩
      by_cases h2 : (z.length : Int) > 4
      · rw [decide_eq_true h2]
        refine iteT ?_
        have e : namesD (.str z) = false := by
          show (decide (z.length ≤ 4) && _) = false
          rw [decide_eq_false (by omega), Bool.false_and]
        rw [e] at q
        exact q H (Same.refl H)
      · rw [decide_eq_false h2]
        refine iteF ?_
        refine ⟨.str z, rfl, z, rfl, fun D hD => ?_⟩
        refine lc_new walk_str hD (Nat.le_trans (by show z.length ≤ 100000; exact hzs) (by decide)) (fun (i : Nat) _ v => ∀ c, z.cps.toList[i]? = some c → v = V.bl (decide (c ∈ namesL))) (fun _ _ _ _ _ h => h) (fun _ _ => trivial)
          (fun i x H2 H3 Qk hi sH hy hk => ?_) (fun H2 acc s2 hD2 hl hv => ?_)
        · obtain ⟨e, c, hc, rfl⟩ := hy
          subst e
          refine ⟨rfl, .str ⟨#[c]⟩, rfl, "uvwxyz", .str ⟨#[c]⟩, .str ⟨#[c]⟩, rfl, .str _, (fun z e => by cases e; show 1 ≤ 100000; decide), hk _ _ (Same.refl _) fun c' hc' => ?_⟩
          rw [Array.getElem?_toList, hc] at hc'
          cases hc'
          rfl
        · have ea : acc = (z.cps.toList.map fun c => decide (c ∈ namesL)).map V.bl := by
            refine bls_of (by rw [List.length_map, hz]; exact hl) fun i v hi b hb => ?_
            rw [List.getElem?_map] at hb
            cases hc : z.cps.toList[i]? with
            | none => rw [hc] at hb; cases hb
            | some c =>
              rw [hc] at hb
              cases hb
              exact hv i v hi c hc
          refine ⟨D, _, rfl, SqL.of (by rw [hD2, ea]), ?_⟩
          refine ⟨_, rfl, _, rfl, ?_⟩
          have hmain : namesD (.str z) = ((z.cps.toList.map fun c => decide (c ∈ namesL)).all id && ascL z.cps.toList) := by
            show (decide (z.length ≤ 4) && _) = _
            rw [decide_eq_true (by omega), Bool.true_and, List.all_map]
            rfl
          cases hk1 : (z.cps.toList.map fun c => decide (c ∈ namesL)).all id with
          | false =>
            refine iteF ?_
            rw [hmain, hk1, Bool.false_and] at q
            exact q H2 s2
          | true =>
            refine iteT ?_
            rw [hmain, hk1, Bool.true_and] at q
            refine ⟨.str z, rfl, .str z, rfl, 1, rfl, z, rfl, Nat.le_trans hzs (by decide), .str z, _, _, _, .str (cutS z (some 1) none), _, _, _, rfl, .txt z, .txt _, trivial, trivial, fun D2 hD3 => ?_⟩
            have hz2 : (cutS z (some 1) none).cps.size = z.length - 1 := by
              rw [← Array.length_toList, cut1, List.length_drop, hz]
            have hmin : min z.cps.size (cutS z (some 1) none).cps.size = z.length - 1 := by
              rw [hz2]
              show min z.length (z.length - 1) = z.length - 1
              omega
            refine lc_new (walk_new (n := min z.cps.size (cutS z (some 1) none).cps.size)) hD3 (by rw [hmin]; exact Nat.le_trans (Nat.sub_le _ _) (Nat.le_trans hzs (by decide)))
              (fun (i : Nat) _ v => ∀ c d, z.cps.toList[i]? = some c → (z.cps.toList.drop 1)[i]? = some d → v = V.bl (decide ([c] < [d]))) (fun _ _ _ _ _ h => h) (fun _ _ => ⟨trivial, trivial⟩)
              (fun i x H3 H4 Qk hi sH hy hk => ?_) (fun H3 acc2 s3 hD4 hl2 hv2 => ?_)
            · obtain ⟨Tt, vs, rfl, hTn, rfl, a, b, rfl, ⟨c, hc, rfl⟩, ⟨d, hd, rfl⟩⟩ := hy
              have s4 : Same H3 (upd H3 Tt (.tup [.str ⟨#[c]⟩, .str ⟨#[d]⟩])) := fun b o e => by rw [upd_ne (ne_of_none e hTn)]; exact e
              refine ⟨Tt, _, rfl, SqT.of upd_same, rfl, _, _, rfl, _, _, rfl, rfl, rfl, _, rfl, _, rfl, ⟨#[c]⟩, ⟨#[d]⟩, rfl, rfl, hk _ _ s4 fun c' d' hc' hd' => ?_⟩
              rw [Array.getElem?_toList, hc] at hc'
              rw [← cut1, Array.getElem?_toList, hd] at hd'
              cases hc'
              cases hd'
              rfl
            · have ea2 : acc2 = ((z.cps.toList.zip (z.cps.toList.drop 1)).map fun p => decide ([p.1] < [p.2])).map V.bl := by
                refine bls_of (by rw [List.length_map, List.length_zip, List.length_drop, hz, hl2, hmin]; omega) fun i v hi b hb => ?_
                rw [List.getElem?_map] at hb
                cases hp : (z.cps.toList.zip (z.cps.toList.drop 1))[i]? with
                | none => rw [hp] at hb; cases hb
                | some p =>
                  rw [hp] at hb
                  cases hb
                  obtain ⟨h5, h6⟩ := List.getElem?_zip_eq_some.mp hp
                  exact hv2 i v hi _ _ h5 h6
              refine ⟨D2, _, rfl, SqL.of (by rw [hD4, ea2]), ?_⟩
              have e5 : ((z.cps.toList.zip (z.cps.toList.drop 1)).map fun p => decide ([p.1] < [p.2])).all id = ascL z.cps.toList := by
                unfold ascL
                rw [List.all_map]
                rfl
              rw [e5]
              exact q H3 (s2.trans s3)
end
end Kx
set_option Elab.async false
set_option linter.all false
set_option maxRecDepth 100000
set_option maxHeartbeats 4000000
namespace Kx
open PySem PySem.Spec PyProof.Rows L2
theorem b_sum : bootBuiltins "sum" = some (.builtin "sum") := by decide +kernel
theorem b_set : bootBuiltins "set" = some (.type "set") := by decide +kernel
theorem b_sorted : bootBuiltins "sorted" = some (.builtin "sorted") := by decide +kernel
theorem same_upd {H : Hp} {p : Addr} {o : HO} (h : H p = none) : Same H (upd H p o) := fun b u e => by rw [upd_ne (ne_of_none e h)]; exact e
theorem same_over {H1 H : Hp} {D : Addr} {o : HO} (s : Same H1 H) (hD : H1 D = none) : Same H1 (upd H D o) := fun b u e => by
  rw [upd_ne (ne_of_none e hD)]
  exact s b u e
theorem rIxL_of {K : PySem.W.Frag} {H : Hp} {a : Addr} {xs : List V} {i : Nat} {v : V} {Q : VK} (h : H a = some (.lst xs)) (e : xs[i]? = some v) (q : Q v H) : rIxL K (.ref a) (.int (i : Nat)) H Q :=
  ⟨a, xs, _, v, rfl, rfl, SqL.of h, atI_nat e, q⟩
theorem sq_or {K : PySem.W.Frag} {H : Hp} {a : Addr} {xs : List V} {R : It → Hp → Prop} (h : H a = some (.lst xs) ∨ H a = some (.tup xs))
    (r : ∀ (J : It) (G : Hp → Prop), (∀ H', Same H H' → G H') → Walk J xs.length G (YAt xs) → R J H) :
    (SqL K H a xs ∧ ∀ J, Walk J xs.length (fun H => SqL K H a xs) (YAt xs) → R J H) ∨ (SqT K H a xs ∧ ∀ J, Walk J xs.length (fun H => SqT K H a xs) (YAt xs) → R J H) := by
  rcases h with h | h
  · exact .inl ⟨SqL.of h, fun J WJ => r J _ (fun H' s => SqL.of (s _ _ h)) WJ⟩
  · exact .inr ⟨SqT.of h, fun J WJ => r J _ (fun H' s => SqT.of (s _ _ h)) WJ⟩
theorem rIxL_last {K : PySem.W.Frag} {H : Hp} {a : Addr} {xs : List V} {v : V} {Q : VK} (h : H a = some (.lst (xs ++ [v]))) (q : Q v H) : rIxL K (.ref a) (.int (-1)) H Q :=
  ⟨a, _, _, v, rfl, rfl, SqL.of h, atI_last _ _, q⟩
theorem hu64 {A : Around} {k : Nat} (hr : Room k A) : A.units + 64 < cLine := by have := hr.un; omega
theorem hu1 {A : Around} {k : Nat} (hr : Room k A) : A.units + 1 < cLine := by have := hr.un; omega
def one1 (c : Nat) : Str := ⟨#[c]⟩
theorem errAt.same {C : Addr} {f : Str} {v : V} {H H' : Hp} {E : XK} (h : errAt C f v H E) (s : Same H H') : errAt C f v H' E := fun H2 s2 dx hd => h H2 (s.trans s2) dx hd
theorem list_of {α : Type} {n : Nat} {R : Nat → α → Prop} (h : ∀ i, i < n → ∃ a, R i a) : ∃ l : List α, l.length = n ∧ ∀ (i : Nat) a, l[i]? = some a → R i a := by
  induction n with
  | zero => exact ⟨[], rfl, fun i a e => by simp at e⟩
  | succ n ih =>
    obtain ⟨l, hl, hR⟩ := ih fun i hi => h i (by omega)
    obtain ⟨a, ha⟩ := h n (by omega)
    refine ⟨l ++ [a], by rw [List.length_append, hl]; rfl, fun i x e => ?_⟩
    by_cases hi : i < n
    · rw [List.getElem?_append_left (by omega)] at e
      exact hR i x e
    · have hi2 : i = n := by
        have := (List.getElem?_eq_some_iff.mp e).1
        rw [List.length_append, hl] at this
        simp at this
        omega
      subst hi2
      rw [List.getElem?_append_right (by omega), hl, Nat.sub_self] at e
      cases e
      exact ha
theorem alpha_str {a : PyData} (h : alphaD a = true) : ∃ z, a = .str z := by
  cases a <;> first | exact ⟨_, rfl⟩ | (exact Bool.noConfusion h)
theorem mem_get {α : Type} {l : List α} {x : α} (h : x ∈ l) : ∃ i : Nat, l[i]? = some x := List.mem_iff_getElem?.mp h
/-- tuple(x), list(x) of a list or a tuple, by name -/
def rTupO (K : PySem.W.Frag) : List V → Hp → VK → Prop := fun xs H Q => ∃ p ys, xs = [V.ref p] ∧ ((SqL K H p ys ∧ ∀ l, H l = none → Q (.ref l) (upd H l (.tup ys))) ∨ (SqT K H p ys ∧ Q (.ref p) H))
theorem tupledK {K : PySem.W.Frag} {H : Hp} {a : Addr} {xs : List V} {Q : VK} (h : H a = some (.lst xs) ∨ H a = some (.tup xs)) (q : ∀ H' p, Same H H' → H' p = some (.tup xs) → Q (.ref p) H') :
    ∃ p ys, [V.ref a] = [V.ref p] ∧ ((SqL K H p ys ∧ ∀ l, H l = none → Q (.ref l) (upd H l (.tup ys))) ∨ (SqT K H p ys ∧ Q (.ref p) H)) := by
  rcases h with h | h
  · exact ⟨a, xs, rfl, .inl ⟨SqL.of h, fun l hl => q _ l (same_upd hl) upd_same⟩⟩
  · exact ⟨a, xs, rfl, .inr ⟨SqT.of h, q H a (Same.refl H) h⟩⟩
theorem below_rp {H : Hp} {m : Int} {v : V} {d : PyData} (h : Rp H v d) : below v m = belowD m d := by
  cases h <;> rfl
theorem rtl_of {H : Hp} : ∀ {vs : List V} {ds : List PyData}, vs.length = ds.length → (∀ (i : Nat) v d, vs[i]? = some v → ds[i]? = some d → Rt H v d) → RtL H vs ds
  | [], [], _, _ => .nil
  | [], _ :: _, h, _ => by cases h
  | _ :: _, [], h, _ => by cases h
  | v :: vs, d :: ds, h, k => .cons (k 0 v d rfl rfl) (rtl_of (Nat.succ.inj h) fun i v d hv hd => k (i + 1) v d (by simpa using hv) (by simpa using hd))
theorem rpl_of {H : Hp} : ∀ {vs : List V} {ds : List PyData}, vs.length = ds.length → (∀ (i : Nat) v d, vs[i]? = some v → ds[i]? = some d → Rp H v d) → RpL H vs ds
  | [], [], _, _ => .nil
  | [], _ :: _, h, _ => by cases h
  | _ :: _, [], h, _ => by cases h
  | v :: vs, d :: ds, h, k => .cons (k 0 v d rfl rfl) (rpl_of (Nat.succ.inj h) fun i v d hv hd => k (i + 1) v d (by simpa using hv) (by simpa using hd))
def KTup (K : PySem.W.Frag) (a : Addr) (xs : List V) : Prop := ∃ (o : Obj) (its : Array Value) (n : Nat), K.lookup a = some o ∧ o.cls = .type "tuple" ∧ o.dict = none ∧ o.data = .seq its n ∧ its.size ≤ sizeLine ∧ Vals xs its.toList
theorem KTup.sq {K : PySem.W.Frag} {H : Hp} {a : Addr} {xs : List V} (h : KTup K a xs) : SqT K H a xs := by
  obtain ⟨o, its, n, h1, h2, h3, h4, h5, h6⟩ := h
  exact .inr ⟨o, its, n, h1, h2, h4, h5, h6⟩
theorem KTup.src {K : PySem.W.Frag} {a : Addr} {xs : List V} (h : KTup K a xs) : Src K (.ref a) xs.length (fun _ => True) (fun i v => xs[i]? = some v) := by
  obtain ⟨o, its, n, h1, h2, h3, h4, h5, h6⟩ := h
  exact .ktp a xs ⟨o, its, n, h1, h2, h4, h5, h6⟩
theorem few {n : Nat} (h : n ≤ 100) : n ≤ sizeLine := Nat.le_trans h (by decide)
mutual
/-- data whose == is sameness -/
def pureD : PyData → Bool
  | .none => true
  | .int _ => true
  | .str z => PyData.strOk z
  | .tuple ds => pureL ds
  | .list ds => pureL ds
  | _ => false
def pureL : List PyData → Bool
  | [] => true
  | d :: ds => pureD d && pureL ds
end
mutual
theorem eqv_pure : ∀ {d e : PyData}, pureD d = true → pureD e = true → (PyData.eqv d e = true ↔ d = e)
  | .none, .none, _, _ => by simp [PyData.eqv]
  | .none, .int _, _, _ => by simp [PyData.eqv]
  | .none, .str _, _, _ => by simp [PyData.eqv]
  | .none, .tuple _, _, _ => by simp [PyData.eqv]
  | .none, .list _, _, _ => by simp [PyData.eqv]
  | .int _, .none, _, _ => by simp [PyData.eqv]
  | .int _, .int _, _, _ => by simp [PyData.eqv]
  | .int _, .str _, _, _ => by simp [PyData.eqv]
  | .int _, .tuple _, _, _ => by simp [PyData.eqv]
  | .int _, .list _, _, _ => by simp [PyData.eqv]
  | .str _, .none, _, _ => by simp [PyData.eqv]
  | .str _, .int _, _, _ => by simp [PyData.eqv]
  | .str _, .str _, _, _ => by simp [PyData.eqv]
  | .str _, .tuple _, _, _ => by simp [PyData.eqv]
  | .str _, .list _, _, _ => by simp [PyData.eqv]
  | .tuple _, .none, _, _ => by simp [PyData.eqv]
  | .tuple _, .int _, _, _ => by simp [PyData.eqv]
  | .tuple _, .str _, _, _ => by simp [PyData.eqv]
  | .tuple i, .tuple j, hd, he => by
    have h := eqvAll_pure (ds := i) (es := j) (by simpa [pureD] using hd) (by simpa [pureD] using he)
    simp only [PyData.eqv, PyData.tuple.injEq]
    exact h
  | .tuple _, .list _, _, _ => by simp [PyData.eqv]
  | .list _, .none, _, _ => by simp [PyData.eqv]
  | .list _, .int _, _, _ => by simp [PyData.eqv]
  | .list _, .str _, _, _ => by simp [PyData.eqv]
  | .list _, .tuple _, _, _ => by simp [PyData.eqv]
  | .list i, .list j, hd, he => by
    have h := eqvAll_pure (ds := i) (es := j) (by simpa [pureD] using hd) (by simpa [pureD] using he)
    simp only [PyData.eqv, PyData.list.injEq]
    exact h
  | .bool _, _, h, _ => by simp [pureD] at h
  | .dict _, _, h, _ => by simp [pureD] at h
  | .none, .bool _, _, h => by simp [pureD] at h
  | .none, .dict _, _, h => by simp [pureD] at h
  | .int _, .bool _, _, h => by simp [pureD] at h
  | .int _, .dict _, _, h => by simp [pureD] at h
  | .str _, .bool _, _, h => by simp [pureD] at h
  | .str _, .dict _, _, h => by simp [pureD] at h
  | .tuple _, .bool _, _, h => by simp [pureD] at h
  | .tuple _, .dict _, _, h => by simp [pureD] at h
  | .list _, .bool _, _, h => by simp [pureD] at h
  | .list _, .dict _, _, h => by simp [pureD] at h
theorem eqvAll_pure : ∀ {ds es : List PyData}, pureL ds = true → pureL es = true → (PyData.eqvAll ds es = true ↔ ds = es)
  | [], [], _, _ => by simp [PyData.eqvAll]
  | [], _ :: _, _, _ => by simp [PyData.eqvAll]
  | _ :: _, [], _, _ => by simp [PyData.eqvAll]
  | d :: ds, e :: es, h, h' => by
    simp only [pureL, Bool.and_eq_true] at h h'
    simp only [PyData.eqvAll, Bool.and_eq_true, List.cons.injEq]
    rw [eqv_pure h.1 h'.1, eqvAll_pure h.2 h'.2]
end
mutual
theorem lay_pure : ∀ {d : PyData}, pureD d = true → d.canLay0 = true
  | .none, _ => by simp [PyData.canLay0]
  | .int _, _ => by simp [PyData.canLay0]
  | .str z, h => by simpa [PyData.canLay0, pureD] using h
  | .tuple ds, h => by
    have := layAll_pure (ds := ds) (by simpa [pureD] using h)
    simpa [PyData.canLay0] using this
  | .list ds, h => by
    have := layAll_pure (ds := ds) (by simpa [pureD] using h)
    simpa [PyData.canLay0] using this
  | .bool _, h => by simp [pureD] at h
  | .dict _, h => by simp [pureD] at h
theorem layAll_pure : ∀ {ds : List PyData}, pureL ds = true → PyData.canLayAll0 ds = true
  | [], _ => by simp [PyData.canLayAll0]
  | d :: ds, h => by
    simp only [pureL, Bool.and_eq_true] at h
    simp only [PyData.canLayAll0, Bool.and_eq_true]
    exact ⟨lay_pure h.1, layAll_pure h.2⟩
end
theorem pureL_map {α : Type} {f : α → PyData} : ∀ {l : List α}, (∀ a ∈ l, pureD (f a) = true) → pureL (l.map f) = true
  | [], _ => rfl
  | a :: l, h => by
    simp only [List.map_cons, pureL, Bool.and_eq_true]
    exact ⟨h a (List.mem_cons_self ..), pureL_map fun b hb => h b (List.mem_cons_of_mem _ hb)⟩
theorem depthAll_map {α : Type} {f : α → PyData} {n : Nat} : ∀ {l : List α}, (∀ a ∈ l, (f a).depth ≤ n) → PyData.depthAll (l.map f) ≤ n
  | [], _ => by simp [PyData.depthAll]
  | a :: l, h => by
    have h1 := h a (List.mem_cons_self ..)
    have h2 := depthAll_map (l := l) fun b hb => h b (List.mem_cons_of_mem _ hb)
    simp only [List.map_cons, PyData.depthAll]
    omega
theorem strOk1 {c : Nat} (h : c < 0x110000) : PyData.strOk ⟨#[c]⟩ = true := by
  unfold PyData.strOk
  simp only [List.size_toArray, List.length_cons, List.length_nil, Array.all_toList] <;> simp <;> exact h
theorem shaped_of {d : PyData} (h : pureD d = true) (hd : d.depth ≤ 60) : SeqAt.shaped d = true := by
  unfold SeqAt.shaped
  rw [lay_pure h, decide_eq_true (Nat.le_trans hd (by decide))]
  rfl
theorem letters_pure : ∀ c ∈ lettersL, PyData.strOk (one1 c) = true := by decide +kernel
theorem letters_lt : ∀ c ∈ lettersL, c < 0x110000 := by decide +kernel
end Kx
set_option Elab.async false
set_option linter.all false
set_option maxRecDepth 100000
set_option maxHeartbeats 4000000
namespace Kx
open PySem PySem.Spec PyProof.Rows L2
/-- the worth of some bits, the first one 2 ^ k -/
def bitsSum : List Bool → Nat → Nat
  | [], _ => 0
  | b :: bs, k => (if b then 2 ^ k else 0) + bitsSum bs (k + 1)
theorem bitsSum_app : ∀ (xs : List Bool) (b : Bool) (k : Nat), bitsSum (xs ++ [b]) k = bitsSum xs k + (if b then 2 ^ (k + xs.length) else 0)
  | [], b, k => by simp [bitsSum]
  | x :: xs, b, k => by
    show (if x then 2 ^ k else 0) + bitsSum (xs ++ [b]) (k + 1) = (if x then 2 ^ k else 0) + bitsSum xs (k + 1) + _
    rw [bitsSum_app xs b (k + 1), List.length_cons, show k + 1 + xs.length = k + (xs.length + 1) by omega]
    omega
theorem bitsSum_take {xs : List Bool} {i : Nat} {b : Bool} (h : xs[i]? = some b) : bitsSum (xs.take (i + 1)) 0 = bitsSum (xs.take i) 0 + (if b then 2 ^ i else 0) := by
  have hi := (List.getElem?_eq_some_iff.mp h).1
  rw [List.take_succ, h]
  show bitsSum (xs.take i ++ [b]) 0 = _
  rw [bitsSum_app, List.length_take, Nat.zero_add, Nat.min_eq_left (Nat.le_of_lt hi)]
theorem bitsSum_lt : ∀ (xs : List Bool) (k : Nat), bitsSum xs k + 2 ^ k ≤ 2 ^ (k + xs.length)
  | [], k => by simp [bitsSum]
  | x :: xs, k => by
    have ih := bitsSum_lt xs (k + 1)
    show (if x then 2 ^ k else 0) + bitsSum xs (k + 1) + 2 ^ k ≤ 2 ^ (k + (xs.length + 1))
    rw [show k + (xs.length + 1) = k + 1 + xs.length by omega]
    have e : 2 ^ (k + 1) = 2 ^ k + 2 ^ k := by rw [Nat.pow_succ]; omega
    generalize 2 ^ (k + 1 + xs.length) = A at ih ⊢
    generalize 2 ^ (k + 1) = B at ih e
    generalize 2 ^ k = C at e ⊢
    split <;> omega
theorem inV_signs (c : Nat) : ∀ cs : List Nat, inV (.str ⟨#[c]⟩) (cs.map fun c => V.str ⟨#[c]⟩) = decide (c ∈ cs)
  | [] => by simp [inV]
  | d :: cs => by
    have ih := inV_signs c cs
    unfold inV at ih ⊢
    rw [List.map_cons, List.any_cons, ih]
    have e : eqV (.str ⟨#[d]⟩) (.str ⟨#[c]⟩) = decide (d = c) := by
      show decide ((⟨#[d]⟩ : Str) = ⟨#[c]⟩) = decide (d = c)
      by_cases h : d = c
      · subst h; simp
      · rw [decide_eq_false h, decide_eq_false]
        intro z
        have z2 := congrArg (fun y : Str => y.cps.toList) z
        exact h (List.cons.inj z2).1
    rw [e]
    by_cases h : d = c
    · subst h; simp
    · have h2 : ¬ c = d := fun z => h z.symm
      simp [h, h2]
section
variable {P : Program} {w : World} {K : PySem.W.Frag} {mg : Str → Option Value} {base : Heap}
def sp_flagged_letters : Sp := fun vs H Q _ => ∃ (al ns : Str), vs = [.str al, .str ns] ∧ al.length ≤ 8 ∧ ns.length ≤ 4 ∧ Q (.int ((al.length * 2 ^ ns.length : Nat) : Int)) H
theorem ok_flagged_letters (T : Txt K mg) : Cal P w K mg base CX0 1 "flagged_letters" ["alphabet", "names"] sp_flagged_letters := by
  obtain ⟨fd, F⟩ := F_flagged_letters T
  refine cal_mk F (g_flagged_letters T) sc_flagged_letters (fun _ _ _ _ _ _ us hl => match us, hl with | [_, _], _ => rfl) (fun vs H Q E h => ?_) (fun cdv A outer s H vs Q E hr h => ?_)
  · obtain ⟨al, ns, rfl, _⟩ := h; rfl
  · refine ⟨_, PSs.nox (pss_one (ps_ret (pe_op op_shl (pe_callB call_len (by rfl) (fr_len T) boot_len (pa_cons (pv 0) pa_nil)) (pe_callB call_len (by rfl) (fr_len T) boot_len (pa_cons (pv 1) pa_nil))))), ?_⟩
    obtain ⟨al, ns, rfl, h8, h4, q⟩ := h
    refine ⟨.str al, rfl, _, _, rfl, lenV_str (by omega), .str ns, rfl, _, _, rfl, lenV_str (by omega), _, _, rfl, rfl, ⟨by omega, by omega, by omega⟩, ?_⟩
    have e : ((al.length : Nat) : Int) * 2 ^ ((ns.length : Nat) : Int).toNat = ((al.length * 2 ^ ns.length : Nat) : Int) := by
      rw [Int.toNat_natCast, Int.natCast_mul, Int.natCast_pow]
      rfl
    show Q (.int (((al.length : Nat) : Int) * 2 ^ ((ns.length : Nat) : Int).toNat)) H
    rw [e]
    exact q
def sp_flagged : Sp := fun vs H Q _ => ∃ (ns : Str) (l : Nat) (b : Addr) (cs : List Nat), vs = [.str ns, .int (l : Nat), .ref b] ∧ ns.length ≤ 4 ∧ l ≤ 8 ∧ H b = some (.lst (cs.map fun c => V.str ⟨#[c]⟩)) ∧
  ∀ H', Same H H' → Q (.int ((l * 2 ^ ns.length + bitsSum (ns.cps.toList.map fun c => decide (c ∈ cs)) 0 : Nat) : Int)) H'
theorem ok_flagged (T : Txt K mg) : Cal P w K mg base CX0 1 "flagged" ["names", "letter", "borne"] sp_flagged := by
  obtain ⟨fd, F⟩ := F_flagged T
  refine cal_mk F (g_flagged T) sc_flagged (fun _ _ _ _ _ _ us hl => match us, hl with | [_, _, _], _ => rfl) (fun vs H Q E h => ?_) (fun cdv A outer s H vs Q E hr h => ?_)
  · obtain ⟨ns, l, b, cs, rfl, _⟩ := h; rfl
  · refine ⟨_, PSs.nox (pss_one (ps_ret (pe_op op_add (pe_op op_shl (pv 1) (pe_callB call_len (by rfl) (fr_len T) boot_len (pa_cons (pv 0) pa_nil))) (pe_callB (cr_sum rfl) (by rfl) (fr_sum T) b_sum (pa_cons (pe_lc (own := [("at", 3), ("name", 4)]) (g := (gTup K 2 (gCons (gName 3) (gCons (gName 4) gNil)))) (tt := tTest (tOp (rIn K false) (tVar 4) (tVar 2))) rfl sc_flagged.nd  (pi_enumS (by rfl) (fr_enumerate T) (pa_cons (pv 0) pa_nil)) (blkOk_by (N := N_flagged) (sc := defScope s_flagged) (by decide +kernel)) (fun _ _ _ _ _ => (pg_tup rfl (pgs_cons (pg_name (i := 3) sc_flagged.nd rfl (Or.inl rfl)) (pgs_cons (pg_name (i := 4) sc_flagged.nd rfl (Or.inl rfl)) pgs_nil)))) (fun _ _ _ _ _ => (pts_one (pt_cmpR op_in_seq (pv 4) (pv 2) rfl))) (fun _ _ _ _ _ => (pe_op op_oneShl pe_int (pv 3)))) pa_nil))))), ?_⟩
    obtain ⟨ns, l, b, cs, rfl, h4, h8, hb, q⟩ := h
    have hz : ns.cps.toList.length = ns.length := Array.length_toList
    refine ⟨.int (l : Nat), rfl, .str ns, rfl, _, _, rfl, lenV_str (by omega), _, _, rfl, rfl, ⟨by omega, by omega, by omega⟩, ?_⟩
    refine ⟨.str ns, rfl, .str ns, _, _, _, rfl, .txt ns, trivial, fun D hD => ?_⟩
    refine lc_it walk_new (tt := tTest (tOp (rIn K false) (tVar 4) (tVar 2))) (fun i G => ∃ xs : List Int, G D = some (.lst (xs.map V.int)) ∧ xs.length ≤ i ∧ xs.sum = ((bitsSum ((ns.cps.toList.map fun c => decide (c ∈ cs)).take i) 0 : Nat) : Int) ∧ Same H G)
      ⟨[], upd_same, Nat.le_refl _, rfl, same_upd hD⟩ (fun _ _ _ _ => trivial) ?_ ?_
    · rintro i x H2 H3 hi ⟨xs, hx, hxl, hsum, s2⟩ ⟨Tt, vs, rfl, hTn, rfl, y, rfl, c, hc, rfl⟩
      have s4 : Same H2 (upd H2 Tt (.tup [.int (i : Nat), .str ⟨#[c]⟩])) := fun b o e => by rw [upd_ne (ne_of_none e hTn)]; exact e
      have hc' : ns.cps.toList[i]? = some c := by rw [Array.getElem?_toList]; exact hc
      have hin : i < ns.length := by rw [← hz]; exact (List.getElem?_eq_some_iff.mp hc').1
      have hbit : (ns.cps.toList.map fun c => decide (c ∈ cs))[i]? = some (decide (c ∈ cs)) := by rw [List.getElem?_map, hc']; rfl
      have hts := bitsSum_take hbit
      refine ⟨Tt, _, rfl, SqT.of upd_same, rfl, _, _, rfl, _, _, rfl, rfl, rfl, .str ⟨#[c]⟩, rfl, .ref b, rfl, b, _, rfl, .inl (SqL.of (s4 _ _ (s2 _ _ hb))), rfl, ?_, _, rfl, ?_⟩
      · rw [List.all_map, List.all_eq_true]
        intro x _
        rfl
      rw [if_neg Bool.false_ne_true, inV_signs]
      have hD3 := s4 _ _ hx
      cases hd : decide (c ∈ cs) with
      | false =>
        rw [hd] at hts
        refine iteF ⟨xs, hD3, Nat.le_succ_of_le hxl, ?_, s2.trans s4⟩
        rw [hts, hsum]
        simp
      | true =>
        rw [hd] at hts
        refine iteT ⟨.int (i : Nat), rfl, i, rfl, rfl, by omega, _, hD3, ?_, xs ++ [2 ^ i], ?_, ?_, ?_, same_over (s2.trans s4) hD⟩
        · rw [List.length_map]
          exact Nat.lt_of_lt_of_le (by omega : xs.length < 10) (by decide)
        · rw [upd_same, List.map_append]
          rfl
        · rw [List.length_append]
          exact Nat.succ_le_succ hxl
        · rw [List.sum_append, hts, hsum]
          simp
    · rintro H2 ⟨xs, hx, hxl, hsum, s2⟩
      have hn : ns.cps.size = (ns.cps.toList.map fun c => decide (c ∈ cs)).length := by rw [List.length_map, hz]; rfl
      rw [hn, List.take_length] at hsum
      refine ⟨D, xs, rfl, SqL.of hx, _, _, rfl, rfl, ?_⟩
      rw [hsum]
      have e : ((l : Nat) : Int) * 2 ^ ((ns.length : Nat) : Int).toNat + ((bitsSum (ns.cps.toList.map fun c => decide (c ∈ cs)) 0 : Nat) : Int) = ((l * 2 ^ ns.length + bitsSum (ns.cps.toList.map fun c => decide (c ∈ cs)) 0 : Nat) : Int) := by
        rw [Int.toNat_natCast, Int.natCast_add, Int.natCast_mul, Int.natCast_pow]
        rfl
      show Q (.int (((l : Nat) : Int) * 2 ^ ((ns.length : Nat) : Int).toNat + ((bitsSum (ns.cps.toList.map fun c => decide (c ∈ cs)) 0 : Nat) : Int))) H2
      rw [e]
      exact q _ s2
end
end Kx
set_option Elab.async false
set_option linter.all false
set_option maxRecDepth 100000
set_option maxHeartbeats 4000000
namespace Kx
open PySem PySem.Spec PyProof.Rows L2
def tupOf (d : PyData) : PyData := .tuple ((itemsD d).getD [])
def keptD (d : PyData) : PyData := .tuple (((itemsD d).getD []).map tupOf)
theorem firstBad_at {p : PyData → Bool} : ∀ {ds : List PyData} {k : Int} {i : Nat} {d : PyData}, ds[i]? = some d → (∀ j d, j < i → ds[j]? = some d → p d = true) → p d = false → firstBad p ds k = some (k + i)
  | [], _, i, _, h, _, _ => by simp at h
  | d :: ds, k, 0, x, h, _, hp => by
    have e : d = x := by simpa using h
    unfold firstBad
    rw [e, hp]
    simp
  | d :: ds, k, i + 1, x, h, ha, hp => by
    have h0 := ha 0 d (Nat.succ_pos _) rfl
    unfold firstBad
    rw [if_pos h0, firstBad_at (k := k + 1) (i := i) (by simpa using h) (fun j y hj hy => ha (j + 1) y (by omega) (by simpa using hy)) hp]
    congr 1
    omega
theorem firstBad_none {p : PyData → Bool} : ∀ {ds : List PyData} {k : Int}, (∀ (j : Nat) d, ds[j]? = some d → p d = true) → firstBad p ds k = none
  | [], _, _ => rfl
  | d :: ds, k, h => by
    unfold firstBad
    rw [if_pos (h 0 d rfl)]
    exact firstBad_none fun j y hy => h (j + 1) y (by simpa using hy)
/-- ints alone -/
theorem rpL_ints {H : Hp} {m : Int} : ∀ {vs : List V} {ds : List PyData}, RpL H vs ds → ds.all (belowD m) = true → RtL H vs ds
  | _, _, .nil, _ => .nil
  | _, _, .cons h hs, e => by
    rw [List.all_cons, Bool.and_eq_true] at e
    refine .cons ?_ (rpL_ints hs e.2)
    cases h with
    | int i => exact .int i
    | _ => exact Bool.noConfusion e.1
/-- the data of a table: few things, each of few things -/
def smallR (d : PyData) : Prop := ∀ ds, itemsD d = some ds → ds.length ≤ 100000 ∧ ∀ x ∈ ds, smallD x
/-- what is wrong first of moves -/
def movesDue (l : Nat) (d : PyData) : Option Int := match itemsD d with
  | none => some (-1)
  | some ds => if 1 ≤ ds.length ∧ ds.length ≤ 60 then firstBad (moveD l ds.length) ds 0 else some (-1)
/-- what is wrong first of the accepted standings -/
def accGo (m : Int) : Option Int → List PyData → Int → Option Int
  | _, [], _ => none
  | p, d :: ds, k => match d with
    | .int i => if (decide (0 ≤ i) && decide (i < m)) && p.all (fun j => decide (j < i)) then accGo m (some i) ds (k + 1) else some k
    | _ => some k
def accDue (m : Int) (d : PyData) : Option Int := match itemsD d with
  | none => some (-1)
  | some ds => accGo m none ds 0
section
variable {P : Program} {w : World} {K : PySem.W.Frag} {mg : Str → Option Value} {base : Heap}
def sp_kept_moves (K : PySem.W.Frag) : Sp := fun vs H Q E => ∃ (l : Nat) (v : V) (d : PyData), vs = [.int (l : Nat), v] ∧ Rp H v d ∧ smallR d ∧
  (∀ k, movesDue l d = some k → errAt (He.ga K "BadMove") "number" (.int k) H E) ∧
  (movesDue l d = none → ∀ H' r, Same H H' → Rt H' r (keptD d) → Q r H')
theorem ok_kept_moves (T : Txt K mg) : Cal P w K mg base (L2N.CX P w) 4 "kept_moves" ["letters", "thing"] (sp_kept_moves K) := by
  obtain ⟨fd, F⟩ := F_kept_moves T
  obtain ⟨fdR, FRBadMove⟩ := F_BadMove___init__ T
  obtain ⟨t_MOST_MOVES, h_MOST_MOVES⟩ := T.i_MOST_MOVES
  have bRBadMove : Binds K fdR ["self", "number"] [] := FRBadMove.bindsN fun _ _ _ _ _ _ us hl => match us, hl with | [_, _], _ => rfl
  have exBadMove : Ex K "BadMove" ["number"] := ex_of T 3
  refine cal_mk F (g_kept_moves T) sc_kept_moves (fun _ _ _ _ _ _ us hl => match us, hl with | [_, _], _ => rfl) (fun vs H Q E h => ?_) (fun cdv A outer s H vs Q E hr h => ?_)
  · obtain ⟨l, v, d, rfl, _⟩ := h; rfl
  · refine ⟨_, (pss_cons (ps_if (PW.pt (pw_or (pt_not (pt_val (pe_cal (ok_is_listing T) (hr.mono (by decide)) pass0 (pa_cons (pv 1) pa_nil)))) (pw_or1 (pt_not (pt_chain op_le op_le pe_int (pe_callB call_len (by rfl) (fr_len T) boot_len (pa_cons (pv 1) pa_nil)) (pe_glob (v := .int 60) (by rfl) h_MOST_MOVES ⟨t_MOST_MOVES, rfl⟩)))))) (pss_one (ps_raise1 exBadMove (f := "number") (by decide) rfl (ini_number FRBadMove) bRBadMove (hr.mono (by decide)) (L2N.takes_of rfl rfl rfl rfl) (g_BadMove T) (pa_cons (pe_un un_neg pe_int) pa_nil))) pss_nil)
        (pss_cons (ps_for (passes_of rfl) rfl (pi_enumS (by rfl) (fr_enumerate T) (pa_cons (pv 1) pa_nil)) (pg_tup rfl (pgs_cons (pg_name (i := 2) sc_kept_moves.nd rfl (Or.inl rfl)) (pgs_cons (pg_name (i := 3) sc_kept_moves.nd rfl (Or.inl rfl)) pgs_nil))) (pss_one (ps_if (pt_not (pt_val (pe_cal (ok_is_move T) (hr.mono (by decide)) pass0 (pa_cons (pv 3) (pa_cons (pv 0) (pa_cons (pe_callB call_len (by rfl) (fr_len T) boot_len (pa_cons (pv 1) pa_nil)) pa_nil)))))) (pss_one (ps_raise1 exBadMove (f := "number") (by decide) rfl (ini_number FRBadMove) bRBadMove (hr.mono (by decide)) (L2N.takes_of rfl rfl rfl rfl) (g_BadMove T) (pa_cons (pv 2) pa_nil))) pss_nil)))
        (pss_one (ps_ret (pe_callTy call_tuple_of (by rfl) (fr_tuple T) b_tuple (pa_cons (pe_lc (te := tCB (rTupO K) (tCons (tVar 3) tNil)) (own := [("move", 3)]) (g := (gName 3)) (tt := tYes) rfl sc_kept_moves.nd  (pi_seq (pv 1)) (blkOk_by (N := N_kept_moves) (sc := defScope s_kept_moves) (by decide +kernel)) (fun _ _ _ _ _ => (pg_name (i := 3) sc_kept_moves.nd rfl (Or.inl rfl))) (fun _ _ _ _ _ => pts_nil) (fun _ _ _ _ _ => by refine pe_callTy (r := rTupO K) ?_ (by rfl) (fr_tuple T) b_tuple (pa_cons (pv 3) pa_nil); exact call_tuple_of)) pa_nil)))))), ?_⟩
    obtain ⟨l, v, d, rfl, rd, sm, kE, kQ⟩ := h
    refine ⟨v, rfl, v, kd d, rfl, rd.ko, fun H1 s1 => ⟨_, rfl, ?_⟩⟩
    have rd1 := rd.same s1
    cases hb : (kd d == Kd.lst || kd d == Kd.tup) with
    | false =>
      refine iteT (iteT ?_)
      have e : movesDue l d = some (-1) := by unfold movesDue; rw [itemsD_none hb]
      exact ⟨1, rfl, _, rfl, fun dx hd => kE (-1) e H1 s1 dx hd⟩
    | true =>
      refine iteF ?_
      obtain ⟨ds, hds⟩ := itemsD_kd hb
      obtain ⟨a, xs, rfl, hxs, hsq⟩ := rp_seq rd1 hds
      have hl : xs.length = ds.length := hxs.length
      have hLenT : LenV K (.ref a) H1 xs.length := lenV_seq hsq
      have bad : ¬ (1 ≤ ds.length ∧ ds.length ≤ 60) → movesDue l d = some (-1) := fun hn => by unfold movesDue; rw [hds]; exact if_neg hn
      have good : (1 ≤ ds.length ∧ ds.length ≤ 60) → movesDue l d = firstBad (moveD l ds.length) ds 0 := fun hn => by unfold movesDue; rw [hds]; exact if_pos hn
      refine ⟨_, rfl, _, _, rfl, hLenT, 1, _, rfl, rfl, _, rfl, ?_⟩
      by_cases h1 : (1 : Int) ≤ (xs.length : Int)
      · rw [decide_eq_true h1]
        refine iteT ⟨_, 60, rfl, rfl, _, rfl, ?_⟩
        by_cases h2 : (xs.length : Int) ≤ 60
        · rw [decide_eq_true h2]
          refine iteF ?_
          have hn : 1 ≤ ds.length ∧ ds.length ≤ 60 := by omega
          obtain ⟨G, S, hG, hGs⟩ := src_seq (K := K) hsq
          refine ⟨_, rfl, _, _, _, _, rfl, S, hG, for_it walk_new (fun i σ H2 => ∃ (v2 v3 : Option V), σ = [some (.int (l : Nat)), some (.ref a), v2, v3] ∧ Same H1 H2 ∧
            ∀ (j : Nat) x, j < i → ds[j]? = some x → moveD l ds.length x = true)
            ⟨none, none, rfl, Same.refl _, fun j x hj => absurd hj (Nat.not_lt_zero _)⟩ (fun i σ H2 _ ⟨_, _, _, s3, _⟩ => hGs _ s3) ?_ ?_⟩
          · rintro i x σ H2 H3 hi ⟨v2, v3, rfl, s3, hall⟩ ⟨Tt, vs, rfl, hTn, rfl, y, rfl, hy⟩
            obtain ⟨dy, hdy, ry⟩ := hxs.get hy
            have s4 : Same H2 (upd H2 Tt (.tup [.int (i : Nat), y])) := same_upd hTn
            have ry3 : Rp (upd H2 Tt (.tup [.int (i : Nat), y])) y dy := ry.same (s3.trans s4)
            refine ⟨Tt, _, rfl, SqT.of upd_same, rfl, .int (i : Nat), _, rfl, y, _, rfl, rfl, ?_⟩
            have hdm : dy ∈ ds := List.mem_of_getElem? hdy
            have hsq4 := hsq.imp (fun z => s4 _ _ (s3 _ _ z)) (fun z => s4 _ _ (s3 _ _ z))
            refine ⟨y, rfl, .int (l : Nat), rfl, .ref a, rfl, .ref a, xs.length, rfl, lenV_seq hsq4, y, dy, _, _, rfl, ry3, (sm ds hds).2 dy hdm, fun H5 s5 => ⟨_, rfl, ?_⟩⟩
            have s15 : Same H H5 := s1.trans (s3.trans (s4.trans s5))
            rw [hl]
            cases hmv : moveD (l : Int) (ds.length : Int) dy with
            | false =>
              refine iteT ⟨.int (i : Nat), rfl, _, rfl, fun dx hdx => ?_⟩
              refine kE i ?_ H5 s15 dx hdx
              rw [good hn, firstBad_at hdy hall hmv, Int.zero_add]
            | true =>
              refine iteF ⟨_, _, rfl, s3.trans (s4.trans s5), fun j x hj hx => ?_⟩
              by_cases hji : j < i
              · exact hall j x hji hx
              · have : j = i := by omega
                subst this
                rw [hdy] at hx
                cases hx
                exact hmv
          · rintro σ H2 ⟨v2, v3, rfl, s3, hall⟩
            rw [hl] at hall
            have hnone : movesDue l d = none := by
              rw [good hn]
              exact firstBad_none fun j x hx => hall j x (List.getElem?_eq_some_iff.mp hx).1 hx
            have hsq3 := hsq.imp (fun z => s3 _ _ z) (fun z => s3 _ _ z)
            have moves : ∀ x ∈ ds, ∃ ms, itemsD x = some ms ∧ ms.all (belowD ds.length) = true := fun x hx => by
              obtain ⟨j, hj⟩ := mem_get hx
              have hmv := hall j x (List.getElem?_eq_some_iff.mp hj).1 hj
              unfold moveD at hmv
              cases hi2 : itemsD x with
              | none => rw [hi2] at hmv; cases hmv
              | some ms =>
                rw [hi2, Bool.and_eq_true] at hmv
                exact ⟨ms, rfl, hmv.2⟩
            refine ⟨.ref a, rfl, a, xs, rfl, ?_⟩
            rcases hsq3 with h | h
            case' inl => refine Or.inl ⟨SqL.of h, fun J WJ D hD => ?_⟩
            case' inr => refine Or.inr ⟨SqT.of h, fun J WJ D hD => ?_⟩
            all_goals
              refine lc_new WJ hD (by rw [hl]; exact Nat.le_trans hn.2 (by decide)) (fun (i : Nat) G3 v => ∀ x, ds[i]? = some x → Rt G3 v (tupOf x)) (fun i G3 G4 v t hv x hx => (hv x hx).tups t) (fun G3 s => by first | exact SqL.of (s _ _ h) | exact SqT.of (s _ _ h))
                (fun i x G3 G4 Qk hi sH hy hk => ?_) (fun G3 acc s4 hD4 hla hacc => ?_)
              · obtain ⟨rfl, hx3⟩ := hy
                obtain ⟨dx, hdx, rx⟩ := hxs.get hx3
                obtain ⟨ms, hms, hint⟩ := moves dx (List.mem_of_getElem? hdx)
                obtain ⟨ma, mxs, rfl, hmx, hmsq⟩ := rp_seq (rx.same (s3.trans sH)) hms
                have etup : tupOf dx = .tuple ms := by unfold tupOf; rw [hms]; rfl
                refine ⟨rfl, .ref ma, rfl, ma, mxs, rfl, ?_⟩
                rcases hmsq with hm | hm
                · refine .inl ⟨SqL.of hm, fun p hp => hk _ _ (same_upd hp) fun x hx => ?_⟩
                  rw [hdx] at hx
                  cases hx
                  rw [etup]
                  exact .tup upd_same ((rpL_ints hmx hint).tups (Same.tups (same_upd hp)))
                · refine .inr ⟨SqT.of hm, hk _ _ (Same.refl _) fun x hx => ?_⟩
                  rw [hdx] at hx
                  cases hx
                  rw [etup]
                  exact .tup hm (rpL_ints hmx hint)
              · refine ⟨D, acc, rfl, .inl ⟨SqL.of hD4, fun p hp => ?_⟩⟩
                have s6 := same_upd (o := .tup acc) hp
                refine kQ hnone _ _ (s1.trans (s3.trans (s4.trans s6))) ?_
                have e : keptD d = .tuple (ds.map tupOf) := by unfold keptD; rw [hds]; rfl
                rw [e]
                refine .tup upd_same (RtL.tups (Same.tups s6) ?_)
                exact rtl_of (by rw [List.length_map, hla, hl]) fun i v x hv hx => by
                  rw [List.getElem?_map] at hx
                  obtain ⟨y, hy, rfl⟩ := Option.map_eq_some_iff.mp hx
                  exact hacc i v hv y hy
        · rw [decide_eq_false h2]
          refine iteT ⟨1, rfl, _, rfl, fun dx hdx => ?_⟩
          exact kE (-1) (bad (by omega)) H1 s1 dx hdx
      · rw [decide_eq_false h1]
        refine iteF ⟨_, rfl, ?_⟩
        refine iteT ⟨1, rfl, _, rfl, fun dx hdx => ?_⟩
        exact kE (-1) (bad (by omega)) H1 s1 dx hdx
end
end Kx
set_option Elab.async false
set_option linter.all false
set_option maxRecDepth 100000
set_option maxHeartbeats 4000000
namespace Kx
open PySem PySem.Spec PyProof.Rows L2
/-- the ints that came so far go up -/
def intsD (ds : List PyData) (xs : List Int) : Prop := ds = xs.map PyData.int
theorem accGo_step {m : Int} {p : Option Int} {i : Int} {ds : List PyData} {k : Int} (h1 : (decide (0 ≤ i) && decide (i < m)) = true) (h2 : p.all (fun j => decide (j < i)) = true) : accGo m p (.int i :: ds) k = accGo m (some i) ds (k + 1) := by
  show (if (decide (0 ≤ i) && decide (i < m)) && p.all (fun j => decide (j < i)) then _ else _) = _
  rw [h1, h2]
  rfl
theorem accGo_bad {m : Int} {p : Option Int} {d : PyData} {ds : List PyData} {k : Int} (h : ∀ i, d = .int i → ((decide (0 ≤ i) && decide (i < m)) && p.all (fun j => decide (j < i))) = false) : accGo m p (d :: ds) k = some k := by
  cases d with
  | int i =>
    show (if (decide (0 ≤ i) && decide (i < m)) && p.all (fun j => decide (j < i)) then _ else _) = _
    rw [h i rfl]
    rfl
  | _ => rfl
theorem belowD_int {m : Int} {d : PyData} (h : belowD m d = true) : ∃ i, d = .int i ∧ (decide (0 ≤ i) && decide (i < m)) = true := by
  cases d with
  | int i => exact ⟨i, rfl, h⟩
  | _ => exact Bool.noConfusion h
section
variable {P : Program} {w : World} {K : PySem.W.Frag} {mg : Str → Option Value} {base : Heap}
def smallL (d : PyData) : Prop := ∀ ds, itemsD d = some ds → ds.length ≤ 100000
def sp_kept_accepted (K : PySem.W.Frag) : Sp := fun vs H Q E => ∃ (m : Int) (v : V) (d : PyData), vs = [.int m, v] ∧ Rp H v d ∧ smallL d ∧
  (∀ k, accDue m d = some k → errAt (He.ga K "BadAccepted") "number" (.int k) H E) ∧
  (accDue m d = none → ∀ H' r, Same H H' → Rt H' r (tupOf d) → Q r H')
theorem ok_kept_accepted (T : Txt K mg) : Cal P w K mg base (L2N.CX P w) 4 "kept_accepted" ["standings", "thing"] (sp_kept_accepted K) := by
  obtain ⟨fd, F⟩ := F_kept_accepted T
  obtain ⟨fdR, FRBadAccepted⟩ := F_BadAccepted___init__ T
  have bRBadAccepted : Binds K fdR ["self", "number"] [] := FRBadAccepted.bindsN fun _ _ _ _ _ _ us hl => match us, hl with | [_, _], _ => rfl
  have exBadAccepted : Ex K "BadAccepted" ["number"] := ex_of T 4
  refine cal_mk F (g_kept_accepted T) sc_kept_accepted (fun _ _ _ _ _ _ us hl => match us, hl with | [_, _], _ => rfl) (fun vs H Q E h => ?_) (fun cdv A outer s H vs Q E hr h => ?_)
  · obtain ⟨m, v, d, rfl, _⟩ := h; rfl
  · refine ⟨_, (pss_cons (ps_if (pt_not (pt_val (pe_cal (ok_is_listing T) (hr.mono (by decide)) pass0 (pa_cons (pv 1) pa_nil)))) (pss_one (ps_raise1 exBadAccepted (f := "number") (by decide) rfl (ini_number FRBadAccepted) bRBadAccepted (hr.mono (by decide)) (L2N.takes_of rfl rfl rfl rfl) (g_BadAccepted T) (pa_cons (pe_un un_neg pe_int) pa_nil))) pss_nil)
        (pss_cons (ps_for (passes_of rfl) rfl (pi_enumS (by rfl) (fr_enumerate T) (pa_cons (pv 1) pa_nil)) (pg_tup rfl (pgs_cons (pg_name (i := 2) sc_kept_accepted.nd rfl (Or.inl rfl)) (pgs_cons (pg_name (i := 3) sc_kept_accepted.nd rfl (Or.inl rfl)) pgs_nil))) (pss_one (ps_if (PW.pt (pw_or (pt_not (pt_val (pe_cal (ok_is_below T) (hr.mono (by decide)) pass0 (pa_cons (pv 3) (pa_cons (pv 0) pa_nil))))) (pw_or1 (PW.pt (pw_and (pt_cmpR op_gt (pv 2) pe_int (nomark _)) (pw_and1 (pt_cmpR op_le (pv 3) (pe_ix ix_seq (pv 1) (pe_op op_sub (pv 2) pe_int) (fun _ _ => rfl)) (nomark _)))))))) (pss_one (ps_raise1 exBadAccepted (f := "number") (by decide) rfl (ini_number FRBadAccepted) bRBadAccepted (hr.mono (by decide)) (L2N.takes_of rfl rfl rfl rfl) (g_BadAccepted T) (pa_cons (pv 2) pa_nil))) pss_nil)))
        (pss_one (ps_ret (pe_callTy call_tuple_of (by rfl) (fr_tuple T) b_tuple (pa_cons (pv 1) pa_nil)))))), ?_⟩
    obtain ⟨m, v, d, rfl, rd, sm, kE, kQ⟩ := h
    refine ⟨v, rfl, v, kd d, rfl, rd.ko, fun H1 s1 => ⟨_, rfl, ?_⟩⟩
    have rd1 := rd.same s1
    cases hb : (kd d == Kd.lst || kd d == Kd.tup) with
    | false =>
      refine iteT ?_
      have e : accDue m d = some (-1) := by unfold accDue; rw [itemsD_none hb]
      exact ⟨1, rfl, _, rfl, fun dx hd => kE (-1) e H1 s1 dx hd⟩
    | true =>
      refine iteF ?_
      obtain ⟨ds, hds⟩ := itemsD_kd hb
      obtain ⟨a, xs, rfl, hxs, hsq⟩ := rp_seq rd1 hds
      have hl : xs.length = ds.length := hxs.length
      have edue : accDue m d = accGo m none ds 0 := by unfold accDue; rw [hds]
      obtain ⟨G, S, hG, hGs⟩ := src_seq (K := K) hsq
      refine ⟨_, rfl, _, _, _, _, rfl, S, hG, for_it walk_new (fun i σ H2 => ∃ (v2 v3 : Option V) (ns : List Int), σ = [some (.int m), some (.ref a), v2, v3] ∧ Same H1 H2 ∧ ds.take i = ns.map PyData.int ∧
        accGo m none ds 0 = accGo m ns.getLast? (ds.drop i) (i : Nat))
        ⟨none, none, [], rfl, Same.refl _, by rw [List.take_zero]; rfl, rfl⟩ (fun i σ H2 _ ⟨_, _, _, _, s3, _⟩ => hGs _ s3) ?_ ?_⟩
      · rintro i x σ H2 H3 hi ⟨v2, v3, ns, rfl, s3, hns, hgo⟩ ⟨Tt, vs, rfl, hTn, rfl, y, rfl, hy⟩
        obtain ⟨dy, hdy, ry⟩ := hxs.get hy
        have s4 : Same H2 (upd H2 Tt (.tup [.int (i : Nat), y])) := same_upd hTn
        have ry3 : Rp (upd H2 Tt (.tup [.int (i : Nat), y])) y dy := ry.same (s3.trans s4)
        have hid : i < ds.length := by omega
        have edrop : ds.drop i = dy :: ds.drop (i + 1) := by
          rw [List.drop_eq_getElem_cons hid]
          congr 1
          rw [List.getElem?_eq_getElem hid] at hdy
          exact Option.some.inj hdy
        have hsq4 := hsq.imp (fun z => s4 _ _ (s3 _ _ z)) (fun z => s4 _ _ (s3 _ _ z))
        have s14 := s1.trans (s3.trans s4)
        have hnl : ns.length = i := by
          have := congrArg List.length hns
          rw [List.length_take, List.length_map, Nat.min_eq_left (by omega)] at this
          exact this.symm
        rw [edrop] at hgo
        refine ⟨Tt, _, rfl, SqT.of upd_same, rfl, .int (i : Nat), _, rfl, y, _, rfl, rfl, ?_⟩
        have vb : below y m = belowD m dy := below_rp ry3
        refine ⟨y, rfl, .int m, rfl, y, m, kd dy, rfl, ry3.ko, ⟨_, rfl, ?_⟩⟩
        rw [vb]
        cases hbl : belowD m dy with
        | false =>
          refine iteT (iteT ⟨.int (i : Nat), rfl, _, rfl, fun dx hdx => ?_⟩)
          refine kE i ?_ _ s14 dx hdx
          rw [edue, hgo]
          refine accGo_bad fun j e => ?_
          subst e
          have h1 : (decide (0 ≤ j) && decide (j < m)) = false := hbl
          rw [h1, Bool.false_and]
        | true =>
          obtain ⟨j, rfl, hj⟩ := belowD_int hbl
          cases ry3
          refine iteF ⟨.int (i : Nat), rfl, (i : Nat), 0, rfl, rfl, _, rfl, ?_⟩
          have next : ns.getLast?.all (fun z => decide (z < j)) = true → ∃ (v2 v3 : Option V) (ns' : List Int), [some (V.int m), some (V.ref a), some (V.int (i : Nat)), some (V.int j)] = [some (.int m), some (.ref a), v2, v3] ∧ Same H1 (upd H2 Tt (.tup [.int (i : Nat), .int j])) ∧ ds.take (i + 1) = ns'.map PyData.int ∧
              accGo m none ds 0 = accGo m ns'.getLast? (ds.drop (i + 1)) ((i + 1 : Nat) : Int) := fun hlt => by
            refine ⟨_, _, ns ++ [j], rfl, s3.trans s4, ?_, ?_⟩
            · rw [List.take_succ, hdy, hns, List.map_append]
              rfl
            · rw [hgo, accGo_step hj hlt, List.getLast?_append]
              rfl
          have badj : ns.getLast?.all (fun z => decide (z < j)) = false → accDue m d = some ((i : Nat) : Int) := fun hlt => by
            rw [edue, hgo]
            refine accGo_bad fun j' e => ?_
            cases e
            rw [hlt, Bool.and_false]
          by_cases hi0 : i = 0
          · subst hi0
            have hn0 : ns = [] := List.length_eq_zero_iff.mp hnl
            subst hn0
            rw [decide_eq_false (by simp)]
            exact iteF (iteF (next rfl))
          · rw [decide_eq_true (by omega)]
            obtain ⟨ns0, z, rfl⟩ : ∃ ns0 z, ns = ns0 ++ [z] := by
              rcases List.eq_nil_or_concat ns with e | ⟨l, b, e⟩
              · subst e; simp at hnl; omega
              · exact ⟨l, b, by rw [e, List.concat_eq_append]⟩
            have hz : xs[i - 1]? = some (.int z) := by
              have h1 : ds[i - 1]? = some (.int z) := by
                have h2 : (ds.take i)[i - 1]? = some (.int z) := by
                  rw [hns, List.getElem?_map]
                  have : ns0.length = i - 1 := by simp at hnl; omega
                  rw [List.getElem?_append_right (by omega), this]
                  simp
                rw [List.getElem?_take_of_lt (by omega)] at h2
                exact h2
              have hlt : i - 1 < xs.length := by omega
              obtain ⟨d1, hd1, r1⟩ := hxs.get (List.getElem?_eq_getElem hlt)
              rw [h1] at hd1
              cases hd1
              rw [List.getElem?_eq_getElem hlt]
              generalize xs[i - 1] = x1 at r1
              cases r1
              rfl
            have ei : ((i : Nat) : Int) - 1 = ((i - 1 : Nat) : Int) := by omega
            refine iteT ⟨.int j, rfl, .ref a, rfl, .int (i : Nat), rfl, (i : Nat), 1, rfl, rfl, ?_⟩
            show rIx K (.ref a) (.int (((i : Nat) : Int) - 1)) _ _
            rw [ei]
            have fin : rIx K (.ref a) (.int ((i - 1 : Nat) : Int)) (upd H2 Tt (.tup [.int (i : Nat), .int j])) = rIx K (.ref a) (.int ((i - 1 : Nat) : Int)) (upd H2 Tt (.tup [.int (i : Nat), .int j])) := rfl
            have cases2 : ∀ Qx : VK, Qx (.int z) (upd H2 Tt (.tup [.int (i : Nat), .int j])) → rIx K (.ref a) (.int ((i - 1 : Nat) : Int)) (upd H2 Tt (.tup [.int (i : Nat), .int j])) Qx := fun Qx q => by
              rcases hsq4 with h | h
              · exact .inl ⟨a, xs, _, _, rfl, rfl, SqL.of h, atI_nat hz, q⟩
              · exact .inr (.inl ⟨a, xs, _, _, rfl, rfl, SqT.of h, atI_nat hz, q⟩)
            refine cases2 _ ⟨_, _, rfl, rfl, _, rfl, ?_⟩
            have elast : (ns0 ++ [z]).getLast? = some z := by simp
            rw [elast] at next badj
            by_cases hjz : j ≤ z
            · rw [decide_eq_true hjz]
              refine iteT ⟨.int (i : Nat), rfl, _, rfl, fun dx hdx => ?_⟩
              exact kE i (badj (by simp; omega)) _ s14 dx hdx
            · rw [decide_eq_false hjz]
              exact iteF (next (by simp; omega))
      · rintro σ H2 ⟨v2, v3, ns, rfl, s3, hns, hgo⟩
        rw [hl, List.take_length] at hns
        rw [hl, List.drop_length] at hgo
        have hnone : accDue m d = none := by rw [edue, hgo]; rfl
        have hsq3 := hsq.imp (fun z => s3 _ _ z) (fun z => s3 _ _ z)
        have etup : tupOf d = .tuple ds := by unfold tupOf; rw [hds]; rfl
        have hint : RtL H1 xs ds := by
          rw [hns] at hxs ⊢
          clear hgo hns hsq hsq3 edue hl hds hnone etup sm kE kQ S
          revert hxs
          generalize ns = l
          intro hxs
          refine rtl_of hxs.length fun i v x hv hx => ?_
          obtain ⟨x', hx', rx⟩ := hxs.get hv
          rw [hx] at hx'
          cases hx'
          rw [List.getElem?_map] at hx
          obtain ⟨j, _, rfl⟩ := Option.map_eq_some_iff.mp hx
          cases rx
          exact .int j
        refine ⟨.ref a, rfl, tupledK (K := K) hsq3 fun H' p s4 hp => ?_⟩
        refine kQ hnone _ _ (s1.trans (s3.trans s4)) ?_
        rw [etup]
        exact .tup hp (hint.tups (Same.tups (s3.trans s4)))
end
end Kx
set_option Elab.async false
set_option linter.all false
set_option maxRecDepth 100000
set_option maxHeartbeats 4000000
namespace Kx
open PySem PySem.Spec PyProof.Rows L2
/-! ### places: a list, a tuple, or the text's own () -/
def PlS (K : PySem.W.Frag) (H : Hp) (v : V) (d : PyData) : Prop := Rp H v d ∨ (d = .tuple [] ∧ ∃ a, v = .ref a ∧ KTup K a [])
theorem PlS.same {K : PySem.W.Frag} {H H' : Hp} {v : V} {d : PyData} (s : Same H H') (h : PlS K H v d) : PlS K H' v d := by
  rcases h with h | h
  · exact .inl (h.same s)
  · exact .inr h
theorem PlS.ko {K : PySem.W.Frag} {H : Hp} {v : V} {d : PyData} (h : PlS K H v d) : Ko K H v (kd d) := by
  rcases h with h | ⟨rfl, a, rfl, o, its, n, h1, h2, _⟩
  · exact h.ko
  · exact .kTuple h1 h2
/-- the sequence that stands there -/
theorem PlS.seq {K : PySem.W.Frag} {H : Hp} {v : V} {d : PyData} {ds : List PyData} (h : PlS K H v d) (e : itemsD d = some ds) : ∃ a xs, v = .ref a ∧ RpL H xs ds ∧ (H a = some (.lst xs) ∨ H a = some (.tup xs) ∨ (xs = [] ∧ KTup K a [])) := by
  rcases h with h | ⟨rfl, a, rfl, k⟩
  · obtain ⟨a, xs, h1, h2, h3 | h3⟩ := rp_seq h e
    · exact ⟨a, xs, h1, h2, .inl h3⟩
    · exact ⟨a, xs, h1, h2, .inr (.inl h3)⟩
  · cases e
    exact ⟨a, [], rfl, .nil, .inr (.inr ⟨rfl, k⟩)⟩
def Sq3 (K : PySem.W.Frag) (H : Hp) (a : Addr) (xs : List V) : Prop := H a = some (.lst xs) ∨ H a = some (.tup xs) ∨ (xs = [] ∧ KTup K a [])
theorem Sq3.same {K : PySem.W.Frag} {H H' : Hp} {a : Addr} {xs : List V} (s : Same H H') (h : Sq3 K H a xs) : Sq3 K H' a xs := by
  rcases h with h | h | h
  · exact .inl (s _ _ h)
  · exact .inr (.inl (s _ _ h))
  · exact .inr (.inr h)
theorem Sq3.sq {K : PySem.W.Frag} {H : Hp} {a : Addr} {xs : List V} (h : Sq3 K H a xs) : SqL K H a xs ∨ SqT K H a xs := by
  rcases h with h | h | ⟨rfl, h⟩
  · exact .inl (SqL.of h)
  · exact .inr (SqT.of h)
  · exact .inr h.sq
theorem sqT_same {K : PySem.W.Frag} {H H' : Hp} {a : Addr} {xs : List V} (s : Same H H') (h : SqT K H a xs) : SqT K H' a xs := by
  rcases h with (h | ⟨o, h⟩) | h
  · exact .inl (.inl (s _ _ h))
  · exact .inl (.inr ⟨o, s _ _ h⟩)
  · exact .inr h
theorem Sq3.len {K : PySem.W.Frag} {H : Hp} {a : Addr} {xs : List V} (h : Sq3 K H a xs) : LenV K (.ref a) H xs.length := by
  rcases h.sq with h | h
  · exact .inl ⟨xs, h, rfl⟩
  · exact .inr ⟨xs, h, rfl⟩
theorem Sq3.src {K : PySem.W.Frag} {H : Hp} {a : Addr} {xs : List V} (h : Sq3 K H a xs) : ∃ G, Src K (.ref a) xs.length G (fun i v => xs[i]? = some v) ∧ G H ∧ ∀ H', Same H H' → G H' := by
  rcases h with h | h | ⟨rfl, h⟩
  · exact ⟨_, .lst a xs, h, fun H' s => s _ _ h⟩
  · exact ⟨_, .tup a xs, h, fun H' s => s _ _ h⟩
  · exact ⟨_, h.src, trivial, fun _ _ => trivial⟩
section
variable {P : Program} {w : World} {K : PySem.W.Frag} {mg : Str → Option Value} {base : Heap}
def sp_check_places (K : PySem.W.Frag) : Sp := fun vs H Q E => ∃ (ns row : Str) (v : V) (d : PyData), vs = [.str ns, .str row, v] ∧ PlS K H v d ∧ smallD d ∧ ns.length ≤ 4 ∧ row.length ≤ 200 ∧
  (moveD ns.length row.length d = false → errAt (He.ga K "BadPlaces") "thing" v H E) ∧ (moveD ns.length row.length d = true → ∀ H', Same H H' → Q .non H')
theorem ok_check_places (T : Txt K mg) : Cal P w K mg base (L2N.CX P w) 4 "check_places" ["names", "row", "thing"] (sp_check_places K) := by
  obtain ⟨fd, F⟩ := F_check_places T
  obtain ⟨fdR, FRBadPlaces⟩ := F_BadPlaces___init__ T
  have bRBadPlaces : Binds K fdR ["self", "thing"] [] := FRBadPlaces.bindsN fun _ _ _ _ _ _ us hl => match us, hl with | [_, _], _ => rfl
  have exBadPlaces : Ex K "BadPlaces" ["thing"] := ex_of T 2
  refine cal_mk F (g_check_places T) sc_check_places (fun _ _ _ _ _ _ us hl => match us, hl with | [_, _, _], _ => rfl) (fun vs H Q E h => ?_) (fun cdv A outer s H vs Q E hr h => ?_)
  · obtain ⟨ns, row, v, d, rfl, _⟩ := h; rfl
  · refine ⟨_, (pss_cons (ps_if (PW.pt (pw_or (pt_not (pt_val (pe_cal (ok_is_listing T) (hr.mono (by decide)) pass0 (pa_cons (pv 2) pa_nil)))) (pw_or1 (pt_cmpR op_ne (pe_callB call_len (by rfl) (fr_len T) boot_len (pa_cons (pv 2) pa_nil)) (pe_callB call_len (by rfl) (fr_len T) boot_len (pa_cons (pv 0) pa_nil)) (nomark _))))) (pss_one (ps_raise1 exBadPlaces (f := "thing") (by decide) rfl (ini_thing FRBadPlaces) bRBadPlaces (hr.mono (by decide)) (L2N.takes_of rfl rfl rfl rfl) (g_BadPlaces T) (pa_cons (pv 2) pa_nil))) pss_nil)
        (pss_one (ps_if (pt_not (pt_val (pe_callB (cr_all rfl) (by rfl) (fr_all T) b_all (pa_cons (pe_lc (te := tCall (sp_is_below K) [] E0 (tCons (tVar 3) (tCons (tCB (rLen K) (tCons (tVar 1) tNil)) tNil))) (own := [("place", 3)]) (g := (gName 3)) (tt := tYes) rfl sc_check_places.nd  (pi_seq (pv 2)) (blkOk_by (N := N_check_places) (sc := defScope s_check_places) (by decide +kernel)) (fun _ _ _ _ _ => (pg_name (i := 3) sc_check_places.nd rfl (Or.inl rfl))) (fun _ _ _ _ _ => pts_nil) (fun _ _ _ _ _ => by refine pe_cal (ok_is_below T) (hr.mono (by decide)) pass0 (pa_cons (pv 3) (pa_cons ?_ pa_nil)); exact pe_callB call_len (by rfl) (fr_len T) boot_len (pa_cons (pv 1) pa_nil))) pa_nil)))) (pss_one (ps_raise1 exBadPlaces (f := "thing") (by decide) rfl (ini_thing FRBadPlaces) bRBadPlaces (hr.mono (by decide)) (L2N.takes_of rfl rfl rfl rfl) (g_BadPlaces T) (pa_cons (pv 2) pa_nil))) pss_nil))), ?_⟩
    obtain ⟨ns, row, v, d, rfl, rd, sm, h4, h200, kE, kQ⟩ := h
    refine ⟨v, rfl, v, kd d, rfl, rd.ko, fun H1 s1 => ⟨_, rfl, ?_⟩⟩
    have rd1 := rd.same s1
    cases hb : (kd d == Kd.lst || kd d == Kd.tup) with
    | false =>
      refine iteT (iteT ?_)
      have e : moveD ns.length row.length d = false := by unfold moveD; rw [itemsD_none hb]
      exact ⟨v, rfl, v, rfl, fun dx hd => kE e H1 s1 dx hd⟩
    | true =>
      refine iteF ?_
      obtain ⟨ds, hds⟩ := itemsD_kd hb
      obtain ⟨a, xs, rfl, hxs, hsq⟩ := rd1.seq hds
      have hsq : Sq3 K H1 a xs := hsq
      have hl : xs.length = ds.length := hxs.length
      have e : moveD ns.length row.length d = (decide ((ds.length : Int) = (ns.length : Nat)) && ds.all (belowD row.length)) := by unfold moveD; rw [hds]
      refine ⟨.ref a, rfl, _, _, rfl, hsq.len, .str ns, rfl, _, _, rfl, lenV_str (by omega), rfl, _, rfl, ?_⟩
      rw [dec_int, hl]
      by_cases hll : ((ds.length : Nat) : Int) = ((ns.length : Nat) : Int)
      · rw [decide_eq_true hll]
        refine iteF ?_
        have hn : xs.length ≤ sizeLine := by rw [hl]; exact Nat.le_trans (sm ds hds) (by decide)
        rw [decide_eq_true hll, Bool.true_and] at e
        refine ⟨.ref a, rfl, a, xs, rfl, ?_⟩
        have hsq0 := hsq.sq
        rcases hsq0 with h | h
        case' inl => refine Or.inl ⟨h, fun J WJ D hD => ?_⟩
        case' inr => refine Or.inr ⟨h, fun J WJ D hD => ?_⟩
        all_goals
          refine lc_new WJ hD hn (fun (i : Nat) _ v => ∀ x, ds[i]? = some x → v = V.bl (belowD row.length x)) (fun _ _ _ _ _ h => h) (fun G3 s => by first | exact (s.seq h) | exact (sqT_same s h))
            (fun i x G3 G4 Qk hi sH hy hk => ?_) (fun G3 acc s4 hD4 hla hacc => ?_)
          · obtain ⟨rfl, hx3⟩ := hy
            obtain ⟨dx, hdx, rx⟩ := hxs.get hx3
            have rx2 := rx.same sH
            refine ⟨rfl, x, rfl, .str row, rfl, _, _, rfl, lenV_str (by omega), x, _, _, rfl, rx2.ko, hk _ _ (Same.refl _) fun y hy => ?_⟩
            rw [hdx] at hy
            cases hy
            rw [below_rp rx2]
          · have ea : acc = (ds.map fun x => belowD row.length x).map V.bl := by
              refine bls_of (by rw [List.length_map, hla, hl]) fun i v hv b hb => ?_
              rw [List.getElem?_map] at hb
              obtain ⟨x, hx, rfl⟩ := Option.map_eq_some_iff.mp hb
              exact hacc i v hv x hx
            refine ⟨D, _, rfl, SqL.of (by rw [hD4, ea]), ?_⟩
            have e2 : (ds.map fun x => belowD row.length x).all id = ds.all (belowD row.length) := by
              rw [List.all_map]
              rfl
            refine ⟨_, rfl, ?_⟩
            rw [e2]
            cases hb2 : ds.all (belowD row.length) with
            | false =>
              rw [hb2] at e
              exact iteT ⟨.ref a, rfl, .ref a, rfl, fun dx hd => kE e _ (s1.trans s4) dx hd⟩
            | true =>
              rw [hb2] at e
              exact iteF (kQ e _ (s1.trans s4))
      · rw [decide_eq_false hll]
        rw [decide_eq_false hll, Bool.false_and] at e
        refine iteT ⟨.ref a, rfl, .ref a, rfl, fun dx hd => kE e H1 s1 dx hd⟩
end
end Kx
set_option Elab.async false
set_option linter.all false
set_option maxRecDepth 100000
set_option maxHeartbeats 4000000
namespace Kx
open PySem PySem.Spec PyProof.Rows L2
def ixF (al : Str) (c : Nat) : Nat := (Txt.find al ⟨#[c]⟩).toNat
theorem find_in {al : Str} {c : Nat} (h : c ∈ al.cps.toList) : 0 ≤ Txt.find al ⟨#[c]⟩ ∧ Txt.find al ⟨#[c]⟩ < (al.length : Int) := by
  have h1 := PySem.StrLaws.found_one al c
  rw [decide_eq_true h] at h1
  have e0 : (Builtin.Str.occurrences al ⟨#[c]⟩ 0 al.length 1).isEmpty = false := by
    cases hq : (Builtin.Str.occurrences al ⟨#[c]⟩ 0 al.length 1).isEmpty with
    | false => rfl
    | true => rw [hq] at h1; cases h1
  have h2 : Txt.find al ⟨#[c]⟩ ≠ -1 := by
    unfold Txt.find
    cases ho : Builtin.Str.occurrences al ⟨#[c]⟩ 0 al.length 1 with
    | nil => rw [ho] at e0; cases e0
    | cons i r => intro z; simp at z; try omega
  have h3 := PyProof.Rows.fact_find al ⟨#[c]⟩
  have h4 : ((⟨#[c]⟩ : Str).length : Int) = 1 := rfl
  rcases h3 with h3 | h3
  · exact absurd h3 h2
  · omega
abbrev Tab := List (List Nat)
def encM (m : List Nat) : PyData := .tuple (m.map fun k : Nat => .int (k : Nat))
def encR (t : Tab) : PyData := .tuple (t.map encM)
structure TabOk (t : Tab) (l : Nat) : Prop where
  pos : 1 ≤ t.length
  le : t.length ≤ 60
  row : ∀ m ∈ t, m.length = l
  lt : ∀ m ∈ t, ∀ k ∈ m, k < t.length
def natD : PyData → Nat
  | .int i => i.toNat
  | _ => 0
def moveT (x : PyData) : List Nat := ((itemsD x).getD []).map natD
theorem ints_back {m : Int} : ∀ {ms : List PyData}, ms.all (belowD m) = true → (ms.map natD).map (fun k => PyData.int (k : Nat)) = ms ∧ ∀ k ∈ ms.map natD, (k : Int) < m
  | [], _ => ⟨rfl, fun k hk => absurd hk (by simp)⟩
  | d :: ms, h => by
    rw [List.all_cons, Bool.and_eq_true] at h
    obtain ⟨h1, h2⟩ := ints_back h.2
    cases d with
    | int i =>
      have hb : (decide (0 ≤ i) && decide (i < m)) = true := h.1
      rw [Bool.and_eq_true, decide_eq_true_eq, decide_eq_true_eq] at hb
      have ei : ((natD (.int i) : Nat) : Int) = i := Int.toNat_of_nonneg hb.1
      constructor
      · rw [List.map_cons, List.map_cons, h1, ei]
      · intro k hk
        rcases List.mem_cons.mp hk with e | hk
        · rw [e, ei]; exact hb.2
        · exact h2 k hk
    | _ => exact Bool.noConfusion h.1
theorem move_back {l m : Nat} {x : PyData} (h : moveD l m x = true) : encM (moveT x) = tupOf x ∧ (moveT x).length = l ∧ ∀ k ∈ moveT x, k < m := by
  unfold moveD at h
  cases hi : itemsD x with
  | none => rw [hi] at h; cases h
  | some ms =>
    rw [hi, Bool.and_eq_true, decide_eq_true_eq] at h
    obtain ⟨h1, h2⟩ := h
    obtain ⟨h3, h4⟩ := ints_back h2
    have em : moveT x = ms.map natD := by unfold moveT; rw [hi]; rfl
    refine ⟨?_, ?_, ?_⟩
    · unfold encM tupOf
      rw [em, hi, h3]
      rfl
    · rw [em, List.length_map]; omega
    · rw [em]
      intro k hk
      have := h4 k hk
      omega
theorem firstBad_all {p : PyData → Bool} : ∀ {ds : List PyData} {k : Int}, firstBad p ds k = none → ∀ x ∈ ds, p x = true
  | [], _, _, x, hx => by cases hx
  | d :: ds, k, h, x, hx => by
    unfold firstBad at h
    by_cases hp : p d = true
    · rw [if_pos hp] at h
      rcases List.mem_cons.mp hx with e | hx
      · rw [e]; exact hp
      · exact firstBad_all h x hx
    · rw [if_neg hp] at h; cases h
def tabD (d : PyData) : Tab := ((itemsD d).getD []).map moveT
theorem moves_back {na : Nat} {d : PyData} (h : movesDue na d = none) : keptD d = encR (tabD d) ∧ TabOk (tabD d) na := by
  unfold movesDue at h
  cases hi : itemsD d with
  | none => rw [hi] at h; cases h
  | some ds =>
    rw [hi] at h
    dsimp only at h
    by_cases hn : 1 ≤ ds.length ∧ ds.length ≤ 60
    · rw [if_pos hn] at h
      have hall := firstBad_all h
      have et : tabD d = ds.map moveT := by unfold tabD; rw [hi]; rfl
      have el : (tabD d).length = ds.length := by rw [et, List.length_map]
      constructor
      · unfold keptD encR
        rw [et, hi, List.map_map]
        congr 1
        show ds.map tupOf = ds.map (encM ∘ moveT)
        exact List.map_congr_left fun x hx => (move_back (hall x hx)).1.symm
      · refine ⟨by omega, by omega, fun m hm => ?_, fun m hm k hk => ?_⟩
        · rw [et] at hm
          obtain ⟨x, hx, rfl⟩ := List.mem_map.mp hm
          exact (move_back (hall x hx)).2.1
        · rw [et] at hm
          obtain ⟨x, hx, rfl⟩ := List.mem_map.mp hm
          rw [el]
          exact (move_back (hall x hx)).2.2 k hk
    · rw [if_neg hn] at h; cases h
theorem accGo_back {m : Int} : ∀ {ds : List PyData} {p : Option Int} {k : Int}, accGo m p ds k = none → ds.all (belowD m) = true
  | [], _, _, _ => rfl
  | d :: ds, p, k, h => by
    cases d with
    | int i =>
      have h' : (if (decide (0 ≤ i) && decide (i < m)) && p.all (fun j => decide (j < i)) then accGo m (some i) ds (k + 1) else some k) = none := h
      cases hb : (decide (0 ≤ i) && decide (i < m)) with
      | false => rw [hb, Bool.false_and, if_neg Bool.false_ne_true] at h'; cases h'
      | true =>
        rw [hb, Bool.true_and] at h'
        split at h'
        · rw [List.all_cons, accGo_back h', Bool.and_true]
          exact hb
        · cases h'
    | _ => cases h
theorem acc_back {m : Nat} {d : PyData} (h : accDue (m : Nat) d = none) : tupOf d = encM (moveT d) ∧ ∀ k ∈ moveT d, k < m := by
  unfold accDue at h
  cases hi : itemsD d with
  | none => rw [hi] at h; cases h
  | some ds =>
    rw [hi] at h
    obtain ⟨h3, h4⟩ := ints_back (accGo_back h)
    have em : moveT d = ds.map natD := by unfold moveT; rw [hi]; rfl
    refine ⟨?_, fun k hk => ?_⟩
    · unfold encM tupOf
      rw [em, hi, h3]
      rfl
    · rw [em] at hk
      have := h4 k hk
      omega
/-- all that was tracked stands, but x's own fields -/
def SameX (x : Addr) (H H' : Hp) : Prop := ∀ b o, b ≠ x → H b = some o → H' b = some o
theorem sX {x : Addr} {H H' : Hp} (s : Same H H') : SameX x H H' := fun b o _ e => s b o e
theorem SameX.trans {x : Addr} {H H1 H2 : Hp} (a : SameX x H H1) (b : SameX x H1 H2) : SameX x H H2 := fun c o hc h => b c o hc (a c o hc h)
theorem SameX.tups {x : Addr} {H H' : Hp} (s : SameX x H H') (hx : ∀ xs, H x ≠ some (.tup xs)) : Tups H H' := fun b xs e => s b _ (fun z => hx xs (z ▸ e)) e
theorem sameX_upd {x : Addr} {H : Hp} {o : HO} : SameX x H (upd H x o) := fun b u hb e => by rw [upd_ne hb]; exact e
mutual
theorem Rp.samex {x : Addr} {H H' : Hp} {C dx : Addr} {fs : List (Str × V)} (hx : H x = some (.ins C dx fs)) (s : SameX x H H') : ∀ {v : V} {d : PyData}, Rp H v d → Rp H' v d
  | _, _, .non => .non
  | _, _, .bl b => .bl b
  | _, _, .int i => .int i
  | _, _, .str z => .str z
  | _, _, .lst e h => .lst (s _ _ (fun z => by rw [z, hx] at e; cases e) e) (RpL.samex hx s h)
  | _, _, .tup e h => .tup (s _ _ (fun z => by rw [z, hx] at e; cases e) e) (RpL.samex hx s h)
  | _, _, .dct e => .dct (s _ _ (fun z => by rw [z, hx] at e; cases e) e)
theorem RpL.samex {x : Addr} {H H' : Hp} {C dx : Addr} {fs : List (Str × V)} (hx : H x = some (.ins C dx fs)) (s : SameX x H H') : ∀ {vs : List V} {ds : List PyData}, RpL H vs ds → RpL H' vs ds
  | _, _, .nil => .nil
  | _, _, .cons h hs => .cons (Rp.samex hx s h) (RpL.samex hx s hs)
end
/-! ### a reader -/
structure RdD where
  al : Str
  ns : Str
  mv : Tab
  ac : List Nat
def fldsR (al ns : Str) (vm vc : V) : List (Str × V) := [("alphabet", .str al), ("names", .str ns), ("moves", vm), ("accepted", vc)]
def RdAt (K : PySem.W.Frag) (H : Hp) (x : Addr) (D : RdD) : Prop := ∃ (dx : Addr) (vm vc : V), H x = some (.ins (He.ga K "Reader") dx (fldsR D.al D.ns vm vc)) ∧ H dx = some (.own x) ∧ Rt H vm (encR D.mv) ∧ Rt H vc (encM D.ac)
structure RdOk (D : RdD) : Prop where
  al : alphaL D.al.cps.toList = true
  ns : namesD (.str D.ns) = true
  mv : TabOk D.mv (D.al.length * 2 ^ D.ns.length)
  ac : ∀ k ∈ D.ac, k < D.mv.length
theorem RdAt.same {K : PySem.W.Frag} {H H' : Hp} {x : Addr} {D : RdD} (s : Same H H') (h : RdAt K H x D) : RdAt K H' x D := by
  obtain ⟨dx, vm, vc, h1, h2, h3, h4⟩ := h
  exact ⟨dx, vm, vc, s _ _ h1, s _ _ h2, h3.tups (Same.tups s), h4.tups (Same.tups s)⟩
theorem RdOk.al8 {D : RdD} (h : RdOk D) : 1 ≤ D.al.length ∧ D.al.length ≤ 8 := by
  have h1 := h.al
  unfold alphaL at h1
  rw [Bool.and_eq_true, decide_eq_true_eq] at h1
  have h2 : D.al.cps.toList.length = D.al.length := Array.length_toList
  omega
theorem RdOk.ns4 {D : RdD} (h : RdOk D) : D.ns.length ≤ 4 := by
  have h1 : (decide (D.ns.length ≤ 4) && _) = true := h.ns
  rw [Bool.and_eq_true, decide_eq_true_eq] at h1
  exact h1.1
inductive RDue where
  | alph | names | move (k : Int) | acc (k : Int) | ok
def alS : PyData → Str
  | .str z => z
  | _ => ⟨#[]⟩
def lenD (d : PyData) : Nat := ((itemsD d).getD []).length
def readDue (a n m c : PyData) : RDue := if alphaD a = true then (if namesD n = true then
    (match movesDue ((alS a).length * 2 ^ (alS n).length) m with
    | some k => .move k
    | none => match accDue (lenD m : Nat) c with
      | some k => .acc k
      | none => .ok)
  else .names) else .alph
def readD (a n m c : PyData) : RdD := ⟨alS a, alS n, tabD m, moveT c⟩
/-- the error due, at a heap -/
def readErr (K : PySem.W.Frag) (va vn : V) (due : RDue) (H : Hp) (E : XK) : Prop := ∀ dx, H dx = none → match due with
  | .alph => E (.ref (He.ga K "BadAlphabet")) (some dx) (upd H dx (.xd [("thing", va)]))
  | .names => E (.ref (He.ga K "BadNames")) (some dx) (upd H dx (.xd [("thing", vn)]))
  | .move k => E (.ref (He.ga K "BadMove")) (some dx) (upd H dx (.xd [("number", .int k)]))
  | .acc k => E (.ref (He.ga K "BadAccepted")) (some dx) (upd H dx (.xd [("number", .int k)]))
  | .ok => True
section
variable {P : Program} {w : World} {K : PySem.W.Frag} {mg : Str → Option Value} {base : Heap}
def sp_Reader_init (K : PySem.W.Frag) : Sp := fun vs H Q E => ∃ (x dx : Addr) (va vn vm vc : V) (a n m c : PyData), vs = [.ref x, va, vn, vm, vc] ∧ H x = some (.ins (He.ga K "Reader") dx []) ∧ H dx = some (.own x) ∧ dx ≠ x ∧
  Rp H va a ∧ Rp H vn n ∧ Rp H vm m ∧ Rp H vc c ∧ (smallT a ∧ smallT n ∧ smallR m ∧ smallL c) ∧
  (∀ H', SameX x H H' → readErr K va vn (readDue a n m c) H' E) ∧
  (readDue a n m c = .ok → ∀ H', SameX x H H' → RdAt K H' x (readD a n m c) → RdOk (readD a n m c) → Q .non H')
theorem ok_Reader_init {f : Addr} {fd : FuncData} (T : Txt K mg) (F : FnP K "__init__" "Reader.__init__" s_Reader___init__ f fd) :
    FnOk P w K mg base (L2N.CX P w) 5 f fd ["self", "alphabet", "names", "moves", "accepted"] (sp_Reader_init K) := by
  obtain ⟨fdR, FRBadNames⟩ := F_BadNames___init__ T
  have bRBadNames : Binds K fdR ["self", "thing"] [] := FRBadNames.bindsN fun _ _ _ _ _ _ us hl => match us, hl with | [_, _], _ => rfl
  have exBadNames : Ex K "BadNames" ["thing"] := ex_of T 1
  refine F.ok sc_Reader___init__ (fun vs H Q E h => ?_) (fun cdv A outer s H vs Q E hr h => ?_)
  · obtain ⟨x, dx, va, vn, vm, vc, a, n, m, c, rfl, _⟩ := h; rfl
  · refine ⟨_, (pss_cons (ps_expr (pe_cal (E := E) (ok_check_alphabet T) (hr.mono (by decide)) (L2N.passes_call (L2N.takes_of rfl rfl rfl rfl) (fun _ _ _ _ h => h)) (pa_cons (pv 1) pa_nil)))
        (pss_cons (ps_if (pt_not (pt_val (pe_cal (ok_is_names T) (hr.mono (by decide)) pass0 (pa_cons (pv 2) pa_nil)))) (pss_one (ps_raise1 exBadNames (f := "thing") (by decide) rfl (ini_thing FRBadNames) bRBadNames (hr.mono (by decide)) (L2N.takes_of rfl rfl rfl rfl) (g_BadNames T) (pa_cons (pv 2) pa_nil))) pss_nil)
        (pss_cons (ps_fld (pv 0) (pv 1) rfl)
        (pss_cons (ps_fld (pv 0) (pv 2) rfl)
        (pss_cons (ps_fld (pv 0) (pe_cal (E := E) (ok_kept_moves T) (hr.mono (by decide)) (L2N.passes_call (L2N.takes_of rfl rfl rfl rfl) (fun _ _ _ _ h => h)) (pa_cons (pe_cal (ok_flagged_letters T) (hr.mono (by decide)) pass0 (pa_cons (pv 1) (pa_cons (pv 2) pa_nil))) (pa_cons (pv 3) pa_nil))) rfl)
        (pss_one (ps_fld (pv 0) (pe_cal (E := E) (ok_kept_accepted T) (hr.mono (by decide)) (L2N.passes_call (L2N.takes_of rfl rfl rfl rfl) (fun _ _ _ _ h => h)) (pa_cons (pe_callB call_len (by rfl) (fr_len T) boot_len (pa_cons (pe_fld (pv 0) rfl) pa_nil)) (pa_cons (pv 4) pa_nil))) rfl))))))), ?_⟩
    obtain ⟨x, dx, va, vn, vm, vc, a, n, m, c, rfl, hx, hdx, hne, ra, rn, rm, rc, sm, kE, kQ⟩ := h
    have C := cls_Reader T
    -- the alphabet
    refine ⟨va, rfl, va, a, rfl, ra, sm.1, fun hb H1 s1 d1 hd1 => ?_, fun hb H1 s1 => ?_⟩
    · have e : readDue a n m c = .alph := by unfold readDue; rw [if_neg (by rw [hb]; exact Bool.false_ne_true)]
      have := kE H1 (sX s1) d1 hd1
      rw [e] at this
      exact this
    obtain ⟨z, rfl⟩ := alpha_str hb
    have eva : va = .str z := by cases ra; rfl
    subst eva
    have hal : alphaL z.cps.toList = true := hb
    have hz8 : z.length ≤ 8 := by
      have h1 := hal
      unfold alphaL at h1
      rw [Bool.and_eq_true, decide_eq_true_eq] at h1
      have h2 : z.cps.toList.length = z.length := Array.length_toList
      omega
    -- the names
    refine ⟨vn, rfl, vn, n, rfl, rn.same s1, sm.2.1, fun H2 s2 => ⟨_, rfl, ?_⟩⟩
    have s02 := s1.trans s2
    cases hbn : namesD n with
    | false =>
      have e : readDue (.str z) n m c = .names := by unfold readDue; rw [if_pos hb, if_neg (by rw [hbn]; exact Bool.false_ne_true)]
      refine iteT ⟨vn, rfl, vn, rfl, fun d1 hd1 => ?_⟩
      have := kE H2 (sX s02) d1 hd1
      rw [e] at this
      exact this
    | true =>
    refine iteF ?_
    obtain ⟨y, rfl⟩ : ∃ y, n = .str y := by cases n <;> first | exact ⟨_, rfl⟩ | (exact Bool.noConfusion hbn)
    have evn : vn = .str y := by cases rn; rfl
    subst evn
    have hy4 : y.length ≤ 4 := by
      have h1 : (decide (y.length ≤ 4) && _) = true := hbn
      rw [Bool.and_eq_true, decide_eq_true_eq] at h1
      exact h1.1
    have due : readDue (.str z) (.str y) m c = (match movesDue (z.length * 2 ^ y.length) m with
      | some k => .move k
      | none => match accDue (lenD m : Nat) c with
        | some k => .acc k
        | none => .ok) := by
      unfold readDue
      rw [if_pos hb, if_pos hbn]
      rfl
    have hx2 := s02 _ _ hx
    refine ⟨.str z, rfl, .ref x, rfl, x, _, dx, [], rfl, hx2, C, noat_alphabet T, (by decide), ?_⟩
    have s3 : SameX x H (upd H2 x (.ins (He.ga K "Reader") dx (putF "alphabet" (.str z) []))) := (sX s02).trans sameX_upd
    refine ⟨.str y, rfl, .ref x, rfl, x, _, dx, _, rfl, upd_same, C, noat_names T, (by show 1 < 1000; decide), ?_⟩
    have s4 : SameX x H (upd (upd H2 x (.ins (He.ga K "Reader") dx (putF "alphabet" (.str z) []))) x (.ins (He.ga K "Reader") dx (putF "names" (.str y) (putF "alphabet" (.str z) [])))) := s3.trans sameX_upd
    have ex4 : upd (upd H2 x (.ins (He.ga K "Reader") dx (putF "alphabet" (.str z) []))) x (.ins (He.ga K "Reader") dx (putF "names" (.str y) (putF "alphabet" (.str z) []))) x = some (.ins (He.ga K "Reader") dx (putF "names" (.str y) (putF "alphabet" (.str z) []))) := upd_same
    revert s4 ex4
    generalize upd (upd H2 x (.ins (He.ga K "Reader") dx (putF "alphabet" (.str z) []))) x (.ins (He.ga K "Reader") dx (putF "names" (.str y) (putF "alphabet" (.str z) []))) = H4
    intro s4 ex4
    -- the moves
    refine ⟨.str z, rfl, .str y, rfl, z, y, rfl, hz8, hy4, vm, rfl, _, vm, m, rfl, rm.samex hx s4, sm.2.2.1, fun k hk H5 s5 d5 hd5 => ?_, fun hk H5 r5 s5 t5 => ?_⟩
    · have := kE H5 (s4.trans (sX s5)) d5 hd5
      rw [due, hk] at this
      exact this
    rw [hk] at due
    obtain ⟨eR, tR⟩ := moves_back hk
    rw [eR] at t5
    refine ⟨.ref x, rfl, x, _, dx, _, rfl, s5 _ _ ex4, C, noat_moves T, (by show 2 < 1000; decide), ?_⟩
    have s6 : SameX x H (upd H5 x (.ins (He.ga K "Reader") dx (putF "moves" r5 (putF "names" (.str y) (putF "alphabet" (.str z) []))))) := (s4.trans (sX s5)).trans sameX_upd
    have nt5 : Tups H5 (upd H5 x (.ins (He.ga K "Reader") dx (putF "moves" r5 (putF "names" (.str y) (putF "alphabet" (.str z) []))))) := sameX_upd.tups fun xs e => by rw [s5 _ _ ex4] at e; cases e
    have u6 := t5.tups nt5
    have hlM : ((tabD m).map encM).length = lenD m := by unfold tabD lenD; rw [List.length_map, List.length_map]
    obtain ⟨aM, xsM, rfl, hM, hxM⟩ : ∃ aM xsM, r5 = .ref aM ∧ upd H5 x (.ins (He.ga K "Reader") dx (putF "moves" r5 (putF "names" (.str y) (putF "alphabet" (.str z) [])))) aM = some (.tup xsM) ∧ xsM.length = lenD m := by
      unfold encR at u6
      cases u6 with
      | tup e1 h1 => exact ⟨_, _, rfl, e1, h1.length.trans hlM⟩
    -- what is accepted
    refine ⟨.ref x, rfl, x, _, dx, _, _, rfl, upd_same, C, noat_moves T, rfl, .ref aM, lenD m, rfl, .inr ⟨xsM, SqT.of hM, hxM.symm⟩, vc, rfl, _, vc, c, rfl, rc.samex hx s6, sm.2.2.2, fun k hk H7 s7 d7 hd7 => ?_, fun hk H7 r7 s7 t7 => ?_⟩
    · have := kE H7 (s6.trans (sX s7)) d7 hd7
      rw [due] at this
      dsimp only at this
      rw [hk] at this
      exact this
    dsimp only at due
    rw [hk] at due
    obtain ⟨eC, tC⟩ := acc_back hk
    rw [eC] at t7
    refine ⟨.ref x, rfl, x, _, dx, _, rfl, s7 _ _ upd_same, C, noat_accepted T, (by show 3 < 1000; decide), ?_⟩
    have nt7 : Tups H7 (upd H7 x (.ins (He.ga K "Reader") dx (putF "accepted" r7 (putF "moves" (.ref aM) (putF "names" (.str y) (putF "alphabet" (.str z) [])))))) := sameX_upd.tups fun xs e => by rw [s7 _ _ upd_same] at e; cases e
    have hll : (tabD m).length = lenD m := by rw [← hlM, List.length_map]
    refine kQ due _ ((s6.trans (sX s7)).trans sameX_upd) ⟨dx, .ref aM, r7, upd_same, ((s6.trans (sX s7)).trans sameX_upd) _ _ hne hdx, (u6.tups (Same.tups s7)).tups nt7, t7.tups nt7⟩ ⟨hal, hbn, tR, fun k hk => ?_⟩
    show k < (tabD m).length
    rw [hll]
    exact tC k hk
end
end Kx
set_option Elab.async false
set_option linter.all false
set_option maxRecDepth 100000
set_option maxHeartbeats 4000000
namespace Kx
open PySem PySem.Spec PyProof.Rows L2
/-! ### what a reader does -/
def Tab.at (t : Tab) (p k : Nat) : Nat := (t.getD p []).getD k 0
/-- the letters' names at a place -/
def borne (ns : List Nat) (ps : List Int) (at_ : Nat) : List Nat := ((ns.zip ps).filter fun x => decide (x.2 = (at_ : Int))).map (·.1)
def moveNo (D : RdD) (c at_ : Nat) (ps : List Int) : Nat := ixF D.al c * 2 ^ D.ns.length + bitsSum (D.ns.cps.toList.map fun n => decide (n ∈ borne D.ns.cps.toList ps at_)) 0
def runTo (D : RdD) (cs : List Nat) (ps : List Int) : Nat → Nat
  | 0 => 0
  | i + 1 => match cs[i]? with
    | some c => D.mv.at (runTo D cs ps i) (moveNo D c i ps)
    | none => runTo D cs ps i
def accepts (D : RdD) (cs : List Nat) (ps : List Int) : Bool := decide (runTo D cs ps cs.length ∈ D.ac)
def intD : PyData → Int
  | .int i => i
  | _ => 0
def placesI (d : PyData) : List Int := ((itemsD d).getD []).map intD
theorem ascL_nodup {l : List Nat} (h : ascL l = true) : l.Nodup := by
  have h2 : ∀ l : List Nat, ascL l = true → l.Pairwise (· < ·) := by
    intro l
    induction l with
    | nil => intro _; exact List.Pairwise.nil
    | cons c l ih =>
      intro h
      cases l with
      | nil => exact List.pairwise_singleton _ _
      | cons d l =>
        have h1 : (decide ([c] < [d]) && ascL (d :: l)) = true := h
        rw [Bool.and_eq_true, decide_eq_true_eq] at h1
        have hlt : c < d := by
          have := h1.1
          rw [List.cons_lt_cons_iff] at this
          rcases this with h | ⟨_, h⟩
          · exact h
          · exact absurd h (List.not_lt_nil _)
        have ih2 := ih h1.2
        refine List.pairwise_cons.mpr ⟨fun x hx => ?_, ih2⟩
        rcases List.mem_cons.mp hx with rfl | hx
        · exact hlt
        · exact Nat.lt_trans hlt ((List.pairwise_cons.mp ih2).1 x hx)
  exact (h2 l h).imp fun h => Nat.ne_of_lt h
theorem RdOk.bits (D : RdD) (f : Nat → Bool) : bitsSum (D.ns.cps.toList.map f) 0 < 2 ^ D.ns.length := by
  have h := bitsSum_lt (D.ns.cps.toList.map f) 0
  have e : (D.ns.cps.toList.map f).length = D.ns.length := by rw [List.length_map]; exact Array.length_toList
  rw [e, Nat.zero_add] at h
  have : 1 ≤ 2 ^ 0 := Nat.le_refl _
  omega
theorem moveNo_lt {D : RdD} {c a : Nat} {ps : List Int} (hc : c ∈ D.al.cps.toList) : moveNo D c a ps < D.al.length * 2 ^ D.ns.length := by
  have h1 := RdOk.bits D (fun n => decide (n ∈ borne D.ns.cps.toList ps a))
  have h2 := find_in hc
  have h3 : ixF D.al c < D.al.length := by unfold ixF; omega
  unfold moveNo
  have h4 : (ixF D.al c + 1) * 2 ^ D.ns.length ≤ D.al.length * 2 ^ D.ns.length := Nat.mul_le_mul_right _ h3
  rw [Nat.add_mul, Nat.one_mul] at h4
  omega
theorem TabOk.get {t : Tab} {l p k : Nat} (h : TabOk t l) (hp : p < t.length) (hk : k < l) : ∃ m, t[p]? = some m ∧ m[k]? = some (t.at p k) ∧ t.at p k < t.length := by
  have e1 := List.getElem?_eq_getElem hp
  have hm : t[p] ∈ t := List.getElem_mem hp
  have hr := h.row _ hm
  have hk2 : k < t[p].length := by omega
  have ea : t.at p k = t[p][k] := by
    have eg : List.getD t p [] = t[p] := by
      rw [List.getD_eq_getElem?_getD, e1]
      rfl
    unfold Tab.at
    rw [eg, List.getD_eq_getElem?_getD, List.getElem?_eq_getElem hk2]
    rfl
  exact ⟨_, e1, by rw [ea]; exact List.getElem?_eq_getElem hk2, by rw [ea]; exact h.lt _ hm _ (List.getElem_mem hk2)⟩
theorem runTo_lt {D : RdD} (h : RdOk D) {cs : List Nat} {ps : List Int} (hc : ∀ c ∈ cs, c ∈ D.al.cps.toList) : ∀ i, runTo D cs ps i < D.mv.length
  | 0 => h.mv.pos
  | i + 1 => by
    show (match cs[i]? with | some c => D.mv.at (runTo D cs ps i) (moveNo D c i ps) | none => runTo D cs ps i) < _
    cases e : cs[i]? with
    | none => exact runTo_lt h hc i
    | some c =>
      obtain ⟨m, _, _, h3⟩ := h.mv.get (runTo_lt h hc i) (moveNo_lt (D := D) (a := i) (ps := ps) (hc c (List.mem_of_getElem? e)))
      exact h3
/-- a table's row, its item -/
theorem rt_tab {H : Hp} {v : V} {t : Tab} {p k : Nat} {m : List Nat} (h : Rt H v (encR t)) (hp : t[p]? = some m) (hk : m[k]? = some n) :
    ∃ a xs b ys, v = .ref a ∧ H a = some (.tup xs) ∧ xs[p]? = some (.ref b) ∧ H b = some (.tup ys) ∧ ys[k]? = some (.int (n : Nat)) := by
  unfold encR at h
  cases h with
  | @tup a xs _ ha hx =>
    have hl := hx.length
    rw [List.length_map] at hl
    have hpx : p < xs.length := by rw [hl]; exact (List.getElem?_eq_some_iff.mp hp).1
    obtain ⟨d, hd, rd⟩ := hx.get (i := p) (List.getElem?_eq_getElem hpx)
    rw [List.getElem?_map, hp] at hd
    have ed := (Option.some.inj hd).symm
    subst ed
    generalize hv : xs[p] = y at rd
    cases rd with
    | @tup b ys _ hb hy =>
      have hl2 := hy.length
      rw [List.length_map] at hl2
      have hky : k < ys.length := by rw [hl2]; exact (List.getElem?_eq_some_iff.mp hk).1
      obtain ⟨d2, hd2, rd2⟩ := hy.get (i := k) (List.getElem?_eq_getElem hky)
      rw [List.getElem?_map, hk] at hd2
      have e2 := (Option.some.inj hd2).symm
      subst e2
      refine ⟨a, xs, b, ys, rfl, ha, by rw [List.getElem?_eq_getElem hpx, hv], hb, ?_⟩
      rw [List.getElem?_eq_getElem hky]
      generalize ys[k] = z at rd2
      cases rd2
      rfl
theorem enc_nats {H : Hp} {v : V} {m : List Nat} (h : Rt H v (encM m)) : ∃ a, v = .ref a ∧ H a = some (.tup (m.map fun (k : Nat) => V.int (k : Nat))) := by
  unfold encM at h
  cases h with
  | @tup a xs _ ha hx =>
    refine ⟨a, rfl, ?_⟩
    rw [ha]
    congr 2
    apply List.ext_getElem?
    intro i
    have hl := hx.length
    rw [List.length_map] at hl
    by_cases hi : i < xs.length
    · obtain ⟨d, hd, rd⟩ := hx.get (i := i) (List.getElem?_eq_getElem hi)
      rw [List.getElem?_map] at hd
      obtain ⟨k, hk, e⟩ := Option.map_eq_some_iff.mp hd
      subst e
      rw [List.getElem?_map, hk, List.getElem?_eq_getElem hi]
      generalize xs[i] = x at rd
      cases rd
      rfl
    · rw [List.getElem?_eq_none (by omega), List.getElem?_eq_none (by rw [List.length_map]; omega)]
theorem inV_nats (c : Nat) : ∀ cs : List Nat, inV (.int (c : Nat)) (cs.map fun (c : Nat) => V.int (c : Nat)) = decide (c ∈ cs)
  | [] => by simp [inV]
  | d :: cs => by
    have ih := inV_nats c cs
    unfold inV at ih ⊢
    rw [List.map_cons, List.any_cons, ih]
    have e : eqV (.int (d : Nat)) (.int (c : Nat)) = decide (d = c) := by
      show decide (((d : Nat) : Int) = ((c : Nat) : Int)) = decide (d = c)
      by_cases h : d = c
      · subst h; simp
      · have h2 : ¬ ((d : Nat) : Int) = ((c : Nat) : Int) := by omega
        rw [decide_eq_false h, decide_eq_false h2]
    rw [e]
    by_cases h : d = c
    · subst h; simp
    · have h2 : ¬ c = d := fun z => h z.symm
      simp [h, h2]
theorem flat_nats (cs : List Nat) : (cs.map fun (c : Nat) => V.int (c : Nat)).all flatV = true := by
  rw [List.all_map, List.all_eq_true]
  intro x _
  rfl
theorem wrongL_none {al : List Nat} {z : Str} (h : wrongL al (.str z) = none) : z.length ≤ 200 ∧ ∀ c ∈ z.cps.toList, c ∈ al := by
  have h1 : (if z.length ≤ 200 then firstNot al z.cps.toList 0 else some (-1)) = none := h
  by_cases hz : z.length ≤ 200
  · rw [if_pos hz] at h1
    refine ⟨hz, ?_⟩
    have key : ∀ (cs : List Nat) (k : Nat), firstNot al cs k = none → ∀ c ∈ cs, c ∈ al := by
      intro cs
      induction cs with
      | nil => intro _ _ c hc; cases hc
      | cons d cs ih =>
        intro k h c hc
        unfold firstNot at h
        by_cases hd : d ∈ al
        · rw [if_pos hd] at h
          rcases List.mem_cons.mp hc with rfl | hc
          · exact hd
          · exact ih _ h c hc
        · rw [if_neg hd] at h; cases h
    exact key _ _ h1
  · rw [if_neg hz] at h1; cases h1
theorem wrongL_isstr {al : List Nat} {d : PyData} (h : wrongL al d = none) : ∃ z, d = .str z := by
  cases d <;> first | exact ⟨_, rfl⟩ | cases h
end Kx
set_option Elab.async false
set_option linter.all false
set_option maxRecDepth 100000
set_option maxHeartbeats 4000000
namespace Kx
open PySem PySem.Spec PyProof.Rows L2
theorem filter_take {α : Type} {p : α → Bool} {l : List α} {i : Nat} {x : α} (h : l[i]? = some x) : (l.take (i + 1)).filter p = (l.take i).filter p ++ (if p x = true then [x] else []) := by
  rw [List.take_succ, h, List.filter_append]
  congr 1
  show [x].filter p = _
  rw [List.filter_cons]
  rfl
theorem moveD_ints {n m : Nat} {d : PyData} (h : moveD n m d = true) : ∃ ps : List Int, itemsD d = some (ps.map PyData.int) ∧ placesI d = ps ∧ ps.length = n ∧ ∀ p ∈ ps, 0 ≤ p ∧ p < (m : Int) := by
  unfold moveD at h
  cases hi : itemsD d with
  | none => rw [hi] at h; cases h
  | some ds =>
    rw [hi, Bool.and_eq_true, decide_eq_true_eq] at h
    obtain ⟨h1, h2⟩ := h
    have key : ∀ ds : List PyData, ds.all (belowD m) = true → ds = (ds.map intD).map PyData.int ∧ ∀ p ∈ ds.map intD, 0 ≤ p ∧ p < (m : Int) := by
      intro ds
      induction ds with
      | nil => intro _; exact ⟨rfl, fun p hp => by cases hp⟩
      | cons x ds ih =>
        intro h
        rw [List.all_cons, Bool.and_eq_true] at h
        obtain ⟨i, rfl, hb⟩ := belowD_int h.1
        obtain ⟨e, k⟩ := ih h.2
        rw [Bool.and_eq_true, decide_eq_true_eq, decide_eq_true_eq] at hb
        refine ⟨by rw [List.map_cons, List.map_cons, ← e]; rfl, fun p hp => ?_⟩
        rcases List.mem_cons.mp hp with rfl | hp
        · exact hb
        · exact k p hp
    obtain ⟨e, k⟩ := key ds h2
    refine ⟨ds.map intD, by rw [← e], by unfold placesI; rw [hi]; rfl, by rw [List.length_map]; omega, k⟩
section
variable {P : Program} {w : World} {K : PySem.W.Frag} {mg : Str → Option Value} {base : Heap}
def sp_Reader_call (K : PySem.W.Frag) : Sp := fun vs H Q E => ∃ (x : Addr) (D : RdD) (v pv : V) (d pd : PyData), vs = [.ref x, v, pv] ∧ RdAt K H x D ∧ RdOk D ∧ Rp H v d ∧ smallT d ∧ PlS K H pv pd ∧ smallD pd ∧
  (∀ k, wrongL D.al.cps.toList d = some k → errAt (He.ga K "BadRow") "at" (.int k) H E) ∧
  (∀ z, d = .str z → wrongL D.al.cps.toList d = none → (moveD D.ns.length z.length pd = false → errAt (He.ga K "BadPlaces") "thing" pv H E) ∧
    (moveD D.ns.length z.length pd = true → ∀ H', Same H H' → Q (.bl (accepts D z.cps.toList (placesI pd))) H'))
theorem ok_Reader_call {f : Addr} {fd : FuncData} (T : Txt K mg) {dvs : List V} (F : FunD K "__call__" "Reader.__call__" (defArgs s_Reader___call__) (defBody s_Reader___call__) (defScope s_Reader___call__) dvs [] f fd) :
    FnOk P w K mg base (L2N.CX P w) 5 f fd ["self", "row", "places"] (sp_Reader_call K) := by
  refine F.ok sc_Reader___call__ (fun vs H Q E h => ?_) (fun cdv A outer s H vs Q E hr h => ?_)
  · obtain ⟨x, D, v, pv, d, pd, rfl, _⟩ := h; rfl
  · refine ⟨_, (pss_cons (ps_expr (pe_cal (E := E) (ok_check_row T) (hr.mono (by decide)) (L2N.passes_call (L2N.takes_of rfl rfl rfl rfl) (fun _ _ _ _ h => h)) (pa_cons (pe_fld (pv 0) rfl) (pa_cons (pv 1) pa_nil))))
        (pss_cons (ps_expr (pe_cal (E := E) (ok_check_places T) (hr.mono (by decide)) (L2N.passes_call (L2N.takes_of rfl rfl rfl rfl) (fun _ _ _ _ h => h)) (pa_cons (pe_fld (pv 0) rfl) (pa_cons (pv 1) (pa_cons (pv 2) pa_nil)))))
        (pss_cons (ps_set (i := 3) sc_Reader___call__.nd rfl (Or.inl rfl) pe_int)
        (pss_cons (ps_for (passes_of rfl) rfl (pi_enumS (by rfl) (fr_enumerate T) (pa_cons (pv 1) pa_nil)) (pg_tup rfl (pgs_cons (pg_name (i := 4) sc_Reader___call__.nd rfl (Or.inr rfl)) (pgs_cons (pg_name (i := 5) sc_Reader___call__.nd rfl (Or.inl rfl)) pgs_nil))) (pss_cons (ps_setLc (i := 6) (own := [("name", 7), ("place", 8)]) (g := (gTup K 2 (gCons (gName 7) (gCons (gName 8) gNil)))) (tt := tTest (tOp rEq (tVar 8) (tVar 4))) rfl sc_Reader___call__.nd rfl rfl (sw_true rfl rfl rfl (by decide +kernel)) (pi_zip2S (by rfl) (fr_zip T) (pa_cons (pe_fld (pv 0) rfl) (pa_cons (pv 2) pa_nil))) (blkOk_by (N := N_Reader___call__) (sc := defScope s_Reader___call__) (by decide +kernel)) (fun _ _ _ _ _ => (pg_tup rfl (pgs_cons (pg_name (i := 7) sc_Reader___call__.nd rfl (Or.inl rfl)) (pgs_cons (pg_name (i := 8) sc_Reader___call__.nd rfl (Or.inl rfl)) pgs_nil)))) (fun _ _ _ _ _ => (pts_one (pt_cmpR op_eq (pv 8) (pv 4) (nomark _)))) (fun _ _ _ _ _ => (pv 7)))
        (pss_one (ps_set (i := 3) sc_Reader___call__.nd rfl (Or.inl rfl) (pe_ix ix_tup (pe_ix ix_tup (pe_fld (pv 0) rfl) (pv 3) (fun _ _ => rfl)) (pe_cal (ok_flagged T) (hr.mono (by decide)) pass0 (pa_cons (pe_fld (pv 0) rfl) (pa_cons (pe_m1 PySem.F.slot_str_find PySem.F.type_str_find mt_find (pe_fld (pv 0) rfl) (pv 5)) (pa_cons (pv 6) pa_nil)))) (fun _ _ => rfl))))))
        (pss_one (ps_ret (pe_cmpR op_in_seq (pv 3) (pe_fld (pv 0) rfl) rfl))))))), ?_⟩
    obtain ⟨x, D, v, pv, d, pd, rfl, RA, RO, rd, sm, rp, sp, kE, kQ⟩ := h
    have RA' := RA
    obtain ⟨dx, vm, vc, h1, h2, h3, h4⟩ := RA
    have C := cls_Reader T
    refine ⟨.ref x, rfl, x, _, dx, _, _, rfl, h1, C, noat_alphabet T, rfl, v, rfl, D.al, v, d, rfl, rd, sm, kE, fun hw H1 s1 => ?_⟩
    obtain ⟨z, rfl⟩ := wrongL_isstr hw
    obtain ⟨hz200, hzal⟩ := wrongL_none hw
    have ev : v = .str z := by cases rd; rfl
    subst ev
    obtain ⟨kB, kT⟩ := kQ z rfl hw
    have hz : z.cps.toList.length = z.length := Array.length_toList
    have hnl : D.ns.cps.toList.length = D.ns.length := Array.length_toList
    refine ⟨.ref x, rfl, x, _, dx, _, _, rfl, s1 _ _ h1, C, noat_names T, rfl, .str z, rfl, pv, rfl, D.ns, z, pv, pd, rfl, rp.same s1, sp, RO.ns4, hz200, fun hm => (kB hm).same s1, fun hm H2 s2 => ?_⟩
    have s02 := s1.trans s2
    have q := kT hm
    clear kB kT kE kQ
    obtain ⟨ps, hit, hpi, hpl, hpr⟩ := moveD_ints hm
    rw [hpi] at q
    obtain ⟨pa, xs, rfl, hxs, hsq⟩ := (rp.same s02).seq hit
    have hsq : Sq3 K H2 pa xs := hsq
    have exs : xs = ps.map V.int := by
      apply List.ext_getElem?
      intro i
      have hl := hxs.length
      rw [List.length_map] at hl
      by_cases hi : i < xs.length
      · obtain ⟨e, he, re⟩ := hxs.get (i := i) (List.getElem?_eq_getElem hi)
        rw [List.getElem?_map] at he
        obtain ⟨j, hj, rfl⟩ := Option.map_eq_some_iff.mp he
        rw [List.getElem?_map, hj, List.getElem?_eq_getElem hi]
        generalize xs[i] = y at re
        cases re
        rfl
      · rw [List.getElem?_eq_none (by omega), List.getElem?_eq_none (by rw [List.length_map]; omega)]
    subst exs
    refine ⟨_, rfl, .str z, _, _, _, rfl, .txt z, trivial, for_it walk_new (fun i σ G => ∃ (v4 v5 v6 v7 v8 : Option V), σ = [some (.ref x), some (.str z), some (.ref pa), some (.int (runTo D z.cps.toList ps i : Nat)), v4, v5, v6, v7, v8] ∧ Same H2 G)
      ⟨none, none, none, none, none, rfl, Same.refl _⟩ (fun _ _ _ _ _ => trivial) ?_ ?_⟩
    · rintro i x0 σ G G1 hi ⟨v4, v5, v6, v7, v8, rfl, sG⟩ ⟨Tt, vs, rfl, hTn, rfl, y, rfl, c, hc, rfl⟩
      have s4 := same_upd (o := .tup [.int (i : Nat), .str ⟨#[c]⟩]) hTn
      have hc' : z.cps.toList[i]? = some c := by rw [Array.getElem?_toList]; exact hc
      have hi2 : i < 200 := by
        have := (List.getElem?_eq_some_iff.mp hc').1
        omega
      have hcal := hzal c (List.mem_of_getElem? hc')
      refine ⟨Tt, _, rfl, SqT.of upd_same, rfl, _, _, rfl, _, _, rfl, rfl, ?_⟩
      have sG1 := sG.trans s4
      revert sG1
      generalize upd G Tt (.tup [.int (i : Nat), .str ⟨#[c]⟩]) = G2
      intro sG1
      obtain ⟨GS, S, hGS, hGSs⟩ := hsq.src
      have hGS2 := hGSs _ sG1
      have hx2 := sG1 _ _ (s02 _ _ h1)
      refine ⟨.ref x, rfl, x, _, dx, _, _, rfl, hx2, C, noat_names T, rfl, .ref pa, rfl, .str D.ns, _, _, _, .ref pa, _, _, _, rfl, .txt D.ns, S, trivial, hGS2, fun DD hD => ?_⟩
      have hmin : min D.ns.cps.size (ps.map V.int).length = D.ns.length := by
        rw [List.length_map, hpl]
        exact Nat.min_self _
      refine lc_it (walk_new (n := min D.ns.cps.size (ps.map V.int).length)) (tt := tTest (tOp rEq (tVar 8) (tVar 4))) (fun j Gc => Gc DD = some (.lst ((((D.ns.cps.toList.zip ps).take j).filter (fun x => decide (x.2 = (i : Int)))).map (fun x => V.str ⟨#[x.1]⟩))) ∧ Same G2 Gc)
        ⟨upd_same, same_upd hD⟩ (fun j Gc _ ⟨_, s⟩ => ⟨trivial, hGSs _ (sG1.trans s)⟩) ?_ ?_
      · rintro j x1 Gc Gd hj ⟨hDc, sc⟩ ⟨Tu, ws, rfl, hTun, rfl, a1, b1, rfl, ⟨n1, hn1, rfl⟩, hb1⟩
        have s5 := same_upd (o := .tup [.str ⟨#[n1]⟩, b1]) hTun
        rw [List.getElem?_map] at hb1
        obtain ⟨p1, hp1, rfl⟩ := Option.map_eq_some_iff.mp hb1
        have hn1' : D.ns.cps.toList[j]? = some n1 := by rw [Array.getElem?_toList]; exact hn1
        have hzip : (D.ns.cps.toList.zip ps)[j]? = some (n1, p1) := List.getElem?_zip_eq_some.mpr ⟨hn1', hp1⟩
        have hft := filter_take (p := fun x : Nat × Int => decide (x.2 = (i : Int))) hzip
        refine ⟨Tu, _, rfl, SqT.of upd_same, rfl, _, _, rfl, _, _, rfl, rfl, rfl, .int p1, rfl, .int (i : Nat), rfl, rfl, _, rfl, ?_⟩
        rw [dec_int]
        have hD2 := s5 _ _ hDc
        by_cases he : p1 = (i : Int)
        · rw [decide_eq_true he]
          rw [if_pos (by simpa using he)] at hft
          refine iteT ⟨_, rfl, _, hD2, ?_, ?_, same_over (sc.trans s5) hD⟩
          · rw [List.length_map]
            refine Nat.lt_of_le_of_lt (List.length_filter_le _ _) ?_
            rw [List.length_take]
            exact Nat.lt_of_le_of_lt (Nat.min_le_left _ _) (Nat.lt_of_lt_of_le (by have : j < min D.ns.cps.size (ps.map V.int).length := hj; have := RO.ns4; omega : j < 5) (by decide))
          · rw [hft, List.map_append, upd_same]
            rfl
        · rw [decide_eq_false he]
          rw [if_neg (by simpa using he), List.append_nil] at hft
          refine iteF ⟨?_, sc.trans s5⟩
          rw [hft]
          exact hD2
      · rintro Gc ⟨hDc, sc⟩
        have hlz : (D.ns.cps.toList.zip ps).length = min D.ns.cps.size (ps.map V.int).length := by
          rw [List.length_zip, List.length_map]
          rfl
        rw [← hlz, List.take_length] at hDc
        have eb : ((((D.ns.cps.toList.zip ps)).filter (fun x => decide (x.2 = (i : Int)))).map (fun x => V.str ⟨#[x.1]⟩)) = (borne D.ns.cps.toList ps i).map fun c => V.str ⟨#[c]⟩ := by
          unfold borne
          rw [List.map_map]
          rfl
        rw [eb] at hDc
        have sGc := sG1.trans sc
        have hx3 := sGc _ _ (s02 _ _ h1)
        have hlt := runTo_lt RO (ps := ps) hzal i
        have hno := moveNo_lt (D := D) (a := i) (ps := ps) hcal
        obtain ⟨m, hm1, hm2, hm3⟩ := RO.mv.get hlt hno
        have hf := find_in hcal
        have eix : Txt.find D.al ⟨#[c]⟩ = ((ixF D.al c : Nat) : Int) := by unfold ixF; omega
        have hix8 : ixF D.al c ≤ 8 := by
          have := RO.al8
          unfold ixF
          omega
        refine ⟨_, rfl, x, _, dx, _, _, rfl, hx3, C, noat_moves T, rfl, _, rfl, ?_⟩
        obtain ⟨ma, mxs, mb, mys, rfl, g1, g2, g3, g4⟩ := rt_tab (h3.tups (Same.tups (s02.trans sGc))) hm1 hm2
        refine ⟨ma, _, _, _, rfl, rfl, SqT.of g1, atI_nat g2, _, rfl, x, _, dx, _, _, rfl, hx3, C, noat_names T, rfl, _, rfl, x, _, dx, _, _, rfl, hx3, C, noat_alphabet T, rfl, ⟨_, rfl⟩, _, rfl, _, _, rfl, rfl, .ref DD, rfl, D.ns, ixF D.al c, DD, borne D.ns.cps.toList ps i, ?_, RO.ns4, hix8, hDc, fun H5 s5 => ?_⟩
        · rw [eix]; rfl
        have g35 := s5 _ _ g3
        have er : runTo D z.cps.toList ps (i + 1) = D.mv.at (runTo D z.cps.toList ps i) (moveNo D c i ps) := by
          show (match z.cps.toList[i]? with | some c => _ | none => _) = _
          rw [hc']
        rw [er]
        exact ⟨mb, _, _, _, rfl, rfl, SqT.of g35, atI_nat g4, _, _, _, _, _, rfl, sGc.trans s5⟩
    · rintro σ G ⟨v4, v5, v6, v7, v8, rfl, sG⟩
      have en : runTo D z.cps.toList ps z.cps.size = runTo D z.cps.toList ps z.cps.toList.length := by rw [hz]; rfl
      obtain ⟨ca, rfl, hca⟩ := enc_nats (h4.tups (Same.tups (s02.trans sG)))
      refine ⟨_, rfl, .ref x, rfl, x, _, dx, _, _, rfl, sG _ _ (s02 _ _ h1), C, noat_accepted T, rfl, ca, _, rfl, .inr (SqT.of hca), rfl, flat_nats _, ?_⟩
      rw [if_neg Bool.false_ne_true, inV_nats, en]
      exact q G (s02.trans sG)
end
end Kx
set_option Elab.async false
set_option linter.all false
set_option maxRecDepth 100000
set_option maxHeartbeats 4000000
namespace Kx
open PySem PySem.Spec PyProof.Rows L2
mutual
theorem Rt.dp {K : PySem.W.Frag} {H : Hp} : ∀ {v : V} {d : PyData}, Rt H v d → Dp K H v d
  | _, _, .non => .non
  | _, _, .bl b => .bl b
  | _, _, .int i => .int i
  | _, _, .str z => .str z
  | _, _, .tup e h => .tup (SqT.of e) (RtL.dp h)
theorem RtL.dp {K : PySem.W.Frag} {H : Hp} : ∀ {vs : List V} {ds : List PyData}, RtL H vs ds → DpAll K H vs ds
  | _, _, .nil => .nil
  | _, _, .cons h hs => .cons (Rt.dp h) (RtL.dp hs)
end
theorem ex_rest {K mg} (T : Txt K mg) : kitsB K = true ∧ (∀ x ∈ toldl, clsfB K (He.ga K x) = true) ∧ objB K = true ∧ fldsB K = true ∧ readB K (He.ga K "Reader") = true ∧ noplB K = true ∧ stopB K = true := by
  have h := (Bool.and_eq_true_iff.mp T.ex).2
  simp only [Bool.and_eq_true] at h
  exact ⟨h.1, fun x hx => List.all_eq_true.mp h.2.1 x hx, h.2.2.1, h.2.2.2.1, h.2.2.2.2.1, h.2.2.2.2.2.1, h.2.2.2.2.2.2⟩
theorem objF {K mg} (T : Txt K mg) : PySem.W.specialIn K (.builtin "object.__class__") "__get__" = some (some (.builtin "getset_descriptor.__get__")) ∧ PySem.W.takesIn K (.builtin "object.__class__") = some true := by
  have h := (ex_rest T).2.2.1
  unfold objB at h
  simp only [Bool.and_eq_true, decide_eq_true_eq] at h
  exact h
structure ReadF (K : PySem.W.Frag) (C : Addr) : Prop where
  cls : PySem.W.findIn K (.ref C) "__class__" = some (some (.builtin "object.__class__"))
  mro : PySem.W.mroIn K C (.type "object") = some true
  tup : PySem.W.kitOne K (.type "tuple") (.ref C) = some false
  int : PySem.W.kitOne K (.type "int") (.ref C) = some false
  non : PySem.W.kitOne K (.type "NoneType") (.ref C) = some false
  nft : PySem.W.notFirst K C (.type "tuple") = true
  nfi : PySem.W.notFirst K C (.type "int") = true
  nfn : PySem.W.notFirst K C (.type "NoneType") = true
  cfi : PySem.W.fnIn K (He.ma K C "__call__") = true
  cfn : PySem.W.isFn K (.ref (He.ma K C "__call__")) = true
theorem readF {K mg} (T : Txt K mg) : ReadF K (He.ga K "Reader") := by
  have h := (ex_rest T).2.2.2.2.1
  unfold readB clsfB at h
  simp only [Bool.and_eq_true, decide_eq_true_eq] at h
  obtain ⟨⟨h1, h2⟩, h3, h4, h5, h6, h7, h8, h9, h10⟩ := h
  exact ⟨h1, h2, h3, h4, h5, h6, h7, h8, h9, h10⟩
/-- a reader's kind -/
theorem ty_read {K mg} (T : Txt K mg) {H : Hp} {x : Addr} {D : RdD} (h : RdAt K H x D) : TyX K H (.ref x) (.ref (He.ga K "Reader")) := by
  obtain ⟨dx, vm, vc, h1, h2⟩ := h
  exact .base (.ins h1 (cls_Reader T) (readF T).cls (objF T).1 (objF T).2 (readF T).mro)
/-- the default of places -/
theorem nopl_of {K mg} (T : Txt K mg) : KTup K (noPl K) [] := by
  have h := (ex_rest T).2.2.2.2.2.1
  unfold noplB at h
  split at h
  · rename_i ty its n sl e
    simp only [Bool.and_eq_true, decide_eq_true_eq] at h
    obtain ⟨rfl, hl⟩ := h
    have e0 : its.toList = [] := List.length_eq_zero_iff.mp hl
    have hsz : its.size ≤ sizeLine := by
      have : its.size = 0 := by rw [← Array.length_toList]; exact hl
      rw [this]
      exact Nat.zero_le _
    have hv : Vals [] its.toList := by
      rw [e0]
      exact .nil
    unfold KTup
    exact ⟨_, its, n, e, rfl, rfl, rfl, hsz, hv⟩
  · cases h
theorem encM_pure (m : List Nat) : pureD (encM m) = true := by
  unfold encM
  simp only [pureD]
  exact pureL_map fun k _ => rfl
theorem encR_pure (t : Tab) : pureD (encR t) = true := by
  unfold encR
  simp only [pureD]
  exact pureL_map fun m _ => encM_pure m
theorem encM_depth (m : List Nat) : (encM m).depth ≤ 1 := by
  unfold encM
  have h : PyData.depthAll (m.map fun k : Nat => PyData.int (k : Nat)) ≤ 0 := depthAll_map fun k _ => by simp [PyData.depth]
  simp only [PyData.depth]
  omega
theorem encR_depth (t : Tab) : (encR t).depth ≤ 2 := by
  unfold encR
  have h : PyData.depthAll (t.map encM) ≤ 1 := depthAll_map fun m _ => encM_depth m
  simp only [PyData.depth]
  omega
theorem encM_inj {a b : List Nat} (h : encM a = encM b) : a = b := by
  unfold encM at h
  injection h with h
  exact (List.map_inj_right (f := fun k : Nat => PyData.int (k : Nat)) (fun x y e => by injection e with e; omega)).mp h
theorem encR_inj {a b : Tab} (h : encR a = encR b) : a = b := by
  unfold encR at h
  injection h with h
  exact (List.map_inj_right (f := encM) (fun x y e => encM_inj e)).mp h
def eqR (D D' : RdD) : Bool := decide (V.str D.al = V.str D'.al) && (decide (V.str D.ns = V.str D'.ns) && (PyData.eqv (encR D.mv) (encR D'.mv) && PyData.eqv (encM D.ac) (encM D'.ac)))
theorem eqR_iff {D D' : RdD} : eqR D D' = true ↔ D = D' := by
  unfold eqR
  rw [Bool.and_eq_true, Bool.and_eq_true, Bool.and_eq_true, decide_eq_true_eq, decide_eq_true_eq, eqv_pure (encR_pure _) (encR_pure _), eqv_pure (encM_pure _) (encM_pure _)]
  obtain ⟨a1, a2, a3, a4⟩ := D
  obtain ⟨b1, b2, b3, b4⟩ := D'
  constructor
  · rintro ⟨h1, h2, h3, h4⟩
    injection h1 with h1
    injection h2 with h2
    replace h3 := encR_inj h3
    replace h4 := encM_inj h4
    dsimp only at h1 h2 h3 h4
    subst h1 h2 h3 h4
    rfl
  · intro h
    injection h with h1 h2 h3 h4
    subst h1 h2 h3 h4
    exact ⟨rfl, rfl, rfl, rfl⟩
theorem eqR_self (D : RdD) : eqR D D = true := eqR_iff.mpr rfl
theorem eqR_ne {D D' : RdD} (h : D ≠ D') : eqR D D' = false := by
  cases e : eqR D D' with
  | false => rfl
  | true => exact absurd (eqR_iff.mp e) h
section
variable {P : Program} {w : World} {K : PySem.W.Frag} {mg : Str → Option Value} {base : Heap}
def sp_Reader_eq (K : PySem.W.Frag) : Sp := fun vs H Q _ => ∃ (x : Addr) (v : V) (D : RdD), vs = [.ref x, v] ∧ RdAt K H x D ∧
  ((∃ y D', v = .ref y ∧ RdAt K H y D' ∧ Q (.bl (eqR D D')) H) ∨ (∃ a : Kd, (a = .int ∨ a = .tup ∨ a = .non) ∧ Ko K H v a ∧ Q (.bl false) H))
theorem ok_Reader_eq (T : Txt K mg) {f : Addr} {fd : FuncData} (F : FnP K "__eq__" "Reader.__eq__" s_Reader___eq__ f fd) :
    FnOk P w K mg base CX0 1 f fd ["self", "other"] (sp_Reader_eq K) := by
  refine F.ok sc_Reader___eq__ (fun vs H Q E h => ?_) (fun cdv A outer s H vs Q E hr h => ?_)
  · obtain ⟨x, v, D, rfl, _⟩ := h; rfl
  · refine ⟨_, PSs.nox (pss_one (ps_ret (pe_and (pe_callB call_isi (by rfl) (fr_isinstance T) b_isinstance (pa_cons (pv 1) (pa_cons (pe_glob (v := .ref (He.ga K "Reader")) (by rfl) (g_Reader T) rfl) pa_nil)))
      (pe_and (pe_cmpR op_eq (pe_fld (pv 0) rfl) (pe_fld (pv 1) rfl) (nomark _)) (pe_and (pe_cmpR op_eq (pe_fld (pv 0) rfl) (pe_fld (pv 1) rfl) (nomark _)) (pe_and (pe_cmpR (op_eqD (hu64 hr)) (pe_fld (pv 0) rfl) (pe_fld (pv 1) rfl) (nomark _))
      (pe_one (pe_cmpR (op_eqD (hu64 hr)) (pe_fld (pv 0) rfl) (pe_fld (pv 1) rfl) (nomark _))))))))), ?_⟩
    obtain ⟨x, v, D, rfl, RA, h⟩ := h
    have C := cls_Reader T
    rcases h with ⟨y, D', rfl, RA', q⟩ | ⟨a, ha, ko, q⟩
    · have hty := ty_read T RA'
      obtain ⟨dx, vm, vc, h1, h2, h3, h4⟩ := RA
      obtain ⟨dy, wm, wc, i1, i2, i3, i4⟩ := RA'
      refine ⟨.ref y, rfl, .ref y, .ref (He.ga K "Reader"), .ref (He.ga K "Reader"), .ref (He.ga K "Reader"), true, rfl, .own _, hty, ?_, _, rfl, iteT ?_⟩
      · unfold PySem.W.kitOne
        rw [if_pos (by simp)]
      unfold eqR at q
      refine ⟨.ref x, rfl, x, _, dx, _, _, rfl, h1, C, noat_alphabet T, rfl, .ref y, rfl, y, _, dy, _, _, rfl, i1, C, noat_alphabet T, rfl, rfl, _, rfl, ?_⟩
      cases e1 : decide (V.str D.al = V.str D'.al) with
      | false => rw [e1] at q; exact iteF q
      | true =>
        rw [e1, Bool.true_and] at q
        refine iteT ⟨.ref x, rfl, x, _, dx, _, _, rfl, h1, C, noat_names T, rfl, .ref y, rfl, y, _, dy, _, _, rfl, i1, C, noat_names T, rfl, rfl, _, rfl, ?_⟩
        cases e2 : decide (V.str D.ns = V.str D'.ns) with
        | false => rw [e2] at q; exact iteF q
        | true =>
          rw [e2, Bool.true_and] at q
          refine iteT ⟨.ref x, rfl, x, _, dx, _, _, rfl, h1, C, noat_moves T, rfl, .ref y, rfl, y, _, dy, _, _, rfl, i1, C, noat_moves T, rfl, encR D.mv, encR D'.mv, h3.dp, i3.dp, shaped_of (encR_pure _) (Nat.le_trans (encR_depth _) (by decide)), shaped_of (encR_pure _) (Nat.le_trans (encR_depth _) (by decide)), _, rfl, ?_⟩
          cases e3 : PyData.eqv (encR D.mv) (encR D'.mv) with
          | false => rw [e3] at q; exact iteF q
          | true =>
            rw [e3, Bool.true_and] at q
            exact iteT ⟨.ref x, rfl, x, _, dx, _, _, rfl, h1, C, noat_accepted T, rfl, .ref y, rfl, y, _, dy, _, _, rfl, i1, C, noat_accepted T, rfl, encM D.ac, encM D'.ac, h4.dp, i4.dp, shaped_of (encM_pure _) (Nat.le_trans (encM_depth _) (by decide)), shaped_of (encM_pure _) (Nat.le_trans (encM_depth _) (by decide)), q⟩
    · refine ⟨v, rfl, v, .ref (He.ga K "Reader"), _, .ref (He.ga K "Reader"), false, rfl, .own _, ko, ?_, _, rfl, iteF q⟩
      rcases ha with rfl | rfl | rfl
      · exact (readF T).int
      · exact (readF T).tup
      · exact (readF T).non
def sp_Reader_len (K : PySem.W.Frag) : Sp := fun vs H Q _ => ∃ (x : Addr) (D : RdD), vs = [.ref x] ∧ RdAt K H x D ∧ D.mv.length ≤ 100000 ∧ Q (.int (D.mv.length : Nat)) H
theorem ok_Reader_len (T : Txt K mg) {f : Addr} {fd : FuncData} (F : FnP K "__len__" "Reader.__len__" s_Reader___len__ f fd) :
    FnOk P w K mg base CX0 1 f fd ["self"] (sp_Reader_len K) := by
  refine F.ok sc_Reader___len__ (fun vs H Q E h => ?_) (fun cdv A outer s H vs Q E hr h => ?_)
  · obtain ⟨x, D, rfl, _⟩ := h; rfl
  · refine ⟨_, PSs.nox (pss_one (ps_ret (pe_callB call_len (by rfl) (fr_len T) boot_len (pa_cons (pe_fld (pv 0) rfl) pa_nil)))), ?_⟩
    obtain ⟨x, D, rfl, RA, hl, q⟩ := h
    obtain ⟨dx, vm, vc, h1, h2, h3, h4⟩ := RA
    have h3' := h3
    unfold encR at h3'
    cases h3' with
    | @tup a xs _ ha hx =>
      have hxl := hx.length
      rw [List.length_map] at hxl
      exact ⟨.ref x, rfl, x, _, dx, _, _, rfl, h1, cls_Reader T, noat_moves T, rfl, .ref a, D.mv.length, rfl, .inr ⟨xs, SqT.of ha, hxl.symm⟩, q⟩
end
end Kx
set_option Elab.async false
set_option linter.all false
set_option maxRecDepth 100000
set_option maxHeartbeats 4000000
namespace Kx
open PySem PySem.Spec PyProof.Rows L2 PySem.Calls Builtin
/-! ### o(e, ..), defaults filled up -/
section
variable {X : Cx} {CX : CXT} {k : Nat} {C g : Addr} {fd : FuncData} {ps : List Str} {sp : Sp} {E : L2.St → XK} {fe e : Expr} {es : List Expr} {tf : TE} {t : TA} {pos : Pos} {dvs : List V} {ds : List Value}
def tCallOD (C : Addr) (sp : Sp) (dvs : List V) (E : L2.St → XK) (tf : TE) (t : TA) : TE := fun σ H Q => tf σ H fun y H1 => ∃ a dx fs, y = V.ref a ∧ t σ H1 fun vs H2 => H2 a = some (.ins C dx fs) ∧ sp (V.ref a :: (vs ++ dvs)) H2 Q (E σ)
theorem pe_callOD (hf : PE X fe tf) (c : StX.CallO X.K C g) (F : FnOk X.prog X.w X.K X.mg X.base CX k g fd ps sp) (hr : Room k X.A) (hb : Binds X.K fd ps ds) (hd : Vals dvs ds) (hx : ∀ σ, PassesAt CX X σ (E σ)) (ha : PA X (e :: es) t)
    (ht : eval (.Call fe (e :: es) [] pos) X.env = (do callWith pos (← eval fe X.env) [] (backTo pos (starEach (e :: es) X.env)) (backToKw pos (keywordEach [] X.env))) := by rfl)
    (he : starEach (e :: es) X.env = (false, eval e X.env) :: starEach es X.env := by rfl) (hpl : (backTo pos (starEach es X.env)).any (·.1) = false := by rfl) : PE X (.Call fe (e :: es) [] pos) (tCallOD C sp dvs E tf t) := by
  constructor
  intro pins s σ H Q I h
  refine Call_ (thn (hf.run pins s σ H _ I h) fun u s1 hh => ?_) ht
  obtain ⟨y, H1, I1, ry, a, dx, fs, rfl, q⟩ := hh
  obtain rfl : u = Value.ref a := ry
  refine StX.callO_with (thn (ha.run pos pins s1 σ H1 _ I1 q) fun us s2 hh => ?_) he hpl
  obtain ⟨vs, H2, I2, r, hi, q2⟩ := hh
  obtain ⟨ox, od, J, hd'⟩ := StX.insC_at I2 (.inr ⟨dx, fs, hi⟩)
  refine ⟨⟨C, ox, od, J, hd'⟩, ?_⟩
  have r3 : Vals (vs ++ dvs) (us ++ ds) := r.append hd
  have hl : ((Value.ref a :: us) ++ ds).length = ps.length := by
    have h1 := F.len _ _ _ _ q2
    have h2 := r3.length
    rw [List.length_cons] at h1
    rw [List.cons_append, List.length_cons]
    omega
  have b := hb s2 (.ref a :: us) I2.kIn hl
  have r2 : Vals (V.ref a :: (vs ++ dvs)) (Value.ref a :: us ++ ds) := .cons rfl r3
  refine wpAny_call (PySem.W.kco_code I2.kIn J hd' c.at_ c.fn c.fi (codeAny_mono (F.run X.A X.stack s2 H2 ⟨.ref a :: us, []⟩ _ _ Q (E σ) hr I2.env0 b r2 q2) fun r s' hq => ?_))
  cases r with
  | error er => exact hx σ pins H2 s2 er s' I2 hq
  | ok fl =>
    cases fl with
    | ret u => exact I2.after hq
    | _ => exact False.elim hq
end
/-! ### C(e, ..) -/
section
variable {X : Cx} {CX : CXT} {C f : Addr} {fd : FuncData} {ps : List Str} {k : Nat} {sp : Sp} {E : L2.St → XK} {x : Str} {e : Expr} {es : List Expr} {t : TA} {p pos : Pos}
/-- C(e, ..), in a try -/
def tMakeS (C : Addr) (sp : Sp) (E : L2.St → XK) (t : TA) : TE := fun σ H Q => t σ H fun vs H1 => ∀ x dx, H1 x = none → H1 dx = none → dx ≠ x → sp (.ref x :: vs) (upd (upd H1 dx (.own x)) x (.ins C dx [])) (fun v H2 => v = .non ∧ Q (.ref x) H2) (E σ)
theorem pe_makeS (M : Mk X.K C f) (F : FnOk X.prog X.w X.K X.mg X.base CX k f fd ps sp) (hr : Room (k + 1) X.A) (hg : Gl X x) (hm : X.mg x = some (.ref C)) (hb : Binds X.K fd ps []) (hx : ∀ σ, PassesAt CX X σ (E σ)) (ha : PA X (e :: es) t)
    (hdb : (x == ("__debug__" : Str)) = false := by decide) (he : starEach (e :: es) X.env = (false, eval e X.env) :: starEach es X.env := by rfl) (hpl : (backTo pos (starEach es X.env)).any (·.1) = false := by rfl) : PE X (.Call (.Name x p) (e :: es) [] pos) (tMakeS C sp E t) := by
  constructor
  intro pins s σ H Q I h
  refine wpAny_Call_Name_kw (ld_glob I hg hm ?_ hdb)
  refine PySem.W.callWith_K (h₀ := X.base) I.ok.mod.kin M.kp (thn (ha.run pos pins s σ H _ I h) fun us s1 hh => ?_) he hpl
  obtain ⟨vs, H1, I1, r, h1⟩ := hh
  refine ⟨I1.kIn, ?_⟩
  have hq := h1 (s1.heap.objs.size + 1) s1.heap.objs.size (I1.hok.fresh (Nat.le_succ _)) (I1.hok.fresh (Nat.le_refl _)) (Nat.ne_of_lt (Nat.lt_succ_self _))
  have I2 := Inv.made (C := C) I1
  have r2 : Vals (V.ref (s1.heap.objs.size + 1) :: vs) (Value.ref (s1.heap.objs.size + 1) :: us) := .cons rfl r
  have hl : (Value.ref (s1.heap.objs.size + 1) :: us ++ []).length = ps.length := by
    rw [List.append_nil, ← F.len _ _ _ _ hq]
    exact r2.length.symm
  have b := hb _ (Value.ref (s1.heap.objs.size + 1) :: us) I2.kIn hl
  rw [List.append_nil] at b
  refine wpAny_call (make_map (f := f) I1.kIn M.makes M.init (beq_iff_eq.mp M.fn) (codeAny_mono (F.run _ X.stack _ _ ⟨Value.ref (s1.heap.objs.size + 1) :: us, []⟩ _ _ _ (E σ) (hr.make C us []) (I2.env0.make C us []) b r2 hq) fun r s' hq' => ?_))
  cases r with
  | error er => exact hx σ pins _ _ er s' I2 hq'
  | ok fl =>
    cases fl with
    | ret u =>
      obtain ⟨v, H', I3, rv, ev, q3⟩ := I2.after hq'
      subst ev
      exact ⟨rv, V.ref (s1.heap.objs.size + 1), H', I3, rfl, q3⟩
    | _ => exact False.elim hq'
end
/-! ### the rules -/
/-- what stands on the right of a pair's == and !=: its kind -/
def RightOf (K : PySem.W.Frag) (C : Addr) (H : Hp) (y : V) : Prop := ∃ t, TyX K H y t ∧ PySem.W.notFirst K C t = true
def rEqO (K : PySem.W.Frag) (C : Addr) (sp : Sp) (E : XK) (ng : Bool) : R2 := fun x y H Q => ∃ a dx fs, x = .ref a ∧ H a = some (.ins C dx fs) ∧ RightOf K C H y ∧ sp [x, y] H (fun r H' => ∃ b, r = .bl b ∧ Q (.bl (if ng then !b else b)) H') E
section
variable {X : Cx} {CX : CXT} {C f : Addr} {fd : FuncData} {ps : List Str} {k : Nat} {sp : Sp} {E : XK}
theorem op_eqO (F : FnOk X.prog X.w X.K X.mg X.base CX k f fd ps sp) (hr : Room k X.A) (hs : PySem.W.findIn X.K (.ref C) "__eq__" = some (some (.ref f)))
    (hf : PySem.W.isFn X.K (.ref f) = true) (hb : Binds X.K fd ps []) (hx : Passes CX X E) : OpR X (compareOp .Eq) (rEqO X.K C sp E false) := by
  intro pins s σ H x y v u Q I rx ry ⟨a, dx, fs, ex, ea, ⟨t, ty, hn⟩, q⟩
  subst ex
  obtain rfl : v = .ref a := rx
  obtain ⟨mA, O, _⟩ := ins_get I.hok ea
  obtain ⟨od, J, _⟩ := O.look
  obtain ⟨Pz, Z, p, _⟩ := kit_of I ry ty
  obtain ⟨m, hF⟩ := I.fr
  have hcall := run_fn (us := [.ref a, u]) (vs := [.ref a, y]) F hr hb .nil hx I (.cons rfl (.cons ry .nil)) q
  show wpAny (model X.prog X.w) X.A (richCompare .Eq (.ref a) u) (EP X pins σ Q) X.xe s
  refine PySem.W.cmp_K (op := .Eq) (tb := t) hr.units0 hF I.ok.mod.kin J (Z.ty _ _ I.kIn p) hn hs hf (wpAny_mono hcall (fun r s' z => ?_) fun _ _ z => z)
  obtain ⟨z, H', I', rz, b, ez, q'⟩ := z
  subst ez
  cases rz
  exact ⟨.bl b, H', I', rfl, q'⟩
end
/-! ### len(o) by an own __len__ -/
section
variable {X : Cx} {CX : CXT} {C f : Addr} {fd : FuncData} {ps : List Str} {k : Nat} {sp : Sp} {E : XK}
def rLenO (C : Addr) (sp : Sp) (E : XK) : List V → Hp → VK → Prop := fun xs H Q => ∃ a dx fs, xs = [.ref a] ∧ H a = some (.ins C dx fs) ∧ sp [.ref a] H (fun r H' => ∃ n : Nat, r = .int (n : Nat) ∧ n ≤ 100000 ∧ Q (.int (n : Nat)) H') E
theorem call_lenO (F : FnOk X.prog X.w X.K X.mg X.base CX k f fd ps sp) (hr : Room (k + 1) X.A) (hs : PySem.W.findIn X.K (.ref C) "__len__" = some (some (.ref f)))
    (hf : PySem.W.isFn X.K (.ref f) = true) (hb : Binds X.K fd ps []) (hx : Passes CX X E) : CallR X (.builtin "len") (rLenO C sp E) := by
  intro pins s σ H xs us Q I r ⟨a, dx, fs, ex, ea, q⟩
  subst ex
  obtain ⟨u, rfl, ru⟩ := vals1 r
  obtain rfl : u = Value.ref a := ru
  obtain ⟨mA, O, _⟩ := ins_get I.hok ea
  obtain ⟨od, J, _⟩ := O.look
  obtain ⟨m, hF⟩ := I.fr
  have e0 : Env0 X.prog X.w X.K X.mg X.base X.A.in1 X.stack s H := by
    have e := I.env0
    exact ⟨e.frames, e.mod, e.bs, e.bsz, e.funs, e.frf, e.hok, e.bare⟩
  have hl := F.len _ _ _ _ q
  refine PySem.W.len_K hF I.ok.mod.kin J hs hf ?_
  refine wpAny_call (codeAny_mono (F.run X.A.in1 X.stack s H ⟨[.ref a], []⟩ [.ref a] [.ref a] _ E hr.in1 e0 (by
    have := hb s [.ref a] I.kIn (by simpa using hl)
    simpa using this) (.cons rfl .nil) q) fun r s' hq => ?_)
  cases r with
  | error e => exact hx pins σ H s e s' I hq
  | ok fl =>
    cases fl with
    | ret w =>
      obtain ⟨z, H', I', rz, n, ez, hn, q'⟩ := I.after hq
      subst ez
      obtain ⟨t, rfl⟩ := rz
      exact ⟨⟨by omega, by omega⟩, .int (n : Nat), H', I'.tok _, ⟨_, rfl⟩, q'⟩
    | next => exact False.elim hq
    | brk => exact False.elim hq
    | cont => exact False.elim hq
end
end Kx
set_option Elab.async false
set_option linter.all false
set_option maxRecDepth 100000
set_option maxHeartbeats 4000000
namespace Kx
open PySem PySem.Spec PyProof.Rows L2
/-! ### promises that hold where no repr is under way (repr of a list asks that) -/
structure FnOkG (P : Program) (w : World) (K : PySem.W.Frag) (mg : Str → Option Value) (base : Heap) (CX : CXT) (k : Nat) (f : Addr) (fd : FuncData) (ps : List Str) (sp : Sp) : Prop where
  len : ∀ vs H Q E, sp vs H Q E → vs.length = ps.length
  run : ∀ (A : Around) (outer : List Env) (s : Shared) (H : Hp) (args : Args) (us : List Value) (vs : List V) (Q : VK) (E : XK), A.guards = some [] → Room k A → Env0 P w K mg base A outer s H → BindsTo s fd args (ps.zip us) →
    Vals vs us → sp vs H Q E → codeAny (model P w) A (.call (.ref f) args) (CR CX outer P w H s Q E) s
section
variable {P : Program} {w : World} {K : PySem.W.Frag} {mg : Str → Option Value} {base : Heap} {CX : CXT}
theorem FnOkG.of {k : Nat} {f : Addr} {fd : FuncData} {ps : List Str} {sp : Sp} (F : FnOk P w K mg base CX k f fd ps sp) : FnOkG P w K mg base CX k f fd ps sp :=
  ⟨F.len, fun A outer s H args us vs Q E _ hr e b v h => F.run A outer s H args us vs Q E hr e b v h⟩
theorem fnG_mk {x q : Str} {st : Stmt} {f : Addr} {fd : FuncData} {N ps : List Str} {k : Nat} {sp : Sp} (F : FnP K x q st f fd) (S : FnScope N ps (defScope st)) (len : ∀ vs H Q E, sp vs H Q E → vs.length = ps.length)
    (hbody : ∀ (cdv : Value) (A : Around) (outer : List Env) (s : Shared) (H : Hp) (vs : List V) (Q : VK) (E : XK), A.guards = some [] → Room k (A.deeper (envOfC q (defScope st) s.heap.objs.size f cdv)) → sp vs H Q E →
      ∃ t, PSs (cxOf CX P w K mg base N q (defScope st) f cdv A outer s H E) (defBody st) t ∧ t { nx := fun _ H' => Q .non H', rt := Q } (start N vs) H) : FnOkG P w K mg base CX (k + 1) f fd ps sp := by
  obtain ⟨oc, od, dV, kV, doc, pm, an, cdv, ct, osl, rfl, lk, hcd, _, _⟩ := F.ex
  refine ⟨len, fun A outer s H args us vs Q E hg hr e0 hb r hsp => ?_⟩
  have hl := len _ _ _ _ hsp
  have up : ∀ b o, base.get? b = some o → s.heap.get? b = some o := fun b o e => (e0.bs b o e).1
  have kinds : ∀ y ∈ ps.zip us, (defScope st).names.lookup y.1 = some .local ∨ ((defScope st).names.lookup y.1 = some .cell ∧ ((cellsFrom (s.heap.objs.size + 1) (defScope st).names []).lookup y.1).isSome = true) := by
    rintro ⟨n, v⟩ hy
    rcases S.par n (List.of_mem_zip hy).1 with q | q
    · exact .inl q
    · exact .inr ⟨q, PySem.W.cellsFrom_some _ _ _ (.inl q)⟩
  refine codeAny_call_function hr.depth (e0.mod.kin.keeps up _ _ lk) rfl S.co S.gen rfl (PySem.W.codeRec_of (e0.mod.kin.keeps up) hcd) (hb _ _ _ _ ?_)
  refine wpAny_newFunctionEnv_cells S.kind kinds fun env he s1 x => ?_
  subst he
  refine ⟨(e0.mod.nolimit.keeps up).keeps x.toInCall.keep, codeAny_func ?_⟩
  obtain ⟨t, ht, hq⟩ := hbody cdv A outer s H vs Q E hg (hr.deeper _) hsp
  have I : Inv (cxOf CX P w K mg base N q (defScope st) f cdv A outer s H E) [] (start N vs) H s1 := inv_start S hr.hd e0 hl r x
  refine wpAny_mono (ht.run [] s1 (start N vs) H _ I hq) (fun fl s' hs => ?_) fun _ _ hs => hs
  cases fl with
  | ret u =>
    obtain ⟨v, σ', H', J, rv, q⟩ := hs
    exact ⟨v, H', J.os, J.bare, J.base, J.hok, rv, q⟩
  | next =>
    obtain ⟨σ', H', J, q⟩ := hs
    exact ⟨V.non, H', J.os, J.bare, J.base, J.hok, rfl, q⟩
  | brk => exact False.elim hs.choose_spec.choose_spec.2
  | cont => exact False.elim hs.choose_spec.choose_spec.2
end
/-- a def of the module, so promised -/
structure CalG (P : Program) (w : World) (K : PySem.W.Frag) (mg : Str → Option Value) (base : Heap) (CX : CXT) (k : Nat) (x : Str) (ps : List Str) (sp : Sp) : Prop where
  ok : ∃ fd, FnOkG P w K mg base CX k (He.ga K x) fd ps sp ∧ Binds K fd ps []
  g : mg x = some (.ref (He.ga K x))
  kp : PySem.W.keepIn K (.ref (He.ga K x)) = true
section
variable {P : Program} {w : World} {K : PySem.W.Frag} {mg : Str → Option Value} {base : Heap} {CX : CXT}
theorem calG_of {k : Nat} {x : Str} {ps : List Str} {sp : Sp} (F : Cal P w K mg base CX k x ps sp) : CalG P w K mg base CX k x ps sp := by
  obtain ⟨⟨fd, h1, h2⟩, h3, h4⟩ := F
  exact ⟨⟨fd, .of h1, h2⟩, h3, h4⟩
theorem calG_mk {x q : Str} {st : Stmt} {fd : FuncData} {N ps : List Str} {k : Nat} {sp : Sp} (F : FnP K x q st (He.ga K x) fd) (g : mg x = some (.ref (He.ga K x))) (S : FnScope N ps (defScope st))
    (hb : ∀ (kV doc pm : Value) (an : Option Addr) (cdv ct : Value) (us : List Value), us.length = ps.length → bindArgs (PySem.W.fnOf x q (defArgs st) (defBody st) (defScope st) .none kV doc pm an cdv ct) ⟨us, []⟩ = pure (ps.zip us))
    (len : ∀ vs H Q E, sp vs H Q E → vs.length = ps.length)
    (hbody : ∀ (cdv : Value) (A : Around) (outer : List Env) (s : Shared) (H : Hp) (vs : List V) (Q : VK) (E : XK), A.guards = some [] → Room k (A.deeper (envOfC q (defScope st) s.heap.objs.size (He.ga K x) cdv)) → sp vs H Q E →
      ∃ t, PSs (cxOf CX P w K mg base N q (defScope st) (He.ga K x) cdv A outer s H E) (defBody st) t ∧ t { nx := fun _ H' => Q .non H', rt := Q } (start N vs) H) : CalG P w K mg base CX (k + 1) x ps sp :=
  ⟨⟨fd, fnG_mk F S len hbody, F.bindsN hb⟩, g, F.kp⟩
end
section
variable {X : Cx} {CX : CXT} {k : Nat} {x : Str} {ps : List Str} {sp : Sp} {E : XK} {e : Expr} {es : List Expr} {t : TA} {p pos : Pos}
/-- f(e, ..), f promised so -/
theorem pe_calG (F : CalG X.prog X.w X.K X.mg X.base CX k x ps sp) (hG : X.A.guards = some []) (hr : Room k X.A) (hx : Passes CX X E) (ha : PA X (e :: es) t) (hg : Gl X x := by rfl) (hdb : (x == ("__debug__" : Str)) = false := by decide)
    (he : starEach (e :: es) X.env = (false, eval e X.env) :: starEach es X.env := by rfl) (hpl : (backTo pos (starEach es X.env)).any (·.1) = false := by rfl) :
    PE X (.Call (.Name x p) (e :: es) [] pos) (tCall sp [] E t) := by
  obtain ⟨fd, h1, h2⟩ := F.ok
  constructor
  intro pins s σ H Q I h
  refine wpAny_Call_Name_kw (ld_glob I hg F.g ?_ hdb)
  refine PySem.W.callWith_K (h₀ := X.base) I.ok.mod.kin F.kp (thn (ha.run pos pins s σ H _ I h) fun us s1 hh => ?_) he hpl
  obtain ⟨vs, H1, I1, r, q⟩ := hh
  refine ⟨I1.kIn, ?_⟩
  have q : sp (vs ++ []) H1 Q E := q
  rw [List.append_nil] at q
  have hl : (us ++ []).length = ps.length := by rw [List.append_nil, ← r.length]; exact h1.len _ _ _ _ q
  have hb := h2 s1 us I1.kIn hl
  rw [List.append_nil] at hb
  refine wpAny_call (codeAny_mono (h1.run X.A X.stack s1 H1 ⟨us, []⟩ us vs Q E hG hr I1.env0 hb r q) fun r s' hq => ?_)
  cases r with
  | error er => exact hx pins σ H1 s1 er s' I1 hq
  | ok fl =>
    cases fl with
    | ret u => exact I1.after hq
    | _ => exact False.elim hq
end
/-! ### repr -/
/-- repr(x), the data of x without dicts -/
def rRepr (K : PySem.W.Frag) : List V → Hp → VK → Prop := fun xs H Q => ∃ x d, xs = [x] ∧ Dp K H x d ∧ d.showable = true ∧ d.hasDict = false ∧ d.depth ≤ 60 ∧ ((∃ i, d = .int i) ∨ d.shown.length ≤ sizeLine) ∧ Q (.str d.shown) H
theorem call_repr {X : Cx} (hG : X.A.guards = some []) (hu : X.A.units + 64 < cLine) : CallR X (.builtin "repr") (rRepr X.K) := by
  intro pins s σ H xs us Q I r h
  obtain ⟨x, d, rfl, hd, hs, hn, hz, hl, q⟩ := h
  obtain ⟨u, rfl, ru⟩ := vals1 r
  obtain ⟨as, rd⟩ := Dp.reads I d x u hd ru
  cases hd with
  | non =>
    cases ru
    exact PySem.P.repr_of_none ⟨.str _, H, I.tok _, ⟨_, rfl⟩, q⟩
  | bl b =>
    cases ru
    exact PySem.P.repr_of_bool ⟨.str _, H, I.tok _, ⟨_, rfl⟩, q⟩
  | int i =>
    obtain ⟨t, rfl⟩ := ru
    exact PySem.P.repr_of_int (by simpa [PyData.showable] using hs) ⟨.str _, H, I.tok _, ⟨_, rfl⟩, q⟩
  | str z =>
    obtain ⟨t, rfl⟩ := ru
    exact PySem.P.repr_of_str ⟨.str _, H, I.tok _, ⟨_, rfl⟩, q⟩ (hl.resolve_left fun ⟨_, z⟩ => nomatch z)
  | lst h1 h2 =>
    cases ru
    exact PySem.repr_of_reads' rd hs (PyData.noDict_hsm hn) hG (by omega) (fun _ _ e => e) (fun h' t tk kk => ⟨.str _, H, I.kept kk, ⟨_, rfl⟩, q⟩) (hl.resolve_left fun ⟨_, z⟩ => nomatch z)
  | tup h1 h2 =>
    cases ru
    exact PySem.repr_of_reads' rd hs (PyData.noDict_hsm hn) hG (by omega) (fun _ _ e => e) (fun h' t tk kk => ⟨.str _, H, I.kept kk, ⟨_, rfl⟩, q⟩) (hl.resolve_left fun ⟨_, z⟩ => nomatch z)
theorem b_repr : bootBuiltins "repr" = some (.builtin "repr") := by decide +kernel
theorem show_int {k : Int} (h1 : -1 ≤ k) (h2 : k ≤ 100000) : (PyData.int k).showable = true := by
  unfold PyData.showable
  rw [decide_eq_true_eq]
  by_cases h0 : k.natAbs = 0
  · rw [h0]; decide
  · exact (Nat.log2_lt h0).mpr (Nat.lt_of_le_of_lt (by omega : k.natAbs ≤ 100000) (Nat.lt_of_lt_of_le (by decide : 100000 < 2 ^ 17) (Nat.pow_le_pow_right (by decide) (by decide))))
/-- data that repr shows -/
structure ReprOk (d : PyData) : Prop where
  sh : d.showable = true
  nd : d.hasDict = false
  dp : d.depth ≤ 60
  sz : (∃ i, d = .int i) ∨ d.shown.length ≤ sizeLine
theorem reprOk_int {k : Int} (h : -1 ≤ k ∧ k ≤ 100000) : ReprOk (.int k) := ⟨show_int h.1 h.2, by simp [PyData.hasDict], by simp [PyData.depth], .inl ⟨k, rfl⟩⟩
mutual
theorem Rp.dp {K : PySem.W.Frag} {H : Hp} : ∀ {v : V} {d : PyData}, Rp H v d → d.hasDict = false → Dp K H v d
  | _, _, .non, _ => .non
  | _, _, .bl b, _ => .bl b
  | _, _, .int i, _ => .int i
  | _, _, .str z, _ => .str z
  | _, _, .lst e h, n => .lst (SqL.of e) (RpL.dp h (by simpa [PyData.hasDict] using n))
  | _, _, .tup e h, n => .tup (SqT.of e) (RpL.dp h (by simpa [PyData.hasDict] using n))
  | _, _, .dct e, n => by simp [PyData.hasDict] at n
theorem RpL.dp {K : PySem.W.Frag} {H : Hp} : ∀ {vs : List V} {ds : List PyData}, RpL H vs ds → PyData.hasDictAll ds = false → DpAll K H vs ds
  | _, _, .nil, _ => .nil
  | _, _, .cons h hs, n => by
    simp only [PyData.hasDictAll, Bool.or_eq_false_iff] at n
    exact .cons (Rp.dp h n.1) (RpL.dp hs n.2)
end
end Kx
set_option Elab.async false
set_option linter.all false
set_option maxRecDepth 100000
set_option maxHeartbeats 4000000
namespace Kx
open PySem PySem.Spec PyProof.Rows L2
/-! ### a handled exception, seen from the def that it was passed to -/
section
variable {X : Cx} {a C : Addr} {oe : Obj} {d : Option Addr} {pos : Pos}
/-- as an instance -/
theorem err_inst {pins : List (Addr × Obj)} {s : Shared} {σ : L2.St} {H : Hp} {dd : Addr} {fs : List (Str × V)} (hm : (a, oe) ∈ X.pn) (hz : Zc (.ref C) (some dd) oe) (hf : ∃ vs, oe.data = .fields vs) (I : Inv X pins σ H s) (hd : H dd = some (.xd fs)) :
    ∃ od, PySem.W.InstAt s.heap a oe C (some od) ∧ ∀ n v, fs.lookup n = some v → ∃ u, PySem.W.lookIn n od = some (some u) ∧ RelV v u := by
  obtain ⟨hget, _⟩ := I.pin (a, oe) (List.mem_append_left _ hm)
  obtain ⟨vs, hv⟩ := hf
  have hx : ObjOk X.prog X.w H s.heap dd (.xd fs) := I.hok dd _ hd
  obtain ⟨mA, hns, hr⟩ := hx
  obtain ⟨od, ho, hl⟩ := lookIn_ns hns
  refine ⟨od, ⟨hget, hz.1, by unfold PySem.W.notCls; rw [hv] <;> rfl, by rw [hz.2]; exact ho⟩, fun n v l => ?_⟩
  obtain ⟨u, hu, ru⟩ := RelO.some_of (v := v) (o := mA n) (by rw [← l]; exact hr n)
  exact ⟨u, by rw [hl, hu], ru⟩
/-- isinstance(e, D) -/
def rIsM (K : PySem.W.Frag) (C a : Addr) (d : Option Addr) : List V → Hp → VK → Prop := fun xs H Q => ∃ (D dd : Addr) (fs : List (Str × V)) (b : Bool), xs = [.ref a, .ref D] ∧ d = some dd ∧ H dd = some (.xd fs) ∧ PySem.W.kitOne K (.ref C) (.ref D) = some b ∧ Q (.bl b) H
theorem call_isM (T : XfC X.K C) (hcl : (PySem.W.clsIn X.K C).isSome = true) (hc : PySem.W.findIn X.K (.ref C) "__class__" = some (some (.builtin "object.__class__"))) (hn : PySem.W.specialIn X.K (.builtin "object.__class__") "__get__" = some (some (.builtin "getset_descriptor.__get__")))
    (ht : PySem.W.takesIn X.K (.builtin "object.__class__") = some true) (ho : PySem.W.mroIn X.K C (.type "object") = some true) (hm : (a, oe) ∈ X.pn) (hz : Zc (.ref C) d oe) (hf : ∃ vs, oe.data = .fields vs) : CallR X (.builtin "isinstance") (rIsM X.K C a d) := by
  rintro pins s σ H xs us Q I r ⟨D, dd, fs, b, rfl, rfl, hd, e, q⟩
  obtain ⟨u1, u2, rfl, r1, r2⟩ := vals2 r
  cases r1
  cases r2
  obtain ⟨od, J, _⟩ := err_inst hm hz hf I hd
  exact PySem.W.kia_one (PySem.W.kitx_exc hcl T.ga T.gg T.exC hc hn ht ho) I.kIn J e (fun z => nomatch z) fun tk => ⟨.bl b, H, I.kept (t' := tk) fun _ _ z => z, rfl, q⟩
/-- e.f -/
theorem pe_xfM {e : Expr} {te : TE} {n : Str} {cls : Value} (T : XfC X.K C) (hno : PySem.W.findIn X.K (.ref C) n = some none) (hm : (a, oe) ∈ X.pn) (hz : Zc cls d oe) (hf : ∃ vs, oe.data = .fields vs) (he : PE X e te)
    (hb : attributeBase e n X.env (eval e X.env) = eval e X.env := by rfl) : PE X (.Attribute e n pos) (tXf a cls d C n te) := by
  constructor
  intro pins s σ H Q I h
  refine attr_of hb (thn (he.run pins s σ H _ I h) fun u s1 hh => ?_)
  obtain ⟨x, H1, I1, rx, rfl, rfl, dd, fs, v, rfl, ea, l, q⟩ := hh
  obtain rfl : u = Value.ref a := rx
  obtain ⟨od, J, hl⟩ := err_inst hm hz hf I1 ea
  obtain ⟨u, hu, ru⟩ := hl n v l
  exact PySem.HandSPX.exc_get I1.kIn J T.ga T.gg T.exC (PySem.W.findObj_own T.hdC hno rfl hu) (handed_of ru) ⟨v, H1, I1.tok _, ru, q⟩
end
theorem told_ex : ∀ x ∈ toldl, ∃ fs, (x, fs) ∈ excl := by
  intro x hx
  have h : (toldl.all fun x => excl.any fun p => decide (p.1 = x)) = true := by decide +kernel
  have h1 := List.all_eq_true.mp h x hx
  obtain ⟨p, hp, he⟩ := List.any_eq_true.mp h1
  have := of_decide_eq_true he
  subst this
  exact ⟨p.2, hp⟩
structure ErrF (K : PySem.W.Frag) (x : Str) : Prop where
  xf : XfC K (He.ga K x)
  cl : (PySem.W.clsIn K (He.ga K x)).isSome = true
  cc : PySem.W.findIn K (.ref (He.ga K x)) "__class__" = some (some (.builtin "object.__class__"))
  mo : PySem.W.mroIn K (He.ga K x) (.type "object") = some true
  kit : ∀ y ∈ askedl, PySem.W.kitOne K (.ref (He.ga K x)) (.ref (He.ga K y)) = some (isErr x y)
  fld : ∀ f ∈ (["at", "number", "thing"] : List Str), PySem.W.findIn K (.ref (He.ga K x)) f = some none
theorem errF {K mg} (T : Txt K mg) {x : Str} (hx : x ∈ toldl) : ErrF K x := by
  have hall : ∀ fs, (x, fs) ∈ excl → exB K x fs = true := fun fs hf => List.all_eq_true.mp (Bool.and_eq_true_iff.mp (Bool.and_eq_true_iff.mp T.ex).1).1 (x, fs) hf
  obtain ⟨fs0, hf0⟩ := told_ex x hx
  have h0 := hall fs0 hf0
  unfold exB at h0
  simp only [Bool.and_eq_true] at h0
  have xf := xfB_ok h0.2.2.2.2.2.2.2.2
  obtain ⟨k1, k2, _, k6, _⟩ := ex_rest T
  have hc := k2 x hx
  unfold clsfB at hc
  simp only [Bool.and_eq_true, decide_eq_true_eq] at hc
  refine ⟨xf, ?_, hc.1, hc.2, fun y hy => ?_, fun f hff => ?_⟩
  · obtain ⟨cd, h, _⟩ := PySem.W.any_some xf.hdC
    rw [h]
    rfl
  · unfold kitsB at k1
    exact of_decide_eq_true (List.all_eq_true.mp (List.all_eq_true.mp k1 x hx) y hy)
  · unfold fldsB at k6
    exact of_decide_eq_true (List.all_eq_true.mp (List.all_eq_true.mp k6 x hx) f hff)
section
variable {X : Cx}
theorem psS_ex {α : Type} {b : List Stmt} {p : α → Prop} {t : α → TS} {t' : TS} (h : ∀ x, p x → PSs X b (t x)) (i : ∀ D σ H, t' D σ H → ∃ x, p x ∧ t x D σ H) : PSs X b t' := ⟨fun pins s σ H D I h' => by
  obtain ⟨x, px, q⟩ := i D σ H h'
  exact (h x px).run pins s σ H D I q⟩
end
/-- what a call may let out here -/
theorem passAtN {X : Cx} {W : WX} (tk : L2N.Takes X W) (σ : L2.St) : PassesAt (L2N.CX X.prog X.w) X σ (fun cls d H => W cls d σ H) := fun _ _ _ er s' I c => tk er s' (L2N.XE.of_call I (fun _ _ _ h => h) c)
theorem takes_no {X : Cx} : L2N.Takes X (fun _ _ _ _ => False) := fun u s' ⟨_, _, _, _, _, _, _, _, _, _, _, _, _, _, _, _, h⟩ => h.elim
end Kx
set_option Elab.async false
set_option linter.all false
set_option maxRecDepth 100000
set_option maxHeartbeats 4000000
namespace Kx
open PySem PySem.Spec PyProof.Rows L2
theorem rIx_str {K : PySem.W.Frag} {H : Hp} {z : Str} {i c : Nat} {Q : VK} (hz : z.length ≤ 100000) (e : z.cps.toList[i]? = some c) (q : Q (.str ⟨#[c]⟩) H) : rIx K (.str z) (.int (i : Nat)) H Q :=
  .inr (.inr ⟨z, _, c, rfl, rfl, Nat.le_trans hz (by decide), atI_nat e, q⟩)
/-! ### the source of draws: a list of three ints, changed by each draw -/
def three (A S C : Int) : HO := .lst [.int A, .int S, .int C]
def SrcAt (H : Hp) (a : Addr) : Prop := ∃ A S C : Int, H a = some (three A S C)
theorem set3 {H : Hp} {a : Addr} {A S C x : Int} {i : Nat} {Q : Hp → Prop} (h : H a = some (three A S C)) (hi : i < 3) (q : Q (upd H a (.lst ([V.int A, .int S, .int C].set i (.int x))))) : rSetL (.ref a) (.int (i : Nat)) (.int x) H Q := by
  refine ⟨a, _, (i : Nat), i, rfl, rfl, h, ?_, q⟩
  match i, hi with
  | 0, _ => rfl
  | 1, _ => rfl
  | 2, _ => rfl
section
variable {P : Program} {w : World} {K : PySem.W.Frag} {mg : Str → Option Value} {base : Heap}
def sp_law_pick : Sp := fun vs H Q _ => ∃ (a : Addr) (m : Int), vs = [.ref a, .int m] ∧ 0 < m ∧ m < 1073741824 ∧ SrcAt H a ∧ ∀ (A S C d : Int), 0 ≤ d → d < m → Q (.int d) (upd H a (three A S C))
theorem upd_upd {H : Hp} {a : Addr} {o o' : HO} : upd (upd H a o) a o' = upd H a o' := by
  funext b
  by_cases hb : b = a
  · subst hb; rw [upd_same, upd_same]
  · rw [upd_ne hb, upd_ne hb, upd_ne hb]
theorem ok_law_pick (T : Txt K mg) : Cal P w K mg base CX0 1 "_law_pick" ["_law_source_here", "_law_many"] sp_law_pick := by
  obtain ⟨fd, F⟩ := F__law_pick T
  refine cal_mk F (g__law_pick T) sc__law_pick (fun _ _ _ _ _ _ us hl => match us, hl with | [_, _], _ => rfl) (fun vs H Q E h => ?_) (fun cdv A outer s H vs Q E hr h => ?_)
  · obtain ⟨a, m, rfl, _⟩ := h; rfl
  · refine ⟨_, PSs.nox (pss_cons (ps_if (pt_cmpR op_gt (pe_ix ix_list (pv 0) pe_int (fun _ _ => rfl)) pe_int (nomark _))
        (pss_cons (ps_set (i := 2) sc__law_pick.nd rfl (Or.inl rfl) (pe_op op_mod (pe_callTy call_int1 (by rfl) (fr_int T) b_int (pa_cons (pe_ix ix_list (pv 0) pe_int (fun _ _ => rfl)) pa_nil)) (pv 1)))
        (pss_cons (ps_asg (pe_op op_fdiv (pe_ix ix_list (pv 0) pe_int (fun _ _ => rfl)) (pv 1)) (pg_sub (pv 0) pe_int set_list))
        (pss_one (ps_ret (pv 2))))) pss_nil)
      (pss_cons (ps_asg (pe_op op_add (pe_ix ix_list (pv 0) pe_int (fun _ _ => rfl)) pe_int) (pg_sub (pv 0) pe_int set_list))
      (pss_cons (ps_set (i := 3) sc__law_pick.nd rfl (Or.inl rfl) (pe_op op_mod (pe_callTy call_int1 (by rfl) (fr_int T) b_int (pa_cons (pe_op op_mul (pe_op op_add (pe_ix ix_list (pv 0) pe_int (fun _ _ => rfl)) (pe_op op_mul pe_int (pe_ix ix_list (pv 0) pe_int (fun _ _ => rfl)))) pe_int) pa_nil)) pe_int))
      (pss_cons (ps_set (i := 3) sc__law_pick.nd rfl (Or.inl rfl) (pe_op op_mod (pe_callTy call_int1 (by rfl) (fr_int T) b_int (pa_cons (pe_op op_add (pe_op op_add (pe_op op_mul (pv 3) (pv 3)) (pe_op op_mul pe_int (pe_ix ix_list (pv 0) pe_int (fun _ _ => rfl)))) (pe_ix ix_list (pv 0) pe_int (fun _ _ => rfl))) pa_nil)) pe_int))
      (pss_cons (ps_set (i := 3) sc__law_pick.nd rfl (Or.inl rfl) (pe_op op_mod (pe_callTy call_int1 (by rfl) (fr_int T) b_int (pa_cons (pe_op op_add (pe_op op_mul (pv 3) pe_int) pe_int) pa_nil)) pe_int))
      (pss_cons (ps_set (i := 3) sc__law_pick.nd rfl (Or.inl rfl) (pe_op op_mod (pe_callTy call_int1 (by rfl) (fr_int T) b_int (pa_cons (pe_op op_add (pe_op op_mul (pv 3) (pv 3)) (pv 3)) pa_nil)) pe_int))
      (pss_one (ps_ret (pe_op op_mod (pe_callTy call_int1 (by rfl) (fr_int T) b_int (pa_cons (pe_op op_fdiv (pv 3) pe_int) pa_nil)) (pv 1)))))))))), ?_⟩
    obtain ⟨a, m, rfl, hm0, hm1, ⟨A0, S0, C0, hs⟩, q⟩ := h
    have hs' : H a = some (.lst [.int A0, .int S0, .int C0]) := hs
    refine ⟨.ref a, rfl, a, _, _, _, rfl, rfl, SqL.of hs', rfl, A0, 0, rfl, rfl, _, rfl, ?_⟩
    by_cases hA : (0 : Int) < A0
    · rw [decide_eq_true hA]
      refine iteT ⟨.ref a, rfl, a, _, _, _, rfl, rfl, SqL.of hs', rfl, .inl ⟨A0, rfl, .int m, rfl, A0, m, rfl, rfl, hm0, ?_⟩⟩
      refine ⟨.ref a, rfl, a, _, _, _, rfl, rfl, SqL.of hs', rfl, .int m, rfl, A0, m, rfl, rfl, ⟨hm0, hm1⟩, .ref a, rfl, a, _, _, 0, rfl, rfl, hs', rfl, ?_⟩
      exact ⟨.int (A0 % m), rfl, q (A0 / m) S0 C0 (A0 % m) (Int.emod_nonneg _ (by omega)) (Int.emod_lt_of_pos _ hm0)⟩
    · rw [decide_eq_false hA]
      refine iteF ?_
      refine ⟨.ref a, rfl, a, _, _, _, rfl, rfl, SqL.of hs', rfl, C0, 1, rfl, rfl, .ref a, rfl, a, _, _, 2, rfl, rfl, hs', rfl, ?_⟩
      have h2 : upd H a (.lst [.int A0, .int S0, .int (C0 + 1)]) a = some (.lst [.int A0, .int S0, .int (C0 + 1)]) := upd_same
      have hq := q A0 S0 (C0 + 1)
      have e3 : upd H a (.lst ([V.int A0, V.int S0, V.int C0].set 2 (.int (C0 + 1)))) = upd H a (three A0 S0 (C0 + 1)) := rfl
      rw [e3]
      have h3 : upd H a (three A0 S0 (C0 + 1)) a = some (.lst [.int A0, .int S0, .int (C0 + 1)]) := upd_same
      generalize upd H a (three A0 S0 (C0 + 1)) = H3 at h3 hq ⊢
      have sm : ∀ x n : Int, 0 < n → n < 2 ^ 40 → -(2 ^ 64) < x % n ∧ x % n < 2 ^ 64 := fun x n h1 h2 => by
        have e1 := Int.emod_nonneg x (Int.ne_of_gt h1)
        have e2 := Int.emod_lt_of_pos x h1
        omega
      refine ⟨.ref a, rfl, a, _, _, _, rfl, rfl, SqL.of h3, rfl, .ref a, rfl, a, _, _, _, rfl, rfl, SqL.of h3, rfl, 7919, C0 + 1, rfl, rfl, .inl (by omega), S0, _, rfl, rfl, _, 48271, rfl, rfl, .inr (by omega), .inl ⟨_, rfl, _, 2147483647, rfl, rfl, by omega, ?_⟩⟩
      generalize (S0 + 7919 * (C0 + 1)) * 48271 = x1
      refine ⟨_, rfl, _, rfl, _, _, rfl, rfl, .inl (sm x1 2147483647 (by omega) (by omega)), .ref a, rfl, a, _, _, _, rfl, rfl, SqL.of h3, rfl, 69621, C0 + 1, rfl, rfl, .inl (by omega), _, _, rfl, rfl, .ref a, rfl, a, _, _, _, rfl, rfl, SqL.of h3, rfl, _, S0, rfl, rfl, .inl ⟨_, rfl, _, 2147483629, rfl, rfl, by omega, ?_⟩⟩
      generalize x1 % 2147483647 * (x1 % 2147483647) + 69621 * (C0 + 1) + S0 = x2
      refine ⟨_, rfl, _, 16807, rfl, rfl, .inr (by omega), _, 11, rfl, rfl, .inl ⟨_, rfl, _, 2147483647, rfl, rfl, by omega, ?_⟩⟩
      generalize x2 % 2147483629 * 16807 + 11 = x3
      refine ⟨_, rfl, _, rfl, _, _, rfl, rfl, .inl (sm x3 2147483647 (by omega) (by omega)), _, rfl, _, _, rfl, rfl, .inl ⟨_, rfl, _, 2147483587, rfl, rfl, by omega, ?_⟩⟩
      generalize x3 % 2147483647 * (x3 % 2147483647) + x3 % 2147483647 = x4
      refine ⟨_, rfl, _, 3, rfl, rfl, ⟨by omega, by omega⟩, .inl ⟨_, rfl, .int m, rfl, _, m, rfl, rfl, hm0, ?_⟩⟩
      exact hq _ (Int.emod_nonneg _ (by omega)) (Int.emod_lt_of_pos _ hm0)
end
/-! ### what draws leave: the source is a source, all else stands -/
structure Fra (a : Addr) (H H' : Hp) : Prop where
  src : SrcAt H' a
  sm : Same (del H a) (del H' a)
theorem same_del {H H' : Hp} (a : Addr) (s : Same H H') : Same (del H a) (del H' a) := fun b o e => by
  by_cases hb : b = a
  · subst hb; rw [del_same] at e; cases e
  · rw [del_ne hb] at e ⊢; exact s b o e
theorem del_le {H : Hp} (a : Addr) : Same (del H a) H := fun b o e => by
  by_cases hb : b = a
  · subst hb; rw [del_same] at e; cases e
  · rw [del_ne hb] at e; exact e
theorem Fra.refl {a : Addr} {H : Hp} (h : SrcAt H a) : Fra a H H := ⟨h, Same.refl _⟩
theorem Fra.trans {a : Addr} {H H1 H2 : Hp} (f : Fra a H H1) (g : Fra a H1 H2) : Fra a H H2 := ⟨g.src, f.sm.trans g.sm⟩
theorem SrcAt.same {a : Addr} {H H' : Hp} (h : SrcAt H a) (s : Same H H') : SrcAt H' a := by
  obtain ⟨A, S, C, e⟩ := h
  exact ⟨A, S, C, s _ _ e⟩
theorem Fra.same {a : Addr} {H H' : Hp} (h : SrcAt H a) (s : Same H H') : Fra a H H' := ⟨h.same s, same_del a s⟩
theorem Fra.drawn {a : Addr} {H : Hp} (A S C : Int) : Fra a H (upd H a (three A S C)) := ⟨⟨A, S, C, upd_same⟩, fun b o e => by
  by_cases hb : b = a
  · subst hb; rw [del_same] at e; cases e
  · rw [del_ne hb] at e ⊢; rw [upd_ne hb]; exact e⟩
/-- what is seen beside the source stands there behind it -/
theorem Fra.up {a : Addr} {H H' : Hp} (f : Fra a H H') : Same (del H a) H' := f.sm.trans (del_le a)
section
variable {P : Program} {w : World} {K : PySem.W.Frag} {mg : Str → Option Value} {base : Heap}
/-- a draw, told with its frame -/
theorem pick_r {H : Hp} {a : Addr} {m : Int} {Q : VK} {E : XK} (hs : SrcAt H a) (h0 : 0 < m) (h1 : m < 1073741824) (q : ∀ H' d, Fra a H H' → 0 ≤ d → d < m → Q (.int d) H') : sp_law_pick [.ref a, .int m] H Q E :=
  ⟨a, m, rfl, h0, h1, hs, fun A S C d h2 h3 => q _ d (Fra.drawn A S C) h2 h3⟩
end
section
variable {P : Program} {w : World} {K : PySem.W.Frag} {mg : Str → Option Value} {base : Heap}
theorem Fra.over {a : Addr} {H H' : Hp} {D : Addr} {o : HO} (f : Fra a H H') (hD : H D = none) (hna : D ≠ a) : Fra a H (upd H' D o) := by
  refine ⟨?_, fun b u e => ?_⟩
  · obtain ⟨A, S, C, e⟩ := f.src
    exact ⟨A, S, C, by rw [upd_ne (Ne.symm hna)]; exact e⟩
  · have h1 := f.sm b u e
    by_cases hb : b = a
    · subst hb; rw [del_same] at e; cases e
    · rw [del_ne hb] at e h1 ⊢
      rw [upd_ne (ne_of_none e hD)]
      exact h1
def sp_law_word : Sp := fun vs H Q _ => ∃ (a : Addr) (al : Str) (most : Nat), vs = [.ref a, .str al, .int (most : Nat)] ∧ 1 ≤ al.length ∧ al.length ≤ 8 ∧ most ≤ 200 ∧ SrcAt H a ∧
  ∀ H' (cs : List Nat), Fra a H H' → (∀ c ∈ cs, c ∈ al.cps.toList) → cs.length ≤ most → Q (.str (Txt.join "" (cs.map one1))) H'
theorem ok_law_word (T : Txt K mg) : Cal P w K mg base CX0 2 "_law_word" ["_law_source_here", "_law_alphabet_here", "_law_most"] sp_law_word := by
  obtain ⟨fd, F⟩ := F__law_word T
  refine cal_mk F (g__law_word T) sc__law_word (fun _ _ _ _ _ _ us hl => match us, hl with | [_, _, _], _ => rfl) (fun vs H Q E h => ?_) (fun cdv A outer s H vs Q E hr h => ?_)
  · obtain ⟨a, al, most, rfl, _⟩ := h; rfl
  · refine ⟨_, PSs.nox (pss_cons (ps_set (i := 3) sc__law_word.nd rfl (Or.inl rfl) (pe_cal (ok_law_pick T) hr pass0 (pa_cons (pv 0) (pa_cons (pe_op op_add (pv 2) pe_int) pa_nil))))
      (pss_one (ps_ret (pe_join pe_str (pe_lc (own := [("_law_k", 4)]) (g := gName 4) (tt := tYes) rfl sc__law_word.nd (pi_range1 (by rfl) (fr_range T) (pa_cons (pv 3) pa_nil)) (blkOk_by (N := N__law_word) (sc := defScope s__law_word) (by decide +kernel))
        (fun _ _ _ _ _ => pg_name (i := 4) sc__law_word.nd rfl (Or.inl rfl)) (fun _ _ _ _ _ => pts_nil)
        (fun _ _ _ _ _ => by refine pe_ix (ta := tVar 1) (tb := tCall sp_law_pick [] E0 (tCons (tVar 0) (tCons (tCB (rLen K) (tCons (tVar 1) tNil)) tNil))) (r := rIx K) ?_ (pv 1) ?_ (fun _ _ => rfl); exact ix_seq; exact pe_cal (ok_law_pick T) hr pass0 (pa_cons (pv 0) (pa_cons (pe_callB call_len (by rfl) (fr_len T) boot_len (pa_cons (pv 1) pa_nil)) pa_nil)))))))), ?_⟩
    obtain ⟨a, al, most, rfl, h1, h8, hm, hs, q⟩ := h
    refine ⟨.ref a, rfl, .int (most : Nat), rfl, _, 1, rfl, rfl, a, _, rfl, (by omega), (by omega), hs, fun A1 S1 C1 d hd0 hd1 => ?_⟩
    have f1 : Fra a H (upd H a (three A1 S1 C1)) := Fra.drawn A1 S1 C1
    generalize upd H a (three A1 S1 C1) = H1 at f1
    obtain ⟨n, rfl⟩ := Int.eq_ofNat_of_zero_le hd0
    have hn : n ≤ most := by omega
    refine ⟨⟨"", rfl⟩, .int (n : Nat), rfl, (n : Nat), rfl, (by omega), (by omega), fun D hD => ?_⟩
    have hna : D ≠ a := fun z => by
      obtain ⟨A, S, C, e⟩ := f1.src
      rw [← z, hD] at e
      cases e
    have en : ((n : Nat) : Int).toNat = n := by omega
    rw [en]
    refine lc_it (walk_range (n := n)) (tt := tYes) (fun i H2 => ∃ cs : List Nat, H2 D = some (.lst (cs.map fun c => V.str (one1 c))) ∧ cs.length = i ∧ (∀ c ∈ cs, c ∈ al.cps.toList) ∧ Fra a H1 H2)
      ⟨[], upd_same, rfl, fun c hc => (by cases hc), Fra.same f1.src (same_upd hD)⟩ (fun _ _ _ _ => trivial) ?_ ?_
    · rintro i x H2 H3 hi ⟨cs, hDc, hl, hc, f2⟩ ⟨eH, ex0⟩
      replace eH := eH.symm
      subst eH
      refine ⟨rfl, .str al, rfl, .ref a, rfl, .str al, rfl, _, _, rfl, lenV_str (Nat.le_trans h8 (by decide)), a, _, rfl, (by omega), (by omega), f2.src, fun A2 S2 C2 d2 hd2 hd3 => ?_⟩
      have f3 : Fra a H2 (upd H2 a (three A2 S2 C2)) := Fra.drawn A2 S2 C2
      obtain ⟨m, rfl⟩ := Int.eq_ofNat_of_zero_le hd2
      have hml : m < al.cps.toList.length := by have e : al.cps.toList.length = al.length := Array.length_toList; omega
      have hD3 : upd H2 a (three A2 S2 C2) D = some (.lst (cs.map fun c => V.str (one1 c))) := by rw [upd_ne hna]; exact hDc
      refine rIx_str (Nat.le_trans h8 (by decide)) (List.getElem?_eq_getElem hml) ⟨_, hD3, ?_, cs ++ [al.cps.toList[m]], ?_, ?_, ?_, ?_⟩
      · rw [List.length_map, hl]
        exact Nat.lt_of_lt_of_le (by have : i < n := hi; omega : i < 201) (by decide)
      · rw [upd_same, List.map_append]
        rfl
      · rw [List.length_append, hl]
        rfl
      · intro c hcc
        rcases List.mem_append.mp hcc with h | h
        · exact hc c h
        · rw [List.mem_singleton.mp h]
          exact List.getElem_mem hml
      · exact (f2.trans f3).over hD hna
    · rintro H2 ⟨cs, hDc, hl, hc, f2⟩
      have hj : (((cs.map one1).map V.str)) = cs.map fun c => V.str (one1 c) := by rw [List.map_map]; rfl
      refine ⟨"", D, cs.map one1, rfl, rfl, .inl (SqL.of (by rw [hDc, hj])), ?_, q H2 cs (f1.trans f2) hc (by omega)⟩
      have e : ((cs.map one1).map (·.length)).sum = cs.length := by
        clear hDc hl hc f2 hj
        induction cs with
        | nil => rfl
        | cons c cs ih => simp only [List.map_cons, List.sum_cons, ih, List.length_cons]; show 1 + cs.length = cs.length + 1; omega
      rw [e]
      have e0 : ("" : Str).length = 0 := rfl
      rw [e0]
      omega
end
theorem none_upd {H : Hp} {p a : Addr} {o : HO} (h : upd H p o a = none) : H a = none := by
  by_cases e : a = p
  · subst e; rw [upd_same] at h; cases h
  · rwa [upd_ne e] at h
theorem cut_int {ns : List Int} {lo hi : Option Int} {v : V} (h : v ∈ cutV (ns.map V.int) lo hi) : ∃ j, v = .int j := by
  unfold cutV at h
  have h1 := List.mem_of_mem_drop (List.mem_of_mem_take h)
  obtain ⟨j, _, rfl⟩ := List.mem_map.mp h1
  exact ⟨j, rfl⟩
theorem log2_mono {a n : Nat} (h : a ≤ n) : a.log2 ≤ n.log2 := by
  by_cases ha : a = 0
  · subst ha; simp
  · exact Nat.le_of_lt_succ ((Nat.log2_lt ha).mpr (Nat.lt_of_le_of_lt h Nat.lt_log2_self))
theorem bits_mono {a n : Int} (h0 : 0 ≤ a) (h : a ≤ n) : Builtin.Int.intBits a ≤ Builtin.Int.intBits n := by
  unfold Builtin.Int.intBits
  have h1 := log2_mono (a := a.natAbs) (n := n.natAbs) (by omega)
  by_cases ha : a = 0
  · subst ha; simp
  · have hn : n ≠ 0 := by omega
    rw [if_neg (by simpa using ha), if_neg (by simpa using hn)]
    omega
theorem bits_quot {n : Int} (h0 : 0 ≤ n) (h : Builtin.Int.intBits n ≤ 1048576) : (Builtin.Int.intBits (n / 2 ^ (3000 : Int).toNat) : Int) + 3000 ≤ 2 ^ 27 := by
  have h1 : 0 ≤ n / 2 ^ (3000 : Int).toNat := Int.ediv_nonneg h0 (Int.le_of_lt (Int.pow_pos (by decide)))
  have h2 : n / 2 ^ (3000 : Int).toNat ≤ n := Int.ediv_le_self _ h0
  have h3 := bits_mono h1 h2
  have h4 : (Builtin.Int.intBits (n / 2 ^ (3000 : Int).toNat) : Int) ≤ 1048576 := by omega
  have h5 : (1048576 : Int) + 3000 ≤ 2 ^ 27 := by decide
  omega
theorem bits_small {n : Int} (h0 : 0 ≤ n) (h : n ≤ 100000) : Builtin.Int.intBits n ≤ 1048576 := by
  have := bits_mono h0 h
  have e : Builtin.Int.intBits 100000 ≤ 1048576 := by decide +kernel
  omega
section
variable {P : Program} {w : World} {K : PySem.W.Frag} {mg : Str → Option Value} {base : Heap}
def sp_law_source (K : PySem.W.Frag) : Sp := fun vs H Q _ => ∃ (b : Addr) (ns : List Int) (k : Nat), vs = [.ref b, .int (k : Nat)] ∧ SqL K H b (ns.map V.int) ∧ ns.length ≤ 1000 ∧ (∀ n ∈ ns, Builtin.Int.intBits n ≤ 1048576) ∧ k ≤ 1000 ∧
  ∀ H' a, Same H H' → SrcAt H' a → H a = none → Q (.ref a) H'
theorem ok_law_source (T : Txt K mg) : Cal P w K mg base CX0 1 "_law_source" ["_law_script", "_law_place"] (sp_law_source K) := by
  obtain ⟨fd, F⟩ := F__law_source T
  refine cal_mk F (g__law_source T) sc__law_source (fun _ _ _ _ _ _ us hl => match us, hl with | [_, _], _ => rfl) (fun vs H Q E h => ?_) (fun cdv A outer s H vs Q E hr h => ?_)
  · obtain ⟨b, ns, k, rfl, _⟩ := h; rfl
  · refine ⟨_, PSs.nox (pss_cons (ps_set (i := 2) sc__law_source.nd rfl (Or.inl rfl) (pe_ifExp (pt_cmpR op_lt (pv 1) (pe_callB call_len (by rfl) (fr_len T) boot_len (pa_cons (pv 0) pa_nil)) (nomark _)) (pe_ix ix_list (pv 0) (pv 1) (fun _ _ => rfl)) (pe_op op_add (pe_op op_mul pe_int (pv 1)) pe_int)))
      (pss_cons (ps_set (i := 3) sc__law_source.nd rfl (Or.inl rfl) (pe_op op_add (pe_op op_mul pe_int (pv 1)) pe_int))
      (pss_cons (ps_for PassesOwn.never rfl (pi_list (pe_slice sl_list (pv 0) po_none (po_some pe_int))) (pg_name (i := 4) sc__law_source.nd rfl (Or.inl rfl))
        (pss_one (ps_set (i := 3) sc__law_source.nd rfl (Or.inl rfl) (pe_op op_mod (pe_callTy call_int1 (by rfl) (fr_int T) b_int (pa_cons (pe_op op_add (pe_op op_mul (pv 3) pe_int) (pe_op op_mod (pe_callTy call_int1 (by rfl) (fr_int T) b_int (pa_cons (pv 4) pa_nil)) pe_int)) pa_nil)) pe_int))))
      (pss_cons (ps_set (i := 3) sc__law_source.nd rfl (Or.inl rfl) (pe_op op_mod (pe_callTy call_int1 (by rfl) (fr_int T) b_int (pa_cons (pe_op op_add (pe_op op_mul (pv 3) pe_int) (pe_op op_mod (pe_callTy call_int1 (by rfl) (fr_int T) b_int (pa_cons (pv 2) pa_nil)) pe_int)) pa_nil)) pe_int))
      (pss_cons (ps_set (i := 5) sc__law_source.nd rfl (Or.inl rfl) (pe_callB call_abs (by rfl) (fr_abs T) (by decide +kernel) (pa_cons (pv 2) pa_nil)))
      (pss_cons (ps_if (pt_cmpR op_lt (pv 5) (pe_op op_pow pe_int pe_int) (nomark _)) (pss_one (ps_ret (pe_lst (pa_cons pe_int (pa_cons (pv 3) (pa_cons pe_int pa_nil)))))) pss_nil)
      (pss_cons (ps_if (pt_cmpR op_gt (pe_op op_shr (pv 5) pe_int) pe_int (nomark _)) (pss_one (ps_set (i := 5) sc__law_source.nd rfl (Or.inl rfl) (pe_op op_sub (pv 5) (pe_op op_shlW (pe_op op_shr (pv 5) pe_int) pe_int)))) pss_nil)
      (pss_one (ps_ret (pe_lst (pa_cons (pv 5) (pa_cons (pv 3) (pa_cons pe_int pa_nil))))))))))))), ?_⟩
    obtain ⟨b, ns, k, rfl, hs, hn, hbits, hk, q⟩ := h
    have hlen : (ns.map V.int).length = ns.length := List.length_map ..
    by_cases hk2 : k < ns.length
    all_goals refine ⟨.int (k : Nat), rfl, .ref b, rfl, _, _, rfl, .inl ⟨_, hs, rfl⟩, _, _, rfl, rfl, _, rfl, ?_⟩
    · rw [decide_eq_true (by rw [hlen]; omega)]
      have hg : (ns.map V.int)[k]? = some (V.int ns[k]) := by rw [List.getElem?_map, List.getElem?_eq_getElem hk2]; rfl
      have hb9 := hbits _ (List.getElem_mem hk2)
      refine iteT ⟨.ref b, rfl, .int (k : Nat), rfl, b, _, _, V.int ns[k], rfl, rfl, hs, atI_nat hg, ?_⟩
      generalize ns[k] = c at hb9 ⊢
      refine ⟨.int (k : Nat), rfl, 1009, _, rfl, rfl, .inl (by omega), _, 17, rfl, rfl, ?_⟩
      refine ⟨.ref b, rfl, 3, rfl, b, _, rfl, hs, fun p hp => ?_⟩
      have sp1 := same_upd (o := .lst (cutV (ns.map V.int) none (some 3))) hp
      refine ⟨p, rfl, ⟨_, SqL.of upd_same⟩, ?_⟩
      refine for_it (walk_list (xs := cutV (ns.map V.int) none (some 3))) (fun i σ H2 => ∃ (seed : Int) (v4 v5 : Option V), σ = [some (.ref b), some (.int (k : Nat)), some (.int c), some (.int seed), v4, v5] ∧ H2 = upd H p (.lst (cutV (ns.map V.int) none (some 3))))
        ⟨_, none, none, rfl, rfl⟩ (fun i σ H2 _ ⟨_, _, _, _, e⟩ => SqL.of (by rw [e]; exact upd_same)) ?_ ?_
      · rintro i x σ H2 H3 hi ⟨seed, v4, v5, rfl, rfl⟩ ⟨eH, hx⟩
        subst eH
        obtain ⟨j, rfl⟩ := cut_int (List.mem_of_getElem? hx)
        exact ⟨_, rfl, _, 31, rfl, rfl, .inr (by omega), .int j, rfl, .inl ⟨j, rfl, _, 2147483629, rfl, rfl, by omega, _, _, rfl, rfl, .inl ⟨_, rfl, _, 2147483629, rfl, rfl, by omega, _, _, _, rfl, rfl⟩⟩⟩
      · rintro σ H2 ⟨seed, v4, v5, rfl, rfl⟩
        refine ⟨_, rfl, _, 31, rfl, rfl, .inr (by omega), .int c, rfl, .inl ⟨c, rfl, _, 2147483587, rfl, rfl, by omega, _, _, rfl, rfl, .inl ⟨_, rfl, _, 2147483629, rfl, rfl, by omega, ?_⟩⟩⟩
        refine ⟨.int c, rfl, c, rfl, ?_⟩
        have hb0 : Builtin.Int.intBits (if c < 0 then -c else c) ≤ 1048576 ∧ 0 ≤ (if c < 0 then -c else c) := by
          constructor
          · unfold Builtin.Int.intBits at hb9 ⊢
            split
            · simpa using hb9
            · exact hb9
          · split <;> omega
        generalize (if c < 0 then -c else c) = num at hb0
        obtain ⟨hb1, hn0⟩ := hb0
        refine ⟨.int num, rfl, 10, 18, rfl, rfl, ⟨by omega, by omega, by decide⟩, _, _, rfl, rfl, _, rfl, ?_⟩
        cases hlt : decide (num < 10 ^ (18 : Int).toNat) with
        | true => exact iteT ⟨_, rfl, (by show 3 ≤ sizeLine; decide), fun a ha => q _ a (sp1.trans (same_upd ha)) ⟨0, _, 0, upd_same⟩ (none_upd ha)⟩
        | false =>
          refine iteF ⟨.int num, rfl, num, 3000, rfl, rfl, by omega, _, 0, rfl, rfl, _, rfl, ?_⟩
          cases hgt : decide (0 < num / 2 ^ (3000 : Int).toNat) with
          | false => exact iteF ⟨.int num, rfl, _, rfl, (by show 3 ≤ sizeLine; decide), fun a ha => q _ a (sp1.trans (same_upd ha)) ⟨num, _, 0, upd_same⟩ (none_upd ha)⟩
          | true =>
            refine iteT ⟨.int num, rfl, .int num, rfl, num, 3000, rfl, rfl, by omega, _, 3000, rfl, rfl, ⟨by omega, bits_quot hn0 hb1⟩, num, _, rfl, rfl, ?_⟩
            exact ⟨_, rfl, _, rfl, (by show 3 ≤ sizeLine; decide), fun a ha => q _ a (sp1.trans (same_upd ha)) ⟨_, _, 0, upd_same⟩ (none_upd ha)⟩
    · rw [decide_eq_false (by rw [hlen]; omega)]
      refine iteF ⟨.int (k : Nat), rfl, 5, _, rfl, rfl, .inl (by omega), _, 3, rfl, rfl, ?_⟩
      have hb9 : Builtin.Int.intBits (5 * ((k : Nat) : Int) + 3) ≤ 1048576 := bits_small (by omega) (by omega)
      refine ⟨.int (k : Nat), rfl, 1009, _, rfl, rfl, .inl (by omega), _, 17, rfl, rfl, ?_⟩
      refine ⟨.ref b, rfl, 3, rfl, b, _, rfl, hs, fun p hp => ?_⟩
      have sp1 := same_upd (o := .lst (cutV (ns.map V.int) none (some 3))) hp
      refine ⟨p, rfl, ⟨_, SqL.of upd_same⟩, ?_⟩
      refine for_it (walk_list (xs := cutV (ns.map V.int) none (some 3))) (fun i σ H2 => ∃ (seed : Int) (v4 v5 : Option V), σ = [some (.ref b), some (.int (k : Nat)), some (.int (5 * ((k : Nat) : Int) + 3)), some (.int seed), v4, v5] ∧ H2 = upd H p (.lst (cutV (ns.map V.int) none (some 3))))
        ⟨_, none, none, rfl, rfl⟩ (fun i σ H2 _ ⟨_, _, _, _, e⟩ => SqL.of (by rw [e]; exact upd_same)) ?_ ?_
      · rintro i x σ H2 H3 hi ⟨seed, v4, v5, rfl, rfl⟩ ⟨eH, hx⟩
        subst eH
        obtain ⟨j, rfl⟩ := cut_int (List.mem_of_getElem? hx)
        exact ⟨_, rfl, _, 31, rfl, rfl, .inr (by omega), .int j, rfl, .inl ⟨j, rfl, _, 2147483629, rfl, rfl, by omega, _, _, rfl, rfl, .inl ⟨_, rfl, _, 2147483629, rfl, rfl, by omega, _, _, _, rfl, rfl⟩⟩⟩
      · rintro σ H2 ⟨seed, v4, v5, rfl, rfl⟩
        refine ⟨_, rfl, _, 31, rfl, rfl, .inr (by omega), .int (5 * ((k : Nat) : Int) + 3), rfl, .inl ⟨(5 * ((k : Nat) : Int) + 3), rfl, _, 2147483587, rfl, rfl, by omega, _, _, rfl, rfl, .inl ⟨_, rfl, _, 2147483629, rfl, rfl, by omega, ?_⟩⟩⟩
        refine ⟨.int (5 * ((k : Nat) : Int) + 3), rfl, (5 * ((k : Nat) : Int) + 3), rfl, ?_⟩
        have hb0 : Builtin.Int.intBits (if (5 * ((k : Nat) : Int) + 3) < 0 then -(5 * ((k : Nat) : Int) + 3) else (5 * ((k : Nat) : Int) + 3)) ≤ 1048576 ∧ 0 ≤ (if (5 * ((k : Nat) : Int) + 3) < 0 then -(5 * ((k : Nat) : Int) + 3) else (5 * ((k : Nat) : Int) + 3)) := by
          constructor
          · unfold Builtin.Int.intBits at hb9 ⊢
            split
            · simpa using hb9
            · exact hb9
          · split <;> omega
        generalize (if (5 * ((k : Nat) : Int) + 3) < 0 then -(5 * ((k : Nat) : Int) + 3) else (5 * ((k : Nat) : Int) + 3)) = num at hb0
        obtain ⟨hb1, hn0⟩ := hb0
        refine ⟨.int num, rfl, 10, 18, rfl, rfl, ⟨by omega, by omega, by decide⟩, _, _, rfl, rfl, _, rfl, ?_⟩
        cases hlt : decide (num < 10 ^ (18 : Int).toNat) with
        | true => exact iteT ⟨_, rfl, (by show 3 ≤ sizeLine; decide), fun a ha => q _ a (sp1.trans (same_upd ha)) ⟨0, _, 0, upd_same⟩ (none_upd ha)⟩
        | false =>
          refine iteF ⟨.int num, rfl, num, 3000, rfl, rfl, by omega, _, 0, rfl, rfl, _, rfl, ?_⟩
          cases hgt : decide (0 < num / 2 ^ (3000 : Int).toNat) with
          | false => exact iteF ⟨.int num, rfl, _, rfl, (by show 3 ≤ sizeLine; decide), fun a ha => q _ a (sp1.trans (same_upd ha)) ⟨num, _, 0, upd_same⟩ (none_upd ha)⟩
          | true =>
            refine iteT ⟨.int num, rfl, .int num, rfl, num, 3000, rfl, rfl, by omega, _, 3000, rfl, rfl, ⟨by omega, bits_quot hn0 hb1⟩, num, _, rfl, rfl, ?_⟩
            exact ⟨_, rfl, _, rfl, (by show 3 ≤ sizeLine; decide), fun a ha => q _ a (sp1.trans (same_upd ha)) ⟨_, _, 0, upd_same⟩ (none_upd ha)⟩
end
end Kx
set_option Elab.async false
set_option linter.all false
set_option maxRecDepth 100000
set_option maxHeartbeats 4000000
namespace Kx
open PySem PySem.Spec PyProof.Rows L2
theorem none_of {H H' : Hp} {D : Addr} (s : Same H H') (h : H' D = none) : H D = none := by
  cases e : H D with
  | none => rfl
  | some o => rw [s _ _ e] at h; cases h
/-- a text of at most n letters of the alphabet -/
def over (al : Str) (n : Nat) (z : Str) : Prop := z.length ≤ n ∧ ∀ c ∈ z.cps.toList, c ∈ al.cps.toList
theorem over_up {al : Str} {n : Nat} {z : Str} (h : over al n z) : over al (n + 1) z := ⟨Nat.le_succ_of_le h.1, h.2⟩
theorem over_mono {al : Str} {n m : Nat} {z : Str} (h : over al n z) (k : n ≤ m) : over al m z := ⟨Nat.le_trans h.1 k, h.2⟩
theorem cps_app (a b : Str) : (a ++ b).cps.toList = a.cps.toList ++ b.cps.toList := by
  show (a.cps ++ b.cps).toList = _
  exact Array.toList_append
theorem len_app (a b : Str) : (a ++ b).length = a.length + b.length := by
  have h := congrArg List.length (cps_app a b)
  rw [List.length_append, Array.length_toList, Array.length_toList, Array.length_toList] at h
  exact h
theorem over_snoc {al : Str} {n : Nat} {z : Str} {c : Nat} (h : over al n z) (hc : c ∈ al.cps.toList) : over al (n + 1) (z ++ ⟨#[c]⟩) := by
  refine ⟨?_, fun d hd => ?_⟩
  · rw [len_app]
    exact Nat.succ_le_succ h.1
  · rw [cps_app] at hd
    rcases List.mem_append.mp hd with hd | hd
    · exact h.2 d hd
    · rw [List.mem_singleton.mp (show d ∈ [c] from hd)]
      exact hc
section
variable {P : Program} {w : World} {K : PySem.W.Frag} {mg : Str → Option Value} {base : Heap}
/-! ### _law_is_number -/
def numV (lo hi : Int) : V → Bool
  | .int i => decide (lo ≤ i) && decide (i ≤ hi)
  | _ => false
def numD (lo hi : Int) : PyData → Bool
  | .int i => decide (lo ≤ i) && decide (i ≤ hi)
  | _ => false
theorem rp_num {H : Hp} {v : V} {d : PyData} (h : Rp H v d) (lo hi : Int) : numV lo hi v = numD lo hi d := by cases h <;> rfl
theorem num_below (m : Int) (d : PyData) : numD 0 (m - 1) d = belowD m d := by
  cases d <;> first | rfl | skip
  rename_i i
  show (decide ((0 : Int) ≤ i) && decide (i ≤ m - 1)) = (decide (0 ≤ i) && decide (i < m))
  congr 1
  rw [decide_eq_decide]
  omega
def sp_law_is_number (K : PySem.W.Frag) : Sp := fun vs H Q _ => ∃ (v : V) (lo hi : Int) (a : Kd), vs = [v, .int lo, .int hi] ∧ Ko K H v a ∧ Q (.bl (numV lo hi v)) H
theorem ok_law_is_number (T : Txt K mg) : Cal P w K mg base CX0 1 "_law_is_number" ["_law_thing", "_law_low", "_law_high"] (sp_law_is_number K) := by
  obtain ⟨fd, F⟩ := F__law_is_number T
  refine cal_mk F (g__law_is_number T) sc__law_is_number (fun _ _ _ _ _ _ us hl => match us, hl with | [_, _, _], _ => rfl) (fun vs H Q E h => ?_) (fun cdv A outer s H vs Q E hr h => ?_)
  · obtain ⟨v, lo, hi, a, rfl, _⟩ := h; rfl
  · refine ⟨_, PSs.nox (pss_one (ps_ret (pe_and (pe_callB call_isB (by rfl) (fr_isinstance T) b_isinstance (pa_cons (pv 0) (pa_cons (pe_ty (fr_int T) b_int) pa_nil)))
      (pe_and (pe_not (pe_callB call_isB (by rfl) (fr_isinstance T) b_isinstance (pa_cons (pv 0) (pa_cons (pe_ty (fr_bool T) b_bool) pa_nil))))
      (pe_one (pe_chain op_le op_le (pv 1) (pv 0) (pv 2))))))), ?_⟩
    obtain ⟨v, lo, hi, a, rfl, ko, q⟩ := h
    refine ⟨v, rfl, v, "int", a, rfl, ko, k_int a, _, rfl, ?_⟩
    cases hb : a.is "int" with
    | false =>
      refine iteF ?_
      have : numV lo hi v = false := by
        cases v <;> first | rfl | (have := ko_notint ko; subst this; exact Bool.noConfusion hb)
      rw [this] at q; exact q
    | true =>
      refine iteT ⟨v, rfl, v, "bool", a, rfl, ko, k_bool a, _, rfl, _, rfl, ?_⟩
      cases hb2 : a.is "bool" with
      | true =>
        refine iteF ?_
        have ha : a = .bl := by cases a <;> first | rfl | (exact Bool.noConfusion hb2)
        subst ha
        have : numV lo hi v = false := by
          cases v <;> first | rfl | (have := ko_notint ko; cases this)
        rw [this] at q; exact q
      | false =>
        refine iteT ?_
        have ha : a = .int := by cases a <;> first | rfl | (exact Bool.noConfusion hb) | (exact Bool.noConfusion hb2)
        subst ha
        obtain ⟨i, rfl⟩ := ko_int ko
        refine ⟨.int lo, rfl, .int i, rfl, lo, i, rfl, rfl, _, rfl, ?_⟩
        have e : numV lo hi (.int i) = (decide (lo ≤ i) && decide (i ≤ hi)) := rfl
        rw [e] at q
        cases hc : decide (lo ≤ i) with
        | false => rw [hc] at q; exact iteF q
        | true =>
          rw [hc] at q
          exact iteT ⟨.int hi, rfl, i, hi, rfl, rfl, q⟩
def menuA : List Str := ["ab", "ab", "ab", "ab", "bd", "ac", "abc", "abc", "aeh", "a", "abcd", "bcfg"]
def sp_law_alphabet : Sp := fun vs H Q _ => ∃ a : Addr, vs = [.ref a] ∧ SrcAt H a ∧ ∀ H' z, z ∈ menuA → Fra a H H' → Q (.str z) H'
theorem ok_law_alphabet (T : Txt K mg) : Cal P w K mg base CX0 2 "_law_alphabet" ["_law_source_here"] sp_law_alphabet := by
  obtain ⟨fd, F⟩ := F__law_alphabet T
  refine cal_mk F (g__law_alphabet T) sc__law_alphabet (fun _ _ _ _ _ _ us hl => match us, hl with | [_], _ => rfl) (fun vs H Q E h => ?_) (fun cdv A outer s H vs Q E hr h => ?_)
  · obtain ⟨a, rfl, _⟩ := h; rfl
  · refine ⟨_, PSs.nox (pss_cons (ps_set (i := 1) sc__law_alphabet.nd rfl (Or.inl rfl) (pe_lst (pa_cons pe_str (pa_cons pe_str (pa_cons pe_str (pa_cons pe_str (pa_cons pe_str (pa_cons pe_str (pa_cons pe_str (pa_cons pe_str (pa_cons pe_str (pa_cons pe_str (pa_cons pe_str (pa_cons pe_str pa_nil))))))))))))))
      (pss_one (ps_ret (pe_ix ix_list (pv 1) (pe_cal (ok_law_pick T) hr pass0 (pa_cons (pv 0) (pa_cons (pe_callB call_len (by rfl) (fr_len T) boot_len (pa_cons (pv 1) pa_nil)) pa_nil))) (fun _ _ => rfl))))), ?_⟩
    obtain ⟨a, rfl, hs, q⟩ := h
    refine ⟨(by show 12 ≤ sizeLine; decide), fun L hL => ?_⟩
    have sL := same_upd (o := .lst (menuA.map V.str)) hL
    have hLL : upd H L (.lst (menuA.map V.str)) L = some (.lst (menuA.map V.str)) := upd_same
    have hs1 := hs.same sL
    have hna : L ≠ a := fun z => by
      obtain ⟨A, S, C, e⟩ := hs
      rw [← z, hL] at e
      cases e
    have f1 := Fra.same hs sL
    refine ⟨.ref L, rfl, .ref a, rfl, .ref L, rfl, _, 12, rfl, .inl ⟨_, SqL.of hLL, rfl⟩, a, 12, rfl, (by decide), (by decide), hs1, fun A1 S1 C1 d h2 h3 => ?_⟩
    have f2 : Fra a (upd H L (.lst (menuA.map V.str))) (upd (upd H L (.lst (menuA.map V.str))) a (three A1 S1 C1)) := Fra.drawn A1 S1 C1
    have hL2 : upd (upd H L (.lst (menuA.map V.str))) a (three A1 S1 C1) L = some (.lst (menuA.map V.str)) := f2.up L _ (by rw [del_ne hna]; exact hLL)
    obtain ⟨n, rfl⟩ := Int.eq_ofNat_of_zero_le h2
    have hn : n < menuA.length := by have : ((n : Nat) : Int) < 12 := h3; show n < 12; omega
    show ∃ p xs i v, _
    refine ⟨L, _, _, .str menuA[n], rfl, rfl, SqL.of hL2, atI_nat (by rw [List.getElem?_map, List.getElem?_eq_getElem hn]; rfl), q _ _ (List.getElem_mem hn) (f1.trans f2)⟩
def sp_law_rows : Sp := fun vs H Q _ => ∃ (al : Str) (n : Nat), vs = [.str al, .int (n : Nat)] ∧ al.length ≤ 8 ∧ n ≤ 3 ∧ ∀ H' r (rows : List Str), Same H H' → H' r = some (.lst (rows.map V.str)) → (∀ z ∈ rows, over al n z) → rows.length ≤ 2000 → Q (.ref r) H'
theorem ok_law_rows (T : Txt K mg) : Cal P w K mg base CX0 1 "_law_rows" ["_law_alphabet_here", "_law_most"] sp_law_rows := by
  obtain ⟨fd, F⟩ := F__law_rows T
  refine cal_mk F (g__law_rows T) sc__law_rows (fun _ _ _ _ _ _ us hl => match us, hl with | [_, _], _ => rfl) (fun vs H Q E h => ?_) (fun cdv A outer s H vs Q E hr h => ?_)
  · obtain ⟨al, n, rfl, _⟩ := h; rfl
  · refine ⟨_, PSs.nox (pss_cons (ps_set (i := 2) sc__law_rows.nd rfl (Or.inl rfl) (pe_lst (pa_cons pe_str pa_nil)))
        (pss_cons (ps_set (i := 3) sc__law_rows.nd rfl (Or.inl rfl) (pe_lst (pa_cons pe_str pa_nil)))
        (pss_cons (ps_for PassesOwn.never rfl (pi_range1 (by rfl) (fr_range T) (pa_cons (pv 1) pa_nil)) (pg_name (i := 4) sc__law_rows.nd rfl (Or.inl rfl)) (pss_cons (ps_set (i := 5) sc__law_rows.nd rfl (Or.inl rfl) (pe_lst pa_nil))
        (pss_cons (ps_for PassesOwn.never rfl (pi_list (pv 2)) (pg_name (i := 6) sc__law_rows.nd rfl (Or.inl rfl)) (pss_one (ps_for PassesOwn.never rfl (pi_str (pv 0)) (pg_name (i := 7) sc__law_rows.nd rfl (Or.inl rfl)) (pss_one (ps_expr (pe_bm PySem.F.plainAttrs_list PySem.F.slot_list_append PySem.F.type_list_append mt_append (pv 5) (pa_cons (pe_op op_add_str (pv 6) (pv 7)) pa_nil)))))))
        (pss_cons (ps_set (i := 2) sc__law_rows.nd rfl (Or.inl rfl) (pe_callTy call_list_of (by rfl) (fr_list T) b_list (pa_cons (pv 5) pa_nil)))
        (pss_one (ps_set (i := 3) sc__law_rows.nd rfl (Or.inl rfl) (pe_op op_cat (pv 3) (pv 5))))))))
        (pss_one (ps_ret (pv 3)))))), ?_⟩
    obtain ⟨al, n, rfl, hal, hn, q⟩ := h
    refine ⟨(by show 1 ≤ sizeLine; decide), fun lv0 hlv0 => ⟨(by show 1 ≤ sizeLine; decide), fun tl0 htl0 => ?_⟩⟩
    have s1 : Same H (upd H lv0 (.lst [.str ""])) := same_upd hlv0
    have s2 : Same H (upd (upd H lv0 (.lst [.str ""])) tl0 (.lst [.str ""])) := s1.trans (same_upd htl0)
    have e1 : upd (upd H lv0 (.lst [.str ""])) tl0 (.lst [.str ""]) lv0 = some (.lst ([("" : Str)].map V.str)) := same_upd htl0 _ _ upd_same
    have e2 : upd (upd H lv0 (.lst [.str ""])) tl0 (.lst [.str ""]) tl0 = some (.lst ([("" : Str)].map V.str)) := upd_same
    revert s2 e1 e2
    generalize upd (upd H lv0 (.lst [.str ""])) tl0 (.lst [.str ""]) = H2
    intro s2 e1 e2
    refine ⟨.int (n : Nat), rfl, (n : Nat), rfl, (by omega), (by omega), ?_⟩
    have en : ((n : Nat) : Int).toNat = n := by omega
    rw [en]
    have one : ∀ z ∈ [("" : Str)], over al 0 z := fun z hz => by rw [List.mem_singleton.mp hz]; exact ⟨by decide, fun c hc => by cases hc⟩
    refine for_it walk_range (fun i σ H2 => ∃ (lv tl : Addr) (lvl told : List Str) (v4 v5 v6 v7 : Option V), σ = [some (.str al), some (.int (n : Nat)), some (.ref lv), some (.ref tl), v4, v5, v6, v7] ∧ Same H H2 ∧ H2 lv = some (.lst (lvl.map V.str)) ∧ H2 tl = some (.lst (told.map V.str)) ∧ (∀ z ∈ lvl, over al i z) ∧ (∀ z ∈ told, over al i z) ∧ lvl.length ≤ 8 ^ i ∧ told.length ≤ 1 + 512 * i)
      ⟨lv0, tl0, [""], [""], none, none, none, none, rfl, s2, e1, e2, one, one, by decide, by decide⟩ (fun _ _ _ _ _ => trivial) ?_ ?_
    · rintro i x σ H3 H4 hi ⟨lv, tl, lvl, told, v4, v5, v6, v7, rfl, s3, elv, etl, hlv, htl, hll, htll⟩ ⟨eH, ex0⟩
      replace eH := eH.symm
      subst eH
      replace ex0 : x = .int (i : Nat) := ex0.trans (congrArg V.int (Int.zero_add _))
      subst ex0
      have hi' : i < n := hi
      have hp : 8 ^ i ≤ 64 := by
        have h : i = 0 ∨ i = 1 ∨ i = 2 := by omega
        rcases h with rfl | rfl | rfl <;> decide
      have hp2 : 8 ^ (i + 1) = 8 * 8 ^ i := by rw [Nat.pow_succ, Nat.mul_comm]
      refine ⟨(by show 0 ≤ sizeLine; decide), fun lt hlt => ?_⟩
      have hltH := none_of s3 hlt
      have nlv : lt ≠ lv := fun z => by rw [z, elv] at hlt; cases hlt
      have ntl : lt ≠ tl := fun z => by rw [z, etl] at hlt; cases hlt
      have s4 : Same H (upd H3 lt (.lst [])) := s3.trans (same_upd hlt)
      have f1 : upd H3 lt (.lst []) lt = some (.lst (([] : List Str).map V.str)) := upd_same
      have f2 := same_upd (o := .lst []) hlt _ _ elv
      have f3 := same_upd (o := .lst []) hlt _ _ etl
      revert s4 f1 f2 f3
      generalize upd H3 lt (.lst []) = H5
      intro s4 f1 f2 f3
      refine ⟨.ref lv, rfl, lv, rfl, ⟨_, SqL.of f2⟩, ?_⟩
      refine for_it walk_list (fun j σ H6 => ∃ (later : List Str) (v6 v7 : Option V), σ = [some (.str al), some (.int (n : Nat)), some (.ref lv), some (.ref tl), some (.int (i : Nat)), some (.ref lt), v6, v7] ∧ Same H H6 ∧ H6 lv = some (.lst (lvl.map V.str)) ∧ H6 tl = some (.lst (told.map V.str)) ∧ H6 lt = some (.lst (later.map V.str)) ∧ (∀ z ∈ later, over al (i + 1) z) ∧ later.length ≤ 8 * j)
        ⟨[], v6, v7, rfl, s4, f2, f3, f1, fun z hz => (by cases hz), Nat.le_refl _⟩ (fun j σ H6 _ ⟨_, _, _, _, _, g, _⟩ => SqL.of g) ?_ ?_
      · rintro j x σ Hx H6 hj ⟨later, v6, v7, rfl, s6, g1, g2, g3, hla, hlal⟩ ⟨rfl, hx⟩
        rw [List.getElem?_map] at hx
        obtain ⟨row, hrow, rfl⟩ := Option.map_eq_some_iff.mp hx
        have hrl := hlv row (List.mem_of_getElem? hrow)
        have hj9 : j < 64 := Nat.lt_of_lt_of_le (List.getElem?_eq_some_iff.mp hrow).1 (Nat.le_trans hll hp)
        refine ⟨.str al, rfl, al, rfl, ?_⟩
        refine for_it walk_str (fun k σ H7 => ∃ (later : List Str) (v7 : Option V), σ = [some (.str al), some (.int (n : Nat)), some (.ref lv), some (.ref tl), some (.int (i : Nat)), some (.ref lt), some (.str row), v7] ∧ Same H H7 ∧ H7 lv = some (.lst (lvl.map V.str)) ∧ H7 tl = some (.lst (told.map V.str)) ∧ H7 lt = some (.lst (later.map V.str)) ∧ (∀ z ∈ later, over al (i + 1) z) ∧ later.length ≤ 8 * j + k)
          ⟨later, v7, rfl, s6, g1, g2, g3, hla, hlal⟩ (fun _ _ _ _ _ => trivial) ?_ ?_
        · rintro k x σ Hy H7 hk ⟨later, v7, rfl, s7, g1, g2, g3, hla, hlal⟩ ⟨rfl, c, hc, rfl⟩
          have hk3 : k < 8 := Nat.lt_of_lt_of_le hk hal
          have hsz : (later.map V.str).length < sizeLine := by
            rw [List.length_map]
            exact Nat.lt_of_le_of_lt (by omega : later.length ≤ 1000) (by decide)
          refine ⟨.ref lt, rfl, .inl ⟨rfl, _, SqL.of g3⟩, .str row, rfl, .str ⟨#[c]⟩, rfl, row, ⟨#[c]⟩, rfl, rfl, ?_, lt, _, _, rfl, rfl, g3, hsz, ?_⟩
          · have : (⟨#[c]⟩ : Str).length = 1 := rfl
            rw [this]
            have := hrl.1
            exact Nat.le_trans (by omega : row.length + 1 ≤ 10) (by decide)
          refine ⟨later ++ [row ++ ⟨#[c]⟩], _, rfl, same_over s7 hltH, by rw [upd_ne (Ne.symm nlv)]; exact g1, by rw [upd_ne (Ne.symm ntl)]; exact g2, by rw [upd_same, List.map_append]; rfl, ?_, by rw [List.length_append]; show _ + 1 ≤ _; omega⟩
          intro z hz
          rcases List.mem_append.mp hz with h | h
          · exact hla z h
          · rw [List.mem_singleton.mp h]
            exact over_snoc hrl (by rw [← Array.getElem?_toList] at hc; exact List.mem_of_getElem? hc)
        · rintro σ H7 ⟨later, v7, rfl, s7, g1, g2, g3, hla, hlal⟩
          exact ⟨later, _, _, rfl, s7, g1, g2, g3, hla, by have : al.cps.size ≤ 8 := hal; omega⟩
      · rintro σ H6 ⟨later, v6, v7, rfl, s6, g1, g2, g3, hla, hlal⟩
        rw [List.length_map] at hlal
        refine ⟨.ref lt, rfl, lt, _, rfl, .inl (SqL.of g3), fun l hl => ?_⟩
        have s8 := same_upd (o := .lst (later.map V.str)) hl
        have k1 := s8 _ _ g2
        have k2 := s8 _ _ g3
        have k3 : upd H6 l (.lst (later.map V.str)) l = some (.lst (later.map V.str)) := upd_same
        have s9 := s6.trans s8
        revert s9 k1 k2 k3
        generalize upd H6 l (.lst (later.map V.str)) = H8
        intro k1 k2 k3 s9
        refine ⟨.ref tl, rfl, .ref lt, rfl, tl, lt, _, _, rfl, rfl, k1, k2, ?_, fun p hp => ?_⟩
        · rw [List.length_map, List.length_map]
          exact Nat.le_trans (by omega : told.length + later.length ≤ 10000) (by decide)
        have s10 := same_upd (o := .lst (told.map V.str ++ later.map V.str)) hp
        refine ⟨l, p, later, told ++ later, _, _, _, _, rfl, s9.trans s10, s10 _ _ k3, by rw [upd_same, List.map_append], hla, ?_, by omega, by rw [List.length_append]; omega⟩
        intro z hz
        rcases List.mem_append.mp hz with h | h
        · exact over_up (htl z h)
        · exact hla z h
    · rintro σ H3 ⟨lv, tl, lvl, told, v4, v5, v6, v7, rfl, s3, elv, etl, hlv, htl, hll, htll⟩
      exact ⟨_, rfl, q H3 tl told s3 etl (fun z hz => htl z hz) (by omega)⟩

/-! ### little ones -/
def sp_law_width : Sp := fun vs H Q _ => ∃ ns : Str, vs = [.str ns] ∧ ns.length ≤ 4 ∧ ∀ H', Same H H' → Q (.int ((2 ^ ns.length : Nat) : Int)) H'
theorem ok_law_width (T : Txt K mg) : Cal P w K mg base CX0 1 "_law_width" ["_law_names"] sp_law_width := by
  obtain ⟨fd, F⟩ := F__law_width T
  refine cal_mk F (g__law_width T) sc__law_width (fun _ _ _ _ _ _ us hl => match us, hl with | [_], _ => rfl) (fun vs H Q E h => ?_) (fun cdv A outer s H vs Q E hr h => ?_)
  · obtain ⟨ns, rfl, _⟩ := h; rfl
  · refine ⟨_, PSs.nox (pss_one (ps_ret (pe_ix ix_list (pe_lst (pa_cons pe_int (pa_cons pe_int (pa_cons pe_int (pa_cons pe_int (pa_cons pe_int pa_nil)))))) (pe_callB call_len (by rfl) (fr_len T) boot_len (pa_cons (pv 0) pa_nil)) (fun _ _ => rfl)))), ?_⟩
    obtain ⟨ns, rfl, h4, q⟩ := h
    refine ⟨(by show 5 ≤ sizeLine; decide), fun l hl => ⟨_, rfl, _, _, rfl, lenV_str (by omega), rIxL_of upd_same ?_ (q _ (same_upd hl))⟩⟩
    have hc : ns.length = 0 ∨ ns.length = 1 ∨ ns.length = 2 ∨ ns.length = 3 ∨ ns.length = 4 := by omega
    rcases hc with e | e | e | e | e <;> rw [e] <;> rfl
def sp_law_listed (K : PySem.W.Frag) : Sp := fun vs H Q _ => ∃ (v : V) (a : Kd), vs = [v] ∧ Ko K H v a ∧ Q (.bl (a == .lst || a == .tup)) H
theorem ok_law_listed (T : Txt K mg) : Cal P w K mg base CX0 1 "_law_listed" ["_law_thing"] (sp_law_listed K) := by
  obtain ⟨fd, F⟩ := F__law_listed T
  refine cal_mk F (g__law_listed T) sc__law_listed (fun _ _ _ _ _ _ us hl => match us, hl with | [_], _ => rfl) (fun vs H Q E h => ?_) (fun cdv A outer s H vs Q E hr h => ?_)
  · obtain ⟨v, a, rfl, _⟩ := h; rfl
  · refine ⟨_, PSs.nox (pss_one (ps_ret (pe_or (pe_callB call_isB (by rfl) (fr_isinstance T) b_isinstance (pa_cons (pv 0) (pa_cons (pe_ty (fr_tuple T) b_tuple) pa_nil))) (pe_one (pe_callB call_isB (by rfl) (fr_isinstance T) b_isinstance (pa_cons (pv 0) (pa_cons (pe_ty (fr_list T) b_list) pa_nil))))))), ?_⟩
    obtain ⟨v, a, rfl, ko, q⟩ := h
    refine ⟨v, rfl, v, "tuple", a, rfl, ko, k_tuple a, _, rfl, ?_⟩
    have e : (a == .lst || a == .tup) = (a.is "tuple" || a.is "list") := by cases a <;> rfl
    rw [e] at q
    cases hb : a.is "tuple" with
    | true => rw [hb] at q; exact iteT q
    | false => rw [hb] at q; exact iteF ⟨v, rfl, v, "list", a, rfl, ko, k_list a, q⟩
def sp_law_is_truth : Sp := fun vs H Q _ => ∃ (a b : Bool), vs = [.bl a, .bl b] ∧ Q (.bl (decide (a = b))) H
theorem ok_law_is_truth (T : Txt K mg) : Cal P w K mg base CX0 1 "_law_is_truth" ["_law_answer", "_law_due_here"] sp_law_is_truth := by
  obtain ⟨fd, F⟩ := F__law_is_truth T
  refine cal_mk F (g__law_is_truth T) sc__law_is_truth (fun _ _ _ _ _ _ us hl => match us, hl with | [_, _], _ => rfl) (fun vs H Q E h => ?_) (fun cdv A outer s H vs Q E hr h => ?_)
  · obtain ⟨a, b, rfl, _⟩ := h; rfl
  · refine ⟨_, PSs.nox (pss_cons (ps_if (pt_val (pv 1)) (pss_one (ps_ret (pe_cmpR op_isBl (pv 0) pe_bl (nomark _)))) pss_nil)
        (pss_one (ps_ret (pe_cmpR op_isBl (pv 0) pe_bl (nomark _))))), ?_⟩
    obtain ⟨a, b, rfl, q⟩ := h
    refine ⟨.bl b, rfl, b, rfl, ?_⟩
    cases b with
    | true => exact iteT ⟨.bl a, rfl, a, true, rfl, rfl, q⟩
    | false => exact iteF ⟨.bl a, rfl, a, false, rfl, rfl, q⟩
end
end Kx
set_option Elab.async false
set_option linter.all false
set_option maxRecDepth 100000
set_option maxHeartbeats 4000000
namespace Kx
open PySem PySem.Spec PyProof.Rows L2
def rowD (r : List Nat) : PyData := .list (r.map fun k => .int (k : Nat))
def rowsD (rows : List (List Nat)) : PyData := .list (rows.map rowD)
theorem SrcAt.ne {a b : Addr} {H : Hp} (h : SrcAt H a) (hb : H b = none) : b ≠ a := fun z => by
  obtain ⟨A, S, C, e⟩ := h
  rw [← z, hb] at e
  cases e
theorem Fra.none {a b : Addr} {H H' : Hp} (f : Fra a H H') (hn : b ≠ a) (hb : H' b = none) : H b = none := by
  cases e : H b with
  | none => rfl
  | some o =>
    have := f.sm b o (by rw [del_ne hn]; exact e)
    rw [del_ne hn, hb] at this
    cases this
theorem del_upd {H : Hp} {a : Addr} {o : HO} : del (upd H a o) a = del H a := by
  funext b
  by_cases hb : b = a
  · subst hb; rw [del_same, del_same]
  · rw [del_ne hb, del_ne hb, upd_ne hb]
theorem dd_same {H : Hp} {a D : Addr} {o : HO} : del (del (upd H D o) a) D = del (del H a) D := by
  funext b
  by_cases hb : b = D
  · subst hb; rw [del_same, del_same]
  · rw [del_ne hb, del_ne hb]
    by_cases ha : b = a
    · subst ha; rw [del_same, del_same]
    · rw [del_ne ha, del_ne ha, upd_ne hb]
theorem same_dd {G H : Hp} {a D D2 : Addr} {o : HO} (s : Same G (del (del H a) D)) (g : G D2 = none) : Same G (del (del (upd H D2 o) a) D) := fun b u e => by
  have h := s b u e
  have h2 := ne_of_none e g
  by_cases hb : b = D
  · subst hb; rw [del_same] at h; cases h
  · rw [del_ne hb] at h ⊢
    by_cases ha : b = a
    · subst ha; rw [del_same] at h; cases h
    · rw [del_ne ha] at h ⊢
      rw [upd_ne h2]
      exact h
theorem dd_upd {H : Hp} {a D D2 : Addr} {o : HO} (g : del (del H a) D D2 = none) : Same (del (del H a) D) (del (del (upd H D2 o) a) D) := same_dd (Same.refl _) g
theorem rpL_append {H : Hp} {v : V} {d : PyData} : ∀ {vs : List V} {ds : List PyData}, RpL H vs ds → Rp H v d → RpL H (vs ++ [v]) (ds ++ [d])
  | _, _, .nil, h => .cons h .nil
  | _, _, .cons a b, h => .cons a (rpL_append b h)
theorem rpL_nats {H : Hp} : ∀ r : List Nat, RpL H (r.map fun k => V.int (k : Nat)) (r.map fun k => PyData.int (k : Nat))
  | [] => .nil
  | k :: r => .cons (.int _) (rpL_nats r)
/-! ### worlds -/
def menuB : List Str := ["ab", "bd", "ac", "abc", "aeh", "a", "abcd", "bcfg", "abcdefgh", "acdfgh"]
def menuN : List Str := ["x", "", "xy", "z", "uy", "xyz", "", "vwxz", "w"]
theorem menuAB : ∀ z ∈ menuA, z ∈ menuB := by decide +kernel
structure WOk (D : RdD) : Prop where
  al : alphaL D.al.cps.toList = true
  ns : namesD (.str D.ns) = true
  mv : TabOk D.mv (D.al.length * 2 ^ D.ns.length)
  asc : D.ac.Pairwise (· < ·)
  ac : ∀ k ∈ D.ac, k < D.mv.length
theorem WOk.rd {D : RdD} (h : WOk D) : RdOk D := ⟨h.al, h.ns, h.mv, h.ac⟩
def WAt (H : Hp) (v : V) (D : RdD) : Prop := ∃ (t : Addr) (vm vc : V), v = .ref t ∧ H t = some (.tup [.str D.al, .str D.ns, vm, vc]) ∧ Rp H vm (rowsD D.mv) ∧ Rp H vc (rowD D.ac)
theorem WAt.same {H H' : Hp} {v : V} {D : RdD} (s : Same H H') (h : WAt H v D) : WAt H' v D := by
  obtain ⟨t, vm, vc, e, h1, h2, h3⟩ := h
  exact ⟨t, vm, vc, e, s _ _ h1, h2.same s, h3.same s⟩
theorem menuB_ok : ∀ z ∈ menuB, alphaL z.cps.toList = true ∧ 1 ≤ z.length ∧ z.length ≤ 8 := by decide +kernel
theorem menuN_ok : ∀ z ∈ menuN, namesD (.str z) = true ∧ z.length ≤ 4 := by decide +kernel
/-- a draw of an item of a list of texts -/
theorem pick_str {K : PySem.W.Frag} {a L : Addr} {H : Hp} {zs : List Str} {Q : VK} (hs : SrcAt H a) (hL : H L = some (.lst (zs.map V.str))) (hn : L ≠ a) (h0 : 0 < zs.length) (h1 : zs.length < 1000000) (q : ∀ H' z, z ∈ zs → Fra a H H' → Q (.str z) H') :
    sp_law_pick [.ref a, .int (zs.length : Nat)] H (fun y H2 => rIxL K (.ref L) y H2 Q) E0 := by
  refine ⟨a, _, rfl, by omega, by omega, hs, fun A1 S1 C1 d h2 h3 => ?_⟩
  have f2 : Fra a H (upd H a (three A1 S1 C1)) := Fra.drawn A1 S1 C1
  have hL2 : upd H a (three A1 S1 C1) L = some (.lst (zs.map V.str)) := f2.up L _ (by rw [del_ne hn]; exact hL)
  obtain ⟨n, rfl⟩ := Int.eq_ofNat_of_zero_le h2
  have hn : n < zs.length := by omega
  exact ⟨L, _, _, .str zs[n], rfl, rfl, SqL.of hL2, atI_nat (by rw [List.getElem?_map, List.getElem?_eq_getElem hn]; rfl), q _ _ (List.getElem_mem hn) f2⟩
section
variable {P : Program} {w : World} {K : PySem.W.Frag} {mg : Str → Option Value} {base : Heap}
def sp_law_world : Sp := fun vs H Q _ => ∃ a : Addr, vs = [.ref a] ∧ SrcAt H a ∧ ∀ H' v D, Fra a H H' → WAt (del H' a) v D → WOk D → D.al ∈ menuB → D.ns ∈ menuN → Q v H'
theorem two_le {n : Nat} (h : n ≤ 4) : 1 ≤ 2 ^ n ∧ 2 ^ n ≤ 16 := by
  have hc : n = 0 ∨ n = 1 ∨ n = 2 ∨ n = 3 ∨ n = 4 := by omega
  rcases hc with e | e | e | e | e <;> rw [e] <;> decide
theorem rpL_snoc {H : Hp} {v : V} {d : PyData} {vs : List V} {ds : List PyData} (h : RpL H vs ds) (r : Rp H v d) : RpL H (vs ++ [v]) (ds ++ [d]) := rpL_append h r
theorem range_snoc {l : List Nat} {i : Nat} (h : l.Pairwise (· < ·)) (hl : ∀ k ∈ l, k < i) : (l ++ [i]).Pairwise (· < ·) := by
  rw [List.pairwise_append]
  refine ⟨h, List.pairwise_singleton _ _, fun x hx y hy => ?_⟩
  rw [List.mem_singleton.mp hy]
  exact hl x hx
theorem world_tail (T : Txt K mg) {cdv : Value} {A : Around} {outer : List Env} {s : Shared} {H : Hp} {E : XK} (hr : Room 2 (A.deeper (envOfC "_law_world" (defScope s__law_world) s.heap.objs.size (He.ga K "_law_world") cdv))) :
    ∃ tk : TS, PSs (cxOf CX0 P w K mg base N__law_world "_law_world" (defScope s__law_world) (He.ga K "_law_world") cdv A outer s H E).nox ((defBody s__law_world).drop 5) tk ∧
      ∀ (Dn : Ends) (G : Hp) (a : Addr) (al ns : Str) (z : Int) (n : Nat) (w4 : Option V), z = (n : Nat) → 1 ≤ n → n ≤ 60 → al ∈ menuB → ns ∈ menuN → SrcAt G a → (∀ H' v D, Fra a G H' → WAt (del H' a) v D → WOk D → D.al ∈ menuB → D.ns ∈ menuN → Dn.rt v H') →
        tk Dn [some (.ref a), some (.str al), some (.str ns), some (.int z), w4, none, none, none, none, none] G := by
  refine ⟨_, (pss_cons (ps_set (i := 5) sc__law_world.nd rfl (Or.inr rfl) (pe_op op_mul (pe_callB call_len (by rfl) (fr_len T) boot_len (pa_cons (pv 1) pa_nil)) (pe_cal (ok_law_width T) (hr.mono (by decide)) pass0 (pa_cons (pv 2) pa_nil))))
        (pss_cons (ps_setLc (i := 6) (te := tLc (iRng1 (tCons (tVar 5) tNil)) (gName 8) tYes (tCall sp_law_pick [] E0 (tCons (tVar 0) (tCons (tVar 3) tNil))) [8]) (own := [("_law_p", 9)]) (g := (gName 9)) (tt := tYes) rfl sc__law_world.nd rfl rfl (sw_true rfl rfl rfl (by decide +kernel)) (pi_range1 (by rfl) (fr_range T) (pa_cons (pv 3) pa_nil)) (blkOk_by (N := N__law_world) (sc := defScope s__law_world) (by decide +kernel)) (fun _ _ _ _ _ => (pg_name (i := 9) sc__law_world.nd rfl (Or.inl rfl))) (fun _ _ _ _ _ => pts_nil) (fun _ _ _ _ _ => by
          refine pe_lc (te := tCall sp_law_pick [] E0 (tCons (tVar 0) (tCons (tVar 3) tNil))) (wi := iRng1 (tCons (tVar 5) tNil)) (own := [("_law_k", 8)]) (g := gName 8) (tt := tYes) rfl sc__law_world.nd (pi_range1 (by rfl) (fr_range T) (pa_cons (pv 5) pa_nil)) ?_
            (fun _ _ _ _ _ => pg_name (i := 8) sc__law_world.nd rfl (Or.inl rfl)) (fun _ _ _ _ _ => pts_nil) (fun _ _ _ _ _ => ?_)
          · refine blkOk_by ?_
            simp only [cxOf, Cx.nox, Cx.blk, compEnvC]
            change blkC _ (relabel _ (envOfC "_law_world" (defScope s__law_world) 0 0 Value.none)) _ _ = true
            decide +kernel
          exact pe_cal (ok_law_pick T) (hr.mono (by decide)) pass0 (pa_cons (pv 0) (pa_cons (pv 3) pa_nil))))
        (pss_cons (ps_setLc (i := 7) (own := [("_law_p", 9)]) (g := (gName 9)) (tt := tTest (tOp rEq (tCall sp_law_pick [] E0 (tCons (tVar 0) (tCons (tC (.int 2)) tNil))) (tC (.int 1)))) rfl sc__law_world.nd rfl rfl (sw_true rfl rfl rfl (by decide +kernel)) (pi_range1 (by rfl) (fr_range T) (pa_cons (pv 3) pa_nil)) (blkOk_by (N := N__law_world) (sc := defScope s__law_world) (by decide +kernel)) (fun _ _ _ _ _ => (pg_name (i := 9) sc__law_world.nd rfl (Or.inl rfl))) (fun _ _ _ _ _ => (pts_one (pt_cmpR op_eq (pe_cal (ok_law_pick T) (hr.mono (by decide)) pass0 (pa_cons (pv 0) (pa_cons pe_int pa_nil))) pe_int (nomark _)))) (fun _ _ _ _ _ => (pv 9)))
        (pss_one (ps_ret (pe_tup (pa_cons (pv 1) (pa_cons (pv 2) (pa_cons (pv 6) (pa_cons (pv 7) pa_nil)))))))))), ?_⟩
  intro Dn G a al ns z n w4 hz hn0 hn60 hal hns hs q
  subst hz
  obtain ⟨halok, hal1, hal8⟩ := menuB_ok al hal
  obtain ⟨hnok, hn4⟩ := menuN_ok ns hns
  obtain ⟨hw1, hw16⟩ := two_le hn4
  refine ⟨.str al, rfl, _, _, rfl, lenV_str (by omega), .str ns, rfl, ns, rfl, hn4, fun G1 s1 => ⟨_, _, rfl, rfl, .inl (by omega), ?_⟩⟩
  have em : ((al.length : Nat) : Int) * ((2 ^ ns.length : Nat) : Int) = ((al.length * 2 ^ ns.length : Nat) : Int) := by rw [Int.natCast_mul]
  have hm1 : 1 ≤ al.length * 2 ^ ns.length := Nat.mul_pos hal1 hw1
  have hm2 : al.length * 2 ^ ns.length ≤ 128 := Nat.le_trans (Nat.mul_le_mul hal8 hw16) (by decide)
  dsimp only
  rw [em]
  have f1 := Fra.same hs s1
  obtain ⟨many, hmany⟩ : ∃ m, m = al.length * 2 ^ ns.length := ⟨_, rfl⟩
  rw [← hmany] at hm1 hm2 ⊢
  -- the moves
  refine ⟨_, rfl, _, rfl, (by omega), (by omega), fun D hD => ?_⟩
  have en : (((n : Nat) : Int)).toNat = n := by omega
  rw [en]
  have hna : D ≠ a := f1.src.ne hD
  refine lc_it (walk_range (n := n)) (tt := tYes) (fun i H2 => ∃ (rows : List (List Nat)) (vs : List V), rows.length = i ∧ (∀ r ∈ rows, r.length = many ∧ ∀ k ∈ r, k < n) ∧ H2 D = some (.lst vs) ∧ RpL (del (del H2 a) D) vs (rows.map rowD) ∧ Fra a G1 H2)
    ⟨[], [], rfl, fun r hr => (by cases hr), upd_same, .nil, Fra.same f1.src (same_upd hD)⟩ (fun _ _ _ _ => trivial) ?_ ?_
  · rintro i x H2 H3 hi ⟨rows, vs, hrl, hro, hDv, hrp, f2⟩ ⟨eH, ex0⟩
    replace eH := eH.symm
    subst eH
    refine ⟨rfl, .int (many : Nat), rfl, (many : Nat), rfl, (by omega), (by omega), fun D2 hD2 => ?_⟩
    have hDD : D2 ≠ D := fun z => by rw [z, hDv] at hD2; cases hD2
    have h2a : D2 ≠ a := f2.src.ne hD2
    have h1D2 : G1 D2 = none := f2.none h2a hD2
    have gD2 : del (del H2 a) D D2 = none := by rw [del_ne hDD, del_ne h2a]; exact hD2
    have em : (((many : Nat) : Int)).toNat = many := by omega
    rw [em]
    refine lc_it (walk_range (n := many)) (tt := tYes) (fun j H5 => ∃ r : List Nat, r.length = j ∧ (∀ k ∈ r, k < n) ∧ H5 D2 = some (.lst (r.map fun k => V.int (k : Nat))) ∧ H5 D = some (.lst vs) ∧ Same (del (del H2 a) D) (del (del H5 a) D) ∧ Fra a G1 H5)
      ⟨[], rfl, fun k hk => (by cases hk), upd_same, by rw [upd_ne (Ne.symm hDD)]; exact hDv, dd_upd gD2, f2.over h1D2 h2a⟩ (fun _ _ _ _ => trivial) ?_ ?_
    · rintro j y H5 H6 hj ⟨r, hrj, hrk, hr2, hrD, sg, f5⟩ ⟨eH, ey0⟩
      replace eH := eH.symm
      subst eH
      refine ⟨rfl, .ref a, rfl, _, rfl, a, _, rfl, (by omega), (by omega), f5.src, fun A2 S2 C2 d2 hd2 hd3 => ?_⟩
      obtain ⟨m, rfl⟩ := Int.eq_ofNat_of_zero_le hd2
      have f6 : Fra a H5 (upd H5 a (three A2 S2 C2)) := Fra.drawn A2 S2 C2
      have e6 : del (upd H5 a (three A2 S2 C2)) a = del H5 a := del_upd
      refine ⟨r.map fun k => V.int (k : Nat), by rw [upd_ne h2a]; exact hr2, ?_, r ++ [m], ?_, ?_, ?_, ?_, ?_, ?_⟩
      · rw [List.length_map, hrj]
        exact Nat.lt_of_lt_of_le (by have : j < many := hj; omega : j < 201) (by decide)
      · rw [List.length_append, hrj]; rfl
      · intro k hk
        rcases List.mem_append.mp hk with h | h
        · exact hrk k h
        · rw [List.mem_singleton.mp h]; omega
      · rw [upd_same, List.map_append]; rfl
      · rw [upd_ne (Ne.symm hDD), upd_ne hna]; exact hrD
      · have s6 : Same (del (del H2 a) D) (del (del (upd H5 a (three A2 S2 C2)) a) D) := by rw [e6]; exact sg
        exact same_dd s6 gD2
      · exact (f5.trans f6).over h1D2 h2a
    · rintro H5 ⟨r, hrj, hrk, hr2, hrD, sg, f5⟩
      refine ⟨vs, hrD, ?_, rows ++ [r], vs ++ [.ref D2], by rw [List.length_append, hrl]; rfl, ?_, upd_same, ?_, f5.over hD hna⟩
      · have := hrp.length
        rw [List.length_map] at this
        rw [this, hrl]
        exact Nat.lt_of_lt_of_le (by have : i < n := hi; omega : i < 201) (by decide)
      · intro z hz
        rcases List.mem_append.mp hz with h | h
        · exact hro z h
        · rw [List.mem_singleton.mp h]; exact ⟨hrj, hrk⟩
      · rw [dd_same, List.map_append]
        refine rpL_append (hrp.same sg) (.lst (by rw [del_ne hDD, del_ne h2a]; exact hr2) ?_)
        exact rpL_nats r
  · rintro H2 ⟨rows, vs, hrl, hro, hDv, hrp, f2⟩
    have hMv : Rp (del H2 a) (.ref D) (rowsD rows) := .lst (by rw [del_ne hna]; exact hDv) (hrp.same (del_le D))
    have ftot := f1.trans f2
    clear hDv hrp f2 f1
    -- what is accepted
    refine ⟨_, rfl, _, rfl, (by omega), (by omega), fun D3 hD3 => ?_⟩
    rw [en]
    have hna3 : D3 ≠ a := ftot.src.ne hD3
    refine lc_it (walk_range (n := n)) (tt := tTest (tOp rEq (tCall sp_law_pick [] E0 (tCons (tVar 0) (tCons (tC (.int 2)) tNil))) (tC (.int 1)))) (fun i H4 => ∃ ac : List Nat, H4 D3 = some (.lst (ac.map fun (k : Nat) => V.int (k : Nat))) ∧ ac.length ≤ i ∧ ac.Pairwise (· < ·) ∧ (∀ k ∈ ac, k < i) ∧ Fra a H2 H4)
      ⟨[], upd_same, Nat.le_refl _, .nil, fun k hk => (by cases hk), Fra.same ftot.src (same_upd hD3)⟩ (fun _ _ _ _ => trivial) ?_ ?_
    · rintro i x H4 H5 hi ⟨ac, hac, hal, hpw, hlt, f4⟩ ⟨eH, ex0⟩
      replace eH := eH.symm
      subst eH
      replace ex0 : x = .int (i : Nat) := ex0.trans (congrArg V.int (Int.zero_add _))
      subst ex0
      refine ⟨rfl, .ref a, rfl, ?_⟩
      refine ⟨_, _, rfl, (by omega), (by omega), f4.src, fun qA qS qC d hd0 hd1 => ?_⟩
      have f6 : Fra a H4 (upd H4 a (three qA qS qC)) := Fra.drawn qA qS qC
      revert f6
      generalize upd H4 a (three qA qS qC) = H6
      intro f6
      have hac6 : H6 D3 = some (.lst (ac.map fun (k : Nat) => V.int (k : Nat))) := f6.up _ _ (by rw [del_ne hna3]; exact hac)
      refine ⟨rfl, _, rfl, ?_⟩
      rw [dec_int]
      have f46 := f4.trans f6
      by_cases h1 : d = 1
      · rw [decide_eq_true h1]
        refine iteT ⟨.int (i : Nat), rfl, _, hac6, ?_, ac ++ [i], ?_, ?_, range_snoc hpw hlt, ?_, f46.over hD3 hna3⟩
        · rw [List.length_map]
          exact Nat.lt_of_le_of_lt hal (Nat.lt_of_lt_of_le (by have : i < n := hi; omega : i < 201) (by decide))
        · rw [upd_same, List.map_append]
          rfl
        · rw [List.length_append]
          exact Nat.succ_le_succ hal
        · intro k hk
          rcases List.mem_append.mp hk with h | h
          · exact Nat.lt_succ_of_lt (hlt k h)
          · rw [List.mem_singleton.mp h]
            exact Nat.lt_succ_self _
      · rw [decide_eq_false h1]
        exact iteF ⟨ac, hac6, Nat.le_succ_of_le hal, hpw, fun k hk => Nat.lt_succ_of_lt (hlt k hk), f46⟩
    · rintro H4 ⟨ac, hac, hal2, hpw, hlt, f4⟩
      refine ⟨.str al, rfl, .str ns, rfl, .ref D, rfl, .ref D3, rfl, (by show 4 ≤ sizeLine; decide), fun t ht => ?_⟩
      have hta : t ≠ a := f4.src.ne ht
      have f5 := f4.trans (Fra.same f4.src (same_upd (o := .tup [.str al, .str ns, .ref D, .ref D3]) ht))
      have htd : del H4 a t = none := by rw [del_ne hta]; exact ht
      have sd : Same (del H4 a) (del (upd H4 t (.tup [.str al, .str ns, .ref D, .ref D3])) a) := same_del a (same_upd ht)
      refine q _ (.ref t) ⟨al, ns, rows, ac⟩ (ftot.trans f5) ⟨t, .ref D, .ref D3, rfl, by rw [del_ne hta]; exact upd_same, (hMv.same f4.sm).same sd, Rp.same sd (.lst (by rw [del_ne hna3]; exact hac) (rpL_nats ac))⟩
        ⟨halok, hnok, ⟨by show 1 ≤ rows.length; omega, by show rows.length ≤ 60; omega, fun m hm => by rw [← hmany]; exact (hro m hm).1, fun m hm k hk => by show k < rows.length; rw [hrl]; exact (hro m hm).2 k hk⟩, hpw, fun k hk => by show k < rows.length; rw [hrl]; exact hlt k hk⟩ hal hns
theorem ok_law_world (T : Txt K mg) : Cal P w K mg base CX0 3 "_law_world" ["_law_source_here"] sp_law_world := by
  obtain ⟨fd, F⟩ := F__law_world T
  refine cal_mk F (g__law_world T) sc__law_world (fun _ _ _ _ _ _ us hl => match us, hl with | [_], _ => rfl) (fun vs H Q E h => ?_) (fun cdv A outer s H vs Q E hr h => ?_)
  · obtain ⟨a, rfl, _⟩ := h; rfl
  · obtain ⟨tk, htl, hq⟩ := world_tail (P := P) (w := w) (base := base) (cdv := cdv) (A := A) (outer := outer) (s := s) (H := H) (E := E) T hr
    refine ⟨_, PSs.nox (pss_cons (ps_set (i := 1) sc__law_world.nd rfl (Or.inl rfl) (pe_cal (ok_law_alphabet T) (hr.mono (by decide)) pass0 (pa_cons (pv 0) pa_nil)))
        (pss_cons (ps_set (i := 2) sc__law_world.nd rfl (Or.inl rfl) (pe_ix ix_list (pe_lst (pa_cons pe_str (pa_cons pe_str (pa_cons pe_str (pa_cons pe_str (pa_cons pe_str (pa_cons pe_str (pa_cons pe_str (pa_cons pe_str (pa_cons pe_str pa_nil)))))))))) (pe_cal (ok_law_pick T) (hr.mono (by decide)) pass0 (pa_cons (pv 0) (pa_cons pe_int pa_nil))) (fun _ _ => rfl)))
        (pss_cons (ps_set (i := 3) sc__law_world.nd rfl (Or.inr rfl) (pe_op op_add pe_int (pe_cal (ok_law_pick T) (hr.mono (by decide)) pass0 (pa_cons (pv 0) (pa_cons pe_int pa_nil)))))
        (pss_cons (ps_set (i := 4) sc__law_world.nd rfl (Or.inl rfl) (pe_cal (ok_law_pick T) (hr.mono (by decide)) pass0 (pa_cons (pv 0) (pa_cons pe_int pa_nil))))
        (pss_cons (ps_if (PW.pt (pw_and (pt_cmpR op_eq (pv 4) pe_int (nomark _)) (pw_and1 (pt_cmpR op_lt (pe_callB call_len (by rfl) (fr_len T) boot_len (pa_cons (pv 2) pa_nil)) pe_int (nomark _))))) (pss_one (ps_set (i := 3) sc__law_world.nd rfl (Or.inr rfl) pe_int)) (pss_one (ps_if (PW.pt (pw_and (pt_cmpR op_eq (pv 4) pe_int (nomark _)) (pw_and1 (pt_cmpR op_lt (pe_callB call_len (by rfl) (fr_len T) boot_len (pa_cons (pv 2) pa_nil)) pe_int (nomark _))))) (pss_one (ps_set (i := 1) sc__law_world.nd rfl (Or.inl rfl) (pe_ix ix_list (pe_lst (pa_cons pe_str (pa_cons pe_str pa_nil))) (pe_cal (ok_law_pick T) (hr.mono (by decide)) pass0 (pa_cons (pv 0) (pa_cons pe_int pa_nil))) (fun _ _ => rfl)))) pss_nil)))
        htl))))), ?_⟩
    obtain ⟨a, rfl, hs, q⟩ := h
    refine ⟨.ref a, rfl, a, rfl, hs, fun H1 al0 hal0 f1 => ?_⟩
    have hal0 := menuAB _ hal0
    refine ⟨(by show 9 ≤ sizeLine; decide), fun L hL => ⟨.ref a, rfl, ?_⟩⟩
    have fL := Fra.same f1.src (same_upd (o := .lst (menuN.map V.str)) hL)
    refine pick_str (zs := menuN) fL.src upd_same (f1.src.ne hL) (by decide) (by decide) fun H2 ns hns f2 => ?_
    obtain ⟨hnok, hn4⟩ := menuN_ok ns hns
    have f02 := (f1.trans fL).trans f2
    clear f1 fL f2 hL
    refine ⟨.ref a, rfl, ?_⟩
    refine ⟨_, _, rfl, (by omega), (by omega), f02.src, fun qA qS qC d3 hd0 hd1 => ?_⟩
    have f3 : Fra a H2 (upd H2 a (three qA qS qC)) := Fra.drawn qA qS qC
    revert f3
    generalize upd H2 a (three qA qS qC) = H3
    intro f3
    refine ⟨1, d3, rfl, rfl, .ref a, rfl, ?_⟩
    refine ⟨_, _, rfl, (by omega), (by omega), f3.src, fun qA qS qC d4 hd2 hd3 => ?_⟩
    have f4 : Fra a H3 (upd H3 a (three qA qS qC)) := Fra.drawn qA qS qC
    revert f4
    generalize upd H3 a (three qA qS qC) = H4
    intro f4
    have f04 := (f02.trans f3).trans f4
    clear f02 f3 f4
    obtain ⟨n0, rfl⟩ := Int.eq_ofNat_of_zero_le hd0
    have ns_len : LenV K (.str ns) H4 ns.length := lenV_str (by omega)
    have fin : ∀ (G : Hp) (al : Str) (z : Int) (n : Nat), z = (n : Nat) → 1 ≤ n → n ≤ 60 → al ∈ menuB → Fra a H G → tk { nx := fun _ H' => Q .non H', rt := Q } [some (.ref a), some (.str al), some (.str ns), some (.int z), some (.int d4), none, none, none, none, none] G := fun G al z n h1 h2 h3 h4 f =>
      hq _ G a al ns z n _ h1 h2 h3 h4 hns f.src fun H' v D f' => q H' v D (f.trans f')
    refine ⟨.int d4, rfl, rfl, _, rfl, ?_⟩
    rw [dec_int]
    have elif : (tIfS (tAnd (tTest (tOp rEq (tVar 4) (tC (.int 6)))) (tTest (tOp (rI0 fun i j => .bl (decide (i < j))) (tCB (rLen K) (tCons (tVar 2) tNil)) (tC (.int 2)))))
      (tAsg (tOp (rIxL K) (tLst (tCons (tC (.str "abcdefgh")) (tCons (tC (.str "acdfgh")) tNil))) (tCall sp_law_pick [] E0 (tCons (tVar 0) (tCons (tC (.int 2)) tNil)))) (gName 1)) tNext) { nx := tk { nx := fun _ H' => Q .non H', rt := Q }, rt := Q }
        [some (.ref a), some (.str al0), some (.str ns), some (.int (1 + ((n0 : Nat) : Int))), some (.int d4), none, none, none, none, none] H4 := by
      refine ⟨.int d4, rfl, rfl, _, rfl, ?_⟩
      rw [dec_int]
      by_cases h6 : d4 = 6
      · rw [decide_eq_true h6]
        refine iteT ⟨.str ns, rfl, _, _, rfl, ns_len, _, 2, rfl, rfl, _, rfl, ?_⟩
        by_cases hl : ((ns.length : Nat) : Int) < 2
        · rw [decide_eq_true hl]
          refine iteT ⟨(by show 2 ≤ sizeLine; decide), fun L hL => ⟨.ref a, rfl, ?_⟩⟩
          have fL := Fra.same f04.src (same_upd (o := .lst ((["abcdefgh", "acdfgh"] : List Str).map V.str)) hL)
          refine pick_str (zs := ["abcdefgh", "acdfgh"]) fL.src upd_same (f04.src.ne hL) (by decide) (by decide) fun H5 z hz f5 => ?_
          refine fin H5 z _ (n0 + 1) (by omega) (by omega) (by omega) ?_ ((f04.trans fL).trans f5)
          rcases List.mem_cons.mp hz with rfl | hz
          · decide +kernel
          · rw [List.mem_singleton.mp hz]
            decide +kernel
        · rw [decide_eq_false hl]
          exact iteF (fin H4 al0 _ (n0 + 1) (by omega) (by omega) (by omega) hal0 f04)
      · rw [decide_eq_false h6]
        exact iteF (fin H4 al0 _ (n0 + 1) (by omega) (by omega) (by omega) hal0 f04)
    by_cases h9 : d4 = 9
    · rw [decide_eq_true h9]
      refine iteT ⟨.str ns, rfl, _, _, rfl, ns_len, _, 2, rfl, rfl, _, rfl, ?_⟩
      by_cases hl : ((ns.length : Nat) : Int) < 2
      · rw [decide_eq_true hl]
        exact iteT (fin H4 al0 60 60 rfl (by omega) (by omega) hal0 f04)
      · rw [decide_eq_false hl]
        exact iteF elif
    · rw [decide_eq_false h9]
      exact iteF elif
end
end Kx
set_option Elab.async false
set_option linter.all false
set_option maxRecDepth 100000
set_option maxHeartbeats 4000000
namespace Kx
open PySem PySem.Spec PyProof.Rows L2
theorem occ_in {al : Str} {c : Nat} (h : c ∈ al.cps.toList) : ∃ rest, Builtin.Str.occurrences al ⟨#[c]⟩ 0 al.length 1 = ixF al c :: rest := by
  have hf := find_in h
  unfold ixF
  unfold Txt.find at hf ⊢
  cases ho : Builtin.Str.occurrences al ⟨#[c]⟩ 0 al.length 1 with
  | nil => rw [ho] at hf; exact absurd hf.1 (by decide)
  | cons i r => exact ⟨r, by simp⟩
theorem borne_mem {ns : List Nat} {ps : List Int} {k : Nat} (hn : ns.Nodup) {j : Nat} {n : Nat} {p : Int} (h1 : ns[j]? = some n) (h2 : ps[j]? = some p) : (n ∈ borne ns ps k) ↔ p = (k : Int) := by
  unfold borne
  rw [List.mem_map]
  constructor
  · rintro ⟨⟨n', p'⟩, hm, rfl⟩
    obtain ⟨hz, hp⟩ := List.mem_filter.mp hm
    obtain ⟨i, hi⟩ := List.mem_iff_getElem?.mp hz
    obtain ⟨g1, g2⟩ := List.getElem?_zip_eq_some.mp hi
    have e : i = j := by
      have hi1 := (List.getElem?_eq_some_iff.mp g1).1
      have hj1 := (List.getElem?_eq_some_iff.mp h1).1
      exact (List.getElem_inj (h₀ := hi1) (h₁ := hj1) hn).mp (by
        rw [List.getElem?_eq_getElem hi1] at g1
        rw [List.getElem?_eq_getElem hj1] at h1
        exact (Option.some.inj g1).trans (Option.some.inj h1).symm)
    subst e
    rw [h2] at g2
    cases g2
    simpa using hp
  · intro e
    refine ⟨(n, p), List.mem_filter.mpr ⟨?_, by simpa using e⟩, rfl⟩
    exact List.mem_iff_getElem?.mpr ⟨j, List.getElem?_zip_eq_some.mpr ⟨h1, h2⟩⟩
theorem borne_bits {ns : List Nat} {ps : List Int} {k : Nat} (hn : ns.Nodup) (hl : ps.length = ns.length) : (ns.map fun n => decide (n ∈ borne ns ps k)) = ps.map fun p => decide (p = (k : Int)) := by
  apply List.ext_getElem?
  intro j
  rw [List.getElem?_map, List.getElem?_map]
  by_cases hj : j < ns.length
  · have h1 := List.getElem?_eq_getElem hj
    have h2 := List.getElem?_eq_getElem (show j < ps.length by omega)
    rw [h1, h2]
    show some (decide _) = some (decide _)
    congr 1
    exact decide_eq_decide.mpr (borne_mem hn h1 h2)
  · rw [List.getElem?_eq_none (by omega), List.getElem?_eq_none (by omega)]
    rfl
theorem WOk.nsnd {D : RdD} (h : WOk D) : D.ns.cps.toList.Nodup := by
  have h1 : (decide (D.ns.length ≤ 4) && (D.ns.cps.toList.all (fun c => decide (c ∈ namesL)) && ascL D.ns.cps.toList)) = true := h.ns
  rw [Bool.and_eq_true, Bool.and_eq_true] at h1
  exact ascL_nodup h1.2.2
/-- a list's or tuple's item -/
theorem rp_list {H : Hp} {v : V} {t : List (List Nat)} (h : Rp H v (rowsD t)) : ∃ a bs, v = .ref a ∧ H a = some (.lst bs) ∧ bs.length = t.length ∧ ∀ (p : Nat) m, t[p]? = some m → ∃ b, bs[p]? = some (.ref b) ∧ H b = some (.lst (m.map fun (k : Nat) => V.int (k : Nat))) := by
  unfold rowsD at h
  cases h with
  | @lst a xs _ ha hx =>
    have hl := hx.length
    rw [List.length_map] at hl
    refine ⟨a, xs, rfl, ha, hl, fun p m hp => ?_⟩
    have hpx : p < xs.length := by rw [hl]; exact (List.getElem?_eq_some_iff.mp hp).1
    obtain ⟨d, hd, rd⟩ := hx.get (i := p) (List.getElem?_eq_getElem hpx)
    rw [List.getElem?_map, hp] at hd
    have ed := (Option.some.inj hd).symm
    subst ed
    generalize hv : xs[p] = y at rd
    unfold rowD at rd
    cases rd with
    | @lst b ys _ hb hy =>
      refine ⟨b, by rw [List.getElem?_eq_getElem hpx, hv], ?_⟩
      rw [hb]
      congr 2
      apply List.ext_getElem?
      intro i
      have hl2 := hy.length
      rw [List.length_map] at hl2
      by_cases hi : i < ys.length
      · obtain ⟨d, hd, rd⟩ := hy.get (i := i) (List.getElem?_eq_getElem hi)
        rw [List.getElem?_map] at hd
        obtain ⟨k, hk, e⟩ := Option.map_eq_some_iff.mp hd
        subst e
        rw [List.getElem?_map, hk, List.getElem?_eq_getElem hi]
        generalize ys[i] = x at rd
        cases rd
        rfl
      · rw [List.getElem?_eq_none (by omega), List.getElem?_eq_none (by rw [List.length_map]; omega)]
theorem rp_row {H : Hp} {v : V} {m : List Nat} (h : Rp H v (rowD m)) : ∃ b, v = .ref b ∧ H b = some (.lst (m.map fun (k : Nat) => V.int (k : Nat))) := by
  unfold rowD at h
  cases h with
  | @lst b ys _ hb hy =>
    refine ⟨b, rfl, ?_⟩
    rw [hb]
    congr 2
    apply List.ext_getElem?
    intro i
    have hl2 := hy.length
    rw [List.length_map] at hl2
    by_cases hi : i < ys.length
    · obtain ⟨d, hd, rd⟩ := hy.get (i := i) (List.getElem?_eq_getElem hi)
      rw [List.getElem?_map] at hd
      obtain ⟨k, hk, e⟩ := Option.map_eq_some_iff.mp hd
      subst e
      rw [List.getElem?_map, hk, List.getElem?_eq_getElem hi]
      generalize ys[i] = x at rd
      cases rd
      rfl
    · rw [List.getElem?_eq_none (by omega), List.getElem?_eq_none (by rw [List.length_map]; omega)]
/-- places: a list or a tuple of ints -/
def PsAt (H : Hp) (v : V) (ps : List Int) : Prop := ∃ a, v = .ref a ∧ (H a = some (.lst (ps.map V.int)) ∨ H a = some (.tup (ps.map V.int)))
theorem PsAt.same {H H' : Hp} {v : V} {ps : List Int} (s : Same H H') (h : PsAt H v ps) : PsAt H' v ps := by
  obtain ⟨a, e, h⟩ := h
  exact ⟨a, e, h.imp (fun z => s _ _ z) (fun z => s _ _ z)⟩
theorem PsAt.ix {K : PySem.W.Frag} {H : Hp} {v : V} {ps : List Int} {j : Nat} {p : Int} {Q : VK} (h : PsAt H v ps) (hj : ps[j]? = some p) (q : Q (.int p) H) : rIx K v (.int (j : Nat)) H Q := by
  obtain ⟨a, rfl, h⟩ := h
  have e : (ps.map V.int)[j]? = some (.int p) := by rw [List.getElem?_map, hj]; rfl
  rcases h with h | h
  · exact .inl ⟨a, _, _, _, rfl, rfl, SqL.of h, atI_nat e, q⟩
  · exact .inr (.inl ⟨a, _, _, _, rfl, rfl, SqT.of h, atI_nat e, q⟩)
section
variable {P : Program} {w : World} {K : PySem.W.Frag} {mg : Str → Option Value} {base : Heap}
def sp_law_reads : Sp := fun vs H Q _ => ∃ (v pv : V) (D : RdD) (z : Str) (ps : List Int), vs = [v, .str z, pv] ∧ WAt H v D ∧ WOk D ∧ z.length ≤ 200 ∧ (∀ c ∈ z.cps.toList, c ∈ D.al.cps.toList) ∧ PsAt H pv ps ∧ ps.length = D.ns.length ∧
  ∀ H', Same H H' → Q (.bl (accepts D z.cps.toList ps)) H'
theorem ok_law_reads (T : Txt K mg) : Cal P w K mg base CX0 2 "_law_reads" ["_law_world_here", "_law_row", "_law_places"] sp_law_reads := by
  obtain ⟨fd, F⟩ := F__law_reads T
  refine cal_mk F (g__law_reads T) sc__law_reads (fun _ _ _ _ _ _ us hl => match us, hl with | [_, _, _], _ => rfl) (fun vs H Q E h => ?_) (fun cdv A outer s H vs Q E hr h => ?_)
  · obtain ⟨v, pv, D, z, ps, rfl, _⟩ := h; rfl
  · refine ⟨_, PSs.nox (pss_cons (ps_asg (pv 0) (pg_tup rfl (pgs_cons (pg_name (i := 3) sc__law_reads.nd rfl (Or.inl rfl)) (pgs_cons (pg_name (i := 4) sc__law_reads.nd rfl (Or.inl rfl)) (pgs_cons (pg_name (i := 5) sc__law_reads.nd rfl (Or.inl rfl)) (pgs_cons (pg_name (i := 6) sc__law_reads.nd rfl (Or.inl rfl)) pgs_nil))))))
        (pss_cons (ps_set (i := 7) sc__law_reads.nd rfl (Or.inl rfl) pe_int)
        (pss_cons (ps_for PassesOwn.never rfl (pi_range1 (by rfl) (fr_range T) (pa_cons (pe_callB call_len (by rfl) (fr_len T) boot_len (pa_cons (pv 1) pa_nil)) pa_nil)) (pg_name (i := 8) sc__law_reads.nd rfl (Or.inl rfl)) (pss_cons (ps_set (i := 9) sc__law_reads.nd rfl (Or.inl rfl) (pe_op op_mul (pe_m1 PySem.F.slot_str_index PySem.F.type_str_index mt_sindex (pv 3) (pe_ix ix_seq (pv 1) (pv 8) (fun _ _ => rfl))) (pe_cal (ok_law_width T) (hr.mono (by decide)) pass0 (pa_cons (pv 4) pa_nil))))
        (pss_cons (ps_for PassesOwn.never rfl (pi_range1 (by rfl) (fr_range T) (pa_cons (pe_callB call_len (by rfl) (fr_len T) boot_len (pa_cons (pv 4) pa_nil)) pa_nil)) (pg_name (i := 10) sc__law_reads.nd rfl (Or.inl rfl)) (pss_one (ps_if (pt_cmpR op_eq (pe_ix ix_seq (pv 2) (pv 10) (fun _ _ => rfl)) (pv 8) (nomark _)) (pss_one (ps_set (i := 9) sc__law_reads.nd rfl (Or.inl rfl) (pe_op op_add (pv 9) (pe_ix ix_list (pe_lst (pa_cons pe_int (pa_cons pe_int (pa_cons pe_int (pa_cons pe_int pa_nil))))) (pv 10) (fun _ _ => rfl))))) pss_nil)))
        (pss_one (ps_set (i := 7) sc__law_reads.nd rfl (Or.inl rfl) (pe_ix ix_list (pe_ix ix_list (pv 5) (pv 7) (fun _ _ => rfl)) (pv 9) (fun _ _ => rfl)))))))
        (pss_one (ps_ret (pe_cmpR op_in_seq (pv 7) (pv 6) rfl)))))), ?_⟩
    obtain ⟨v, pv, D, z, ps, rfl, ⟨t, vm, vc, rfl, h1, h2, h3⟩, WO, hz200, hzal, hps, hpl, q⟩ := h
    obtain ⟨ma, bs, rfl, hma, hbl, hbr⟩ := rp_list h2
    obtain ⟨ca, rfl, hca⟩ := rp_row h3
    have hz : z.cps.toList.length = z.length := Array.length_toList
    have hn4 := WO.rd.ns4
    have hal8 := WO.rd.al8
    refine ⟨.ref t, rfl, t, _, rfl, SqT.of h1, rfl, _, _, rfl, _, _, rfl, _, _, rfl, _, _, rfl, rfl, ?_⟩
    refine ⟨.str z, rfl, _, _, rfl, lenV_str (by omega), _, rfl, (by omega), (by omega), ?_⟩
    rw [show (((z.length : Nat) : Int)).toNat = z.length by omega]
    refine for_it walk_range (fun i σ G => ∃ (v8 v9 v10 : Option V), σ = [some (.ref t), some (.str z), some pv, some (.str D.al), some (.str D.ns), some (.ref ma), some (.ref ca), some (.int (runTo D z.cps.toList ps i : Nat)), v8, v9, v10] ∧ Same H G)
      ⟨none, none, none, rfl, Same.refl _⟩ (fun _ _ _ _ _ => trivial) ?_ ?_
    · rintro i x σ Gx G hi ⟨v8, v9, v10, rfl, sG⟩ ⟨eH, ex0⟩
      replace eH := eH.symm
      subst eH
      replace ex0 : x = .int (i : Nat) := ex0.trans (congrArg V.int (Int.zero_add _))
      subst ex0
      have hi' : i < z.cps.toList.length := by rw [hz]; exact hi
      have hc' := List.getElem?_eq_getElem hi'
      generalize z.cps.toList[i] = c at hc'
      have hcal := hzal c (List.mem_of_getElem? hc')
      obtain ⟨rest, hocc⟩ := occ_in hcal
      have hix8 : ixF D.al c ≤ 8 := by
        have := find_in hcal
        unfold ixF
        omega
      have h16 := two_le hn4
      refine ⟨_, rfl, ⟨_, rfl⟩, .str z, rfl, .int (i : Nat), rfl, rIx_str (by omega) hc' ⟨_, _, _, _, rfl, rfl, hocc, .str D.ns, rfl, D.ns, rfl, hn4, fun G1 s1 => ⟨_, _, rfl, rfl, .inl (by omega), ?_⟩⟩⟩
      have sG1 := sG.trans s1
      have em : ((ixF D.al c : Nat) : Int) * ((2 ^ D.ns.length : Nat) : Int) = ((ixF D.al c * 2 ^ D.ns.length : Nat) : Int) := by rw [Int.natCast_mul]
      dsimp only
      rw [em]
      refine ⟨.str D.ns, rfl, _, _, rfl, lenV_str (by omega), _, rfl, (by omega), (by omega), ?_⟩
      rw [show (((D.ns.length : Nat) : Int)).toNat = D.ns.length by omega]
      have hbits := borne_bits (k := i) WO.nsnd (by rw [hpl]; exact Array.length_toList.symm : ps.length = D.ns.cps.toList.length)
      refine for_it walk_range (fun j σ G2 => ∃ (v10 : Option V), σ = [some (.ref t), some (.str z), some pv, some (.str D.al), some (.str D.ns), some (.ref ma), some (.ref ca), some (.int (runTo D z.cps.toList ps i : Nat)), some (.int (i : Nat)),
          some (.int ((ixF D.al c * 2 ^ D.ns.length + bitsSum ((ps.map fun p => decide (p = (i : Int))).take j) 0 : Nat) : Int)), v10] ∧ Same H G2)
        ⟨v10, rfl, sG1⟩ (fun _ _ _ _ _ => trivial) ?_ ?_
      · rintro j x σ Gy G2 hj ⟨v10, rfl, sG2⟩ ⟨eH, ex0⟩
        replace eH := eH.symm
        subst eH
        replace ex0 : x = .int (j : Nat) := ex0.trans (congrArg V.int (Int.zero_add _))
        subst ex0
        have hj' : j < ps.length := by rw [hpl]; exact hj
        have hp := List.getElem?_eq_getElem hj'
        generalize ps[j] = p at hp
        have hbj : (ps.map fun p => decide (p = (i : Int)))[j]? = some (decide (p = (i : Int))) := by rw [List.getElem?_map, hp]; rfl
        have hts := bitsSum_take hbj
        refine ⟨_, rfl, _, rfl, (hps.same sG2).ix hp ⟨_, rfl, rfl, _, rfl, ?_⟩⟩
        rw [dec_int]
        have hj4 : j < 4 := by have : j < D.ns.length := hj; omega
        by_cases hpi : p = (i : Int)
        · rw [decide_eq_true hpi] at hts ⊢
          rw [hts, if_pos rfl]
          refine iteT ⟨_, rfl, (by show 4 ≤ sizeLine; decide), fun l hl => ⟨_, rfl, rIxL_of (v := .int ((2 ^ j : Nat) : Int)) upd_same ?_ ⟨_, _, rfl, rfl, some (.int (j : Nat)), ?_, sG2.trans (same_upd hl)⟩⟩⟩
          · have hc : j = 0 ∨ j = 1 ∨ j = 2 ∨ j = 3 := by omega
            rcases hc with e | e | e | e <;> rw [e] <;> rfl
          · dsimp only
            rw [show (((ixF D.al c * 2 ^ D.ns.length + bitsSum ((ps.map fun p => decide (p = (i : Int))).take j) 0 : Nat) : Int) + ((2 ^ j : Nat) : Int)) = ((ixF D.al c * 2 ^ D.ns.length + (bitsSum ((ps.map fun p => decide (p = (i : Int))).take j) 0 + 2 ^ j) : Nat) : Int) by omega]
            rfl
        · rw [decide_eq_false hpi] at hts ⊢
          rw [hts, if_neg Bool.false_ne_true, Nat.add_zero]
          exact iteF ⟨_, rfl, sG2⟩
      · rintro σ G2 ⟨v10, rfl, sG2⟩
        have e0 : (ps.map fun p => decide (p = (i : Int))).take D.ns.length = D.ns.cps.toList.map fun n => decide (n ∈ borne D.ns.cps.toList ps i) := by
          rw [hbits, List.take_of_length_le (by rw [List.length_map]; omega)]
        rw [e0]
        have eno : ixF D.al c * 2 ^ D.ns.length + bitsSum (D.ns.cps.toList.map fun n => decide (n ∈ borne D.ns.cps.toList ps i)) 0 = moveNo D c i ps := rfl
        rw [eno]
        have hlt := runTo_lt WO.rd (ps := ps) hzal i
        have hno := moveNo_lt (D := D) (a := i) (ps := ps) hcal
        obtain ⟨m, hm1, hm2, hm3⟩ := WO.mv.get hlt hno
        obtain ⟨b, hb1, hb2⟩ := hbr _ _ hm1
        have er : runTo D z.cps.toList ps (i + 1) = D.mv.at (runTo D z.cps.toList ps i) (moveNo D c i ps) := by
          show (match z.cps.toList[i]? with | some c => _ | none => _) = _
          rw [hc']
        rw [er]
        refine ⟨_, rfl, _, rfl, rIxL_of (sG2 _ _ hma) hb1 ⟨_, rfl, rIxL_of (v := .int ((D.mv.at (runTo D z.cps.toList ps i) (moveNo D c i ps) : Nat) : Int)) (sG2 _ _ hb2) ?_ ⟨_, _, _, rfl, sG2⟩⟩⟩
        rw [List.getElem?_map, hm2]
        rfl
    · rintro σ G ⟨v8, v9, v10, rfl, sG⟩
      refine ⟨_, rfl, _, rfl, ca, _, rfl, .inl (SqL.of (sG _ _ hca)), rfl, flat_nats _, ?_⟩
      rw [if_neg Bool.false_ne_true, inV_nats]
      have h := q G sG
      unfold accepts at h
      rw [hz] at h
      exact h
end
end Kx
set_option Elab.async false
set_option linter.all false
set_option maxRecDepth 100000
set_option maxHeartbeats 4000000
namespace Kx
open PySem PySem.Spec PyProof.Rows L2
/-- t + u, u not empty: t empty gives u itself -/
def rCatU (K : PySem.W.Frag) : R2 := fun x y H Q => ∃ a b xs ys, x = .ref a ∧ y = .ref b ∧ SqT K H a xs ∧ SqT K H b ys ∧ ys ≠ [] ∧ xs.length + ys.length ≤ sizeLine ∧
  (xs = [] → Q (.ref b) H) ∧ (xs ≠ [] → ∀ p, H p = none → Q (.ref p) (upd H p (.tup (xs ++ ys))))
theorem op_catU {X : Cx} : OpR X (binaryOp .Add) (rCatU X.K) := by
  intro pins s σ H x y v u Q I rx ry h
  obtain ⟨a, b, xs, ys, rfl, rfl, ha, hb, hy, hz, q1, q2⟩ := h
  by_cases hx : xs = []
  · cases rx
    cases ry
    obtain ⟨its, r1, p1, _⟩ := I.tuple ha
    obtain ⟨its2, r2, p2, _⟩ := I.tuple hb
    obtain ⟨⟨cls, dd, data, sl⟩, ho, hc, n, hd⟩ := id p1
    obtain ⟨⟨cls2, dd2, data2, sl2⟩, ho2, hc2, n2, hd2⟩ := id p2
    simp only at hc hd hc2 hd2
    subst hc hd hc2 hd2
    have hi : its = [] := r1.nil_iff.mpr hx
    exact concat_meets ⟨_, ho, rfl⟩ ⟨_, ho2, rfl⟩ noFill_tuple_add seq_tuple_add PySem.F.slot_tuple_add PySem.F.entry_tuple_add (PySem.F.args_tuple_add_2 _ _)
      (tuple_addW0 a b its.toArray its2.toArray n n2 dd dd2 sl sl2 (by simp [hi])) ⟨ho, ho2, .ref b, H, I, rfl, q1 hx⟩
  · exact op_catT pins s σ H (.ref a) (.ref b) v u Q I rx ry ⟨a, b, xs, ys, rfl, rfl, ha, hb, hx, hz, fun e => absurd e hy, fun _ => q2 hx⟩
/-- a list of tuples of n places below m -/
def PlacesAt (H : Hp) (xs : List V) (n m : Nat) : Prop := ∀ x ∈ xs, ∃ (b : Addr) (ps : List Int), x = .ref b ∧ H b = some (.tup (ps.map V.int)) ∧ ps.length = n ∧ ∀ p ∈ ps, 0 ≤ p ∧ p < (m : Int)
theorem PlacesAt.same {H H' : Hp} {xs : List V} {n m : Nat} (s : Tups H H') (h : PlacesAt H xs n m) : PlacesAt H' xs n m := fun x hx => by
  obtain ⟨b, ps, e, h1, h2⟩ := h x hx
  exact ⟨b, ps, e, s _ _ h1, h2⟩
theorem PlacesAt.app {H : Hp} {xs ys : List V} {n m : Nat} (h : PlacesAt H xs n m) (k : PlacesAt H ys n m) : PlacesAt H (xs ++ ys) n m := fun x hx => by
  rcases List.mem_append.mp hx with hx | hx
  · exact h x hx
  · exact k x hx
theorem pow3 {i : Nat} (h : i ≤ 4) : 3 ^ i ≤ 81 := by
  have hc : i = 0 ∨ i = 1 ∨ i = 2 ∨ i = 3 ∨ i = 4 := by omega
  rcases hc with e | e | e | e | e <;> rw [e] <;> decide
section
variable {P : Program} {w : World} {K : PySem.W.Frag} {mg : Str → Option Value} {base : Heap}
def sp_law_all_places : Sp := fun vs H Q _ => ∃ (m n : Nat), vs = [.int (m : Nat), .int (n : Nat)] ∧ m ≤ 3 ∧ n ≤ 4 ∧ ∀ H' r xs, Same H H' → H' r = some (.lst xs) → PlacesAt H' xs n m → xs.length ≤ 100 → Q (.ref r) H'
theorem ok_law_all_places (T : Txt K mg) : Cal P w K mg base CX0 1 "_law_all_places" ["_law_size", "_law_many"] sp_law_all_places := by
  obtain ⟨fd, F⟩ := F__law_all_places T
  refine cal_mk F (g__law_all_places T) sc__law_all_places (fun _ _ _ _ _ _ us hl => match us, hl with | [_, _], _ => rfl) (fun vs H Q E h => ?_) (fun cdv A outer s H vs Q E hr h => ?_)
  · obtain ⟨m, n, rfl, _⟩ := h; rfl
  · refine ⟨_, PSs.nox (pss_cons (ps_set (i := 2) sc__law_all_places.nd rfl (Or.inl rfl) (pe_lst (pa_cons (pe_tup pa_nil) pa_nil)))
        (pss_cons (ps_for PassesOwn.never rfl (pi_range1 (by rfl) (fr_range T) (pa_cons (pv 1) pa_nil)) (pg_name (i := 3) sc__law_all_places.nd rfl (Or.inl rfl)) (pss_cons (ps_set (i := 4) sc__law_all_places.nd rfl (Or.inl rfl) (pe_lst pa_nil))
        (pss_cons (ps_for PassesOwn.never rfl (pi_list (pv 2)) (pg_name (i := 5) sc__law_all_places.nd rfl (Or.inr rfl)) (pss_one (ps_set (i := 4) sc__law_all_places.nd rfl (Or.inl rfl) (pe_op op_cat (pv 4) (pe_lc (te := tOp (rCatU K) (tVar 5) (tTup (tCons (tVar 6) tNil))) (own := [("_law_place", 6)]) (g := (gName 6)) (tt := tYes) rfl sc__law_all_places.nd  (pi_range1 (by rfl) (fr_range T) (pa_cons (pv 0) pa_nil)) (blkOk_by (N := N__law_all_places) (sc := defScope s__law_all_places) (by decide +kernel)) (fun _ _ _ _ _ => (pg_name (i := 6) sc__law_all_places.nd rfl (Or.inl rfl))) (fun _ _ _ _ _ => pts_nil) (fun _ _ _ _ _ => by refine pe_op (r := rCatU K) ?_ (pv 5) (pe_tup (pa_cons (pv 6) pa_nil)); exact op_catU))))))
        (pss_one (ps_set (i := 2) sc__law_all_places.nd rfl (Or.inl rfl) (pv 4))))))
        (pss_one (ps_ret (pv 2))))), ?_⟩
    obtain ⟨m, n, rfl, hm, hn, q⟩ := h
    refine ⟨(by show 0 ≤ sizeLine; decide), fun e0 he0 => ⟨(by show 1 ≤ sizeLine; decide), fun t0 ht0 => ?_⟩⟩
    have s0 := (same_upd (o := .tup []) he0).trans (same_upd (o := .lst [.ref e0]) ht0)
    have g1 : upd (upd H e0 (.tup [])) t0 (.lst [.ref e0]) t0 = some (.lst [.ref e0]) := upd_same
    have g2 : upd (upd H e0 (.tup [])) t0 (.lst [.ref e0]) e0 = some (.tup ([] : List V)) := same_upd ht0 _ _ upd_same
    have p0 : PlacesAt (upd (upd H e0 (.tup [])) t0 (.lst [.ref e0])) [.ref e0] 0 m := fun x hx => ⟨e0, [], List.mem_singleton.mp hx, g2, rfl, fun p hp => by cases hp⟩
    refine ⟨_, rfl, _, rfl, (by omega), (by omega), ?_⟩
    rw [show (((n : Nat) : Int)).toNat = n by omega]
    refine for_it walk_range (fun i σ G => ∃ (tl : Addr) (xs : List V) (v3 v4 v5 v6 : Option V), σ = [some (.int (m : Nat)), some (.int (n : Nat)), some (.ref tl), v3, v4, v5, v6] ∧ Same H G ∧ G tl = some (.lst xs) ∧ PlacesAt G xs i m ∧ xs.length ≤ 3 ^ i)
      ⟨t0, _, none, none, none, none, rfl, s0, g1, p0, Nat.le_refl _⟩ (fun _ _ _ _ _ => trivial) ?_ ?_
    · rintro i x σ Gx G hi ⟨tl, xs, v3, v4, v5, v6, rfl, sG, hxs, hpl, hxl⟩ ⟨eH, ex0⟩
      replace eH := eH.symm
      subst eH
      replace ex0 : x = .int (i : Nat) := ex0.trans (congrArg V.int (Int.zero_add _))
      subst ex0
      have hi' : i < n := hi
      have h3i := pow3 (show i ≤ 4 by omega)
      refine ⟨(by show 0 ≤ sizeLine; decide), fun lt hlt => ?_⟩
      have s1 := same_upd (o := .lst []) hlt
      have hlt1 : upd Gx lt (.lst []) lt = some (.lst []) := upd_same
      refine ⟨.ref tl, rfl, tl, rfl, ⟨_, SqL.of (s1 _ _ hxs)⟩, ?_⟩
      refine for_it walk_list (fun j σ G2 => ∃ (l2 : Addr) (ys : List V) (v5 v6 : Option V), σ = [some (.int (m : Nat)), some (.int (n : Nat)), some (.ref tl), some (.int (i : Nat)), some (.ref l2), v5, v6] ∧ Same Gx G2 ∧ G2 l2 = some (.lst ys) ∧ PlacesAt G2 ys (i + 1) m ∧ ys.length ≤ 3 * j)
        ⟨lt, [], v5, v6, rfl, s1, hlt1, fun x hx => (by cases hx), Nat.le_refl _⟩ (fun j σ G2 _ ⟨_, _, _, _, _, s, _⟩ => SqL.of (s _ _ hxs)) ?_ ?_
      · rintro j x σ Gy G2 hj ⟨l2, ys, v5, v6, rfl, s2, hys, hpy, hyl⟩ ⟨rfl, hx⟩
        obtain ⟨b, ps, rfl, hb, hpsl, hpsr⟩ := hpl x (List.mem_of_getElem? hx)
        have hb2 := s2 _ _ hb
        refine ⟨.ref l2, rfl, _, rfl, _, rfl, (by omega), (by omega), fun D hD => ?_⟩
        rw [show (((m : Nat) : Int)).toNat = m by omega]
        have hDl : D ≠ l2 := fun z => by rw [z, hys] at hD; cases hD
        refine lc_new (walk_range (n := m)) hD (Nat.le_trans hm (by decide)) (fun (i : Nat) Gz v => ∃ (b : Addr), v = .ref b ∧ Gz b = some (.tup ((ps ++ [(i : Int)]).map V.int))) (fun i G3 G4 v t ⟨b, e, h⟩ => ⟨b, e, t _ _ h⟩) (fun _ _ => trivial)
          (fun k x G3 G4 Qk hk sH hy hkk => ?_) (fun G3 acc s4 hD4 hla hacc => ?_)
        · obtain ⟨eH, ex0⟩ := hy
          replace eH := eH.symm
          subst eH
          replace ex0 : x = .int (k : Nat) := ex0.trans (congrArg V.int (Int.zero_add _))
          subst ex0
          refine ⟨rfl, .ref b, rfl, .int (k : Nat), rfl, (by show 1 ≤ sizeLine; decide), fun u hu => ?_⟩
          have su := same_upd (o := .tup [.int (k : Nat)]) hu
          refine ⟨b, u, _, _, rfl, rfl, SqT.of (su _ _ (sH _ _ hb2)), SqT.of upd_same, by simp, ?_, fun e => ?_, fun e p hp => ?_⟩
          · rw [List.length_map, hpsl]
            exact Nat.le_trans (by show i + 1 ≤ 10; omega) (by decide)
          · have e2 : ps = [] := List.map_eq_nil_iff.mp e
            subst e2
            exact hkk _ _ su ⟨u, rfl, upd_same⟩
          · exact hkk _ _ (su.trans (same_upd hp)) ⟨p, rfl, by rw [upd_same, List.map_append]; rfl⟩
        · have hy4 := s4 _ _ hys
          refine ⟨l2, D, ys, acc, rfl, rfl, hy4, hD4, ?_, fun p hp => ?_⟩
          · have := List.mem_of_getElem? hx
            have hjx : j < xs.length := hj
            rw [hla]
            exact Nat.le_trans (by omega : ys.length + m ≤ 1000) (by decide)
          have s5 := same_upd (o := .lst (ys ++ acc)) hp
          refine ⟨p, ys ++ acc, _, _, rfl, s2.trans (s4.trans s5), upd_same, ?_, ?_⟩
          · refine (hpy.same (Same.tups (s4.trans s5))).app fun x hx => ?_
            obtain ⟨k, hk⟩ := mem_get hx
            have hkm : k < m := by rw [← hla]; exact (List.getElem?_eq_some_iff.mp hk).1
            obtain ⟨b', e, hb'⟩ := hacc k x hk
            refine ⟨b', _, e, s5 _ _ hb', by rw [List.length_append, hpsl]; rfl, fun p hp => ?_⟩
            rcases List.mem_append.mp hp with hp | hp
            · exact hpsr p hp
            · rw [List.mem_singleton.mp hp]
              omega
          · rw [List.length_append, hla]
            omega
      · rintro σ G2 ⟨l2, ys, v5, v6, rfl, s2, hys, hpy, hyl⟩
        refine ⟨_, rfl, l2, ys, _, _, _, _, rfl, sG.trans s2, hys, hpy, ?_⟩
        rw [Nat.pow_succ]
        omega
    · rintro σ G ⟨tl, xs, v3, v4, v5, v6, rfl, sG, hxs, hpl, hxl⟩
      have h3i := pow3 hn
      exact ⟨_, rfl, q G tl xs sG hxs hpl (by omega)⟩
end
end Kx
set_option Elab.async false
set_option linter.all false
set_option maxRecDepth 100000
set_option maxHeartbeats 4000000
namespace Kx
open PySem PySem.Spec PyProof.Rows L2
theorem passAt0 {X : Cx} (σ : L2.St) : PassesAt (L2N.CX X.prog X.w) X σ E0 := fun _ _ _ _ _ _ c => by
  obtain ⟨_, _, _, _, _, _, _, _, _, _, _, _, h⟩ := c
  exact h.elim
/-! ### a text, n times -/
theorem foldl_cps : ∀ (n : Nat) (x acc : Array Nat), ((List.replicate n x).foldl (· ++ ·) acc).toList = acc.toList ++ (List.replicate n x.toList).flatten
  | 0, x, acc => by simp
  | n + 1, x, acc => by
    rw [List.replicate_succ, List.foldl_cons, foldl_cps n x (acc ++ x), Array.toList_append, List.replicate_succ, List.flatten_cons, List.append_assoc]
theorem mul_cps {z : Str} {n : Nat} (h2 : 2 ≤ n) (hz : 1 ≤ z.length) : (Txt.mul z (n : Int)).cps.toList = (List.replicate n z.cps.toList).flatten := by
  unfold Txt.mul
  rw [if_neg (by omega), if_neg (by simp; omega), Int.toNat_natCast, foldl_cps]
  rfl
theorem mul_mem {z : Str} {n : Nat} (h2 : 2 ≤ n) (hz : 1 ≤ z.length) : ∀ c ∈ (Txt.mul z (n : Int)).cps.toList, c ∈ z.cps.toList := by
  rw [mul_cps h2 hz]
  intro c hc
  obtain ⟨l, hl, hcl⟩ := List.mem_flatten.mp hc
  rw [(List.mem_replicate.mp hl).2] at hcl
  exact hcl
theorem sum_rep (m : Nat) : ∀ n : Nat, (List.replicate n m).sum = n * m
  | 0 => by simp
  | n + 1 => by
    rw [List.replicate_succ, List.sum_cons, sum_rep m n, Nat.succ_mul, Nat.add_comm]
theorem mul_len {z : Str} {n : Nat} (h2 : 2 ≤ n) (hz : 1 ≤ z.length) : (Txt.mul z (n : Int)).length = n * z.length := by
  have h := congrArg List.length (mul_cps h2 hz)
  rw [Array.length_toList, List.length_flatten, List.map_replicate, sum_rep] at h
  have e : z.cps.toList.length = z.length := Array.length_toList
  rw [e] at h
  exact h
theorem op_repW {X : Cx} : OpR X (binaryOp .Mult) (fun x y H Q => ∃ (z : Str) (n : Nat), x = .str z ∧ y = .int (n : Nat) ∧ 2 ≤ n ∧ n ≤ 1000 ∧ 1 ≤ z.length ∧ z.length ≤ 1000 ∧ Q (.str (Txt.mul z (n : Nat))) H) := by
  intro pins s σ H x y v u Q I rx ry h
  obtain ⟨z, n, rfl, rfl, h0, h1, hz1, hz2, q⟩ := h
  obtain ⟨t, rfl⟩ := rx
  obtain ⟨t2, rfl⟩ := ry
  refine PySem.SB.mul ?_ fun t' k => ⟨.str _, H, I.tok _, ⟨_, rfl⟩, q⟩
  refine ⟨?_, fun h1 _ => ?_, fun h1 _ => ?_⟩
  · rw [Bool.or_eq_false_iff]
    exact ⟨decide_eq_false (by omega), decide_eq_false (by omega)⟩
  · intro hc
    have h2 : (z.length : Int) ≤ (2 ^ 63 - 1) / (n : Int) := by
      rw [Int.le_ediv_iff_mul_le (by omega)]
      have h3 : z.length * n ≤ 1000 * 1000 := Nat.mul_le_mul hz2 (by omega)
      have h4 : ((z.length : Nat) : Int) * (n : Nat) = ((z.length * n : Nat) : Int) := by rw [Int.natCast_mul]
      rw [h4]
      omega
    omega
  · refine decide_eq_false ?_
    have h9 : (1000000 : Nat) ≤ sizeLine := by decide
    have h3 : z.length * n ≤ 1000 * 1000 := Nat.mul_le_mul hz2 (by omega)
    have h5 : n * z.length ≤ 1000 * 1000 := Nat.mul_le_mul (by omega) hz2
    first
      | omega
      | (intro hc; simp at hc; omega)
theorem cut200 (z : Str) : (cutS z none (some 200)).cps.toList = z.cps.toList.take 200 := by
  unfold cutS
  have hz : z.cps.toList.length = z.length := Array.length_toList
  have e1 : HT.sIx z.length z.length (some 200) = min 200 z.length := by
    unfold HT.sIx
    simp
  have e2 : HT.sIx z.length 0 none = 0 := rfl
  rw [e1, e2]
  show ((z.cps.toList.drop 0).take (min 200 z.length - 0)) = _
  rw [List.drop_zero, Nat.sub_zero]
  by_cases h : 200 ≤ z.length
  · rw [Nat.min_eq_left h]
  · rw [Nat.min_eq_right (by omega), List.take_of_length_le (by rw [hz]; exact Nat.le_refl _), List.take_of_length_le (by rw [hz]; omega)]
/-! ### a call of a right reader -/
theorem callO_read {K mg} (T : Txt K mg) : StX.CallO K (He.ga K "Reader") (He.ma K (He.ga K "Reader") "__call__") := ⟨(meth___call__ T).at_, (readF T).cfn, (readF T).cfi⟩
theorem bind3 {K : PySem.W.Frag} {f : Addr} {fd : FuncData} {d : V} (F : FunD K "__call__" "Reader.__call__" (defArgs s_Reader___call__) (defBody s_Reader___call__) (defScope s_Reader___call__) [d] [] f fd) : Binds K fd ["self", "row", "places"] [] := by
  obtain ⟨ds, h1, h2⟩ := F.binds1 (ps := ["self", "row", "places"]) 3 1 (by simp) rfl fun Ta kV doc pm an cdv ct us its hu hi => match us, hu, its, hi with
    | [_, _, _], _, [_], _ => ⟨_, rfl, rfl⟩
  cases h1
  exact h2
theorem bind2 {K : PySem.W.Frag} {f : Addr} {fd : FuncData} {d : V} (F : FunD K "__call__" "Reader.__call__" (defArgs s_Reader___call__) (defBody s_Reader___call__) (defScope s_Reader___call__) [d] [] f fd) : ∃ ds, Vals [d] ds ∧ Binds K fd ["self", "row", "places"] ds :=
  F.binds1 (ps := ["self", "row", "places"]) 2 0 (by simp) rfl fun Ta kV doc pm an cdv ct us its hu hi => match us, hu, its, hi with
    | [_, _], _, [_], _ => ⟨_, rfl, rfl⟩
theorem wrongL_ok {al : List Nat} {z : Str} (h1 : z.length ≤ 200) (h2 : ∀ c ∈ z.cps.toList, c ∈ al) : wrongL al (.str z) = none := by
  show (if z.length ≤ 200 then firstNot al z.cps.toList 0 else some (-1)) = none
  rw [if_pos h1]
  exact firstNot_none fun j c hc => h2 c (List.mem_of_getElem? hc)
theorem rpl_ints {H : Hp} : ∀ ps : List Int, RpL H (ps.map V.int) (ps.map PyData.int)
  | [] => .nil
  | p :: ps => .cons (.int p) (rpl_ints ps)
theorem PsAt.rp {H : Hp} {v : V} {ps : List Int} (h : PsAt H v ps) : ∃ d, Rp H v d ∧ itemsD d = some (ps.map PyData.int) := by
  obtain ⟨a, rfl, h | h⟩ := h
  · exact ⟨_, .lst h (rpl_ints ps), rfl⟩
  · exact ⟨_, .tup h (rpl_ints ps), rfl⟩
theorem items_ints (ps : List Int) : (ps.map PyData.int).map intD = ps := by
  rw [List.map_map]
  have : (intD ∘ PyData.int) = id := by funext i; rfl
  rw [this, List.map_id]
theorem moveD_ok {d : PyData} {ps : List Int} {n m : Nat} (h : itemsD d = some (ps.map PyData.int)) (hl : ps.length = n) (hr : ∀ p ∈ ps, 0 ≤ p ∧ p < (m : Int)) : moveD n m d = true := by
  unfold moveD
  rw [h]
  show (decide ((((ps.map PyData.int).length : Nat) : Int) = (n : Nat)) && (ps.map PyData.int).all (belowD m)) = true
  rw [List.length_map, hl, decide_eq_true rfl, Bool.true_and, List.all_map, List.all_eq_true]
  intro p hp
  show (decide (0 ≤ p) && decide (p < (m : Int))) = true
  obtain ⟨h1, h2⟩ := hr p hp
  rw [decide_eq_true h1, decide_eq_true h2]
  rfl
theorem call_right {K : PySem.W.Frag} {H : Hp} {x : Addr} {D : RdD} {z : Str} {pv : V} {ps : List Int} {Q : VK} {E : XK} (RA : RdAt K H x D) (RO : RdOk D) (hz : z.length ≤ 200) (hal : ∀ c ∈ z.cps.toList, c ∈ D.al.cps.toList) (hp : PsAt H pv ps) (hpl : ps.length = D.ns.length) (hpr : ∀ p ∈ ps, 0 ≤ p ∧ p < (z.length : Int))
    (q : ∀ H', Same H H' → Q (.bl (accepts D z.cps.toList ps)) H') : sp_Reader_call K [.ref x, .str z, pv] H Q E := by
  obtain ⟨d, rd, hd⟩ := hp.rp
  have hm := moveD_ok (n := D.ns.length) (m := z.length) hd hpl hpr
  have hps : placesI d = ps := by
    unfold placesI
    rw [hd]
    exact items_ints ps
  refine ⟨x, D, .str z, pv, .str z, d, rfl, RA, RO, .str z, fun y e => by cases e; omega, .inl rd, fun ds e => ?_, fun k hk => ?_, fun y e _ => ⟨fun hb => ?_, fun _ H' s => ?_⟩⟩
  · rw [hd] at e
    cases e
    rw [List.length_map, hpl]
    exact Nat.le_trans RO.ns4 (by decide)
  · rw [wrongL_ok hz hal] at hk
    cases hk
  · cases e
    rw [hm] at hb
    cases hb
  · cases e
    rw [hps]
    exact q H' s
end Kx
set_option Elab.async false
set_option linter.all false
set_option maxRecDepth 100000
set_option maxHeartbeats 4000000
namespace Kx
open PySem PySem.Spec PyProof.Rows L2
theorem join_one : ∀ cs : List Nat, Str.join "" (cs.map one1) = ⟨cs.toArray⟩
  | [] => rfl
  | [c] => rfl
  | c :: d :: cs => by
    show one1 c ++ "" ++ Str.join "" ((d :: cs).map one1) = _
    rw [join_one (d :: cs)]
    show Str.mk (#[c] ++ ("" : Str).cps ++ (d :: cs).toArray) = _
    have e : ("" : Str).cps = #[] := rfl
    rw [e]
    simp
theorem join_list (cs : List Nat) : (Txt.join "" (cs.map one1)).cps.toList = cs := by
  rw [TL.join_eq, join_one]
theorem join_len (cs : List Nat) : (Txt.join "" (cs.map one1)).length = cs.length := by
  show (Txt.join "" (cs.map one1)).cps.size = _
  rw [← Array.length_toList, join_list]
theorem dp_ints {K : PySem.W.Frag} {H : Hp} {l : Addr} {ps : List Int} (h : H l = some (.lst (ps.map V.int))) : Dp K H (.ref l) (.list (ps.map PyData.int)) := by
  refine .lst (SqL.of h) ?_
  clear h
  induction ps with
  | nil => exact .nil
  | cons p ps ih => exact .cons (.int p) ih
theorem pure_ints (ps : List Int) : pureD (.list (ps.map PyData.int)) = true := by
  simp only [pureD]
  exact pureL_map fun _ _ => rfl
theorem shaped_ints (ps : List Int) : SeqAt.shaped (.list (ps.map PyData.int)) = true := by
  refine shaped_of (pure_ints ps) ?_
  have h : PyData.depthAll (ps.map PyData.int) ≤ 0 := depthAll_map fun _ _ => by simp [PyData.depth]
  simp only [PyData.depth]
  omega
theorem eqv_self_ints (ps : List Int) : PyData.eqv (.list (ps.map PyData.int)) (.list (ps.map PyData.int)) = true := (eqv_pure (pure_ints ps) (pure_ints ps)).mpr rfl
theorem RdAt.del {K : PySem.W.Frag} {H : Hp} {a x : Addr} {D : RdD} (h : RdAt K (del H a) x D) : RdAt K H x D := h.same (del_le a)
theorem fra_rd {K : PySem.W.Frag} {H H' : Hp} {a x : Addr} {D : RdD} (f : Fra a H H') (h : RdAt K (del H a) x D) : RdAt K (del H' a) x D := h.same f.sm
theorem fra_w {H H' : Hp} {a : Addr} {v : V} {D : RdD} (f : Fra a H H') (h : WAt (del H a) v D) : WAt (del H' a) v D := h.same f.sm
section
variable {P : Program} {w : World} {K : PySem.W.Frag} {mg : Str → Option Value} {base : Heap}
theorem ans_tail (T : Txt K mg) {cdv : Value} {A : Around} {outer : List Env} {s : Shared} {H : Hp} {E : XK} (hr : Room 5 (A.deeper (envOfC "_law_answers" (defScope s__law_answers) s.heap.objs.size (He.ga K "_law_answers") cdv))) :
    ∃ tk : TS, PSs (cxOf CX0 P w K mg base N__law_answers "_law_answers" (defScope s__law_answers) (He.ga K "_law_answers") cdv A outer s H E).nox ((defBody s__law_answers).drop 3) tk ∧
      ∀ (Dn : Ends) (G : Hp) (a x t : Addr) (D : RdD) (w5 w6 w7 : Option V), SrcAt G a → RdAt K (del G a) x D → WAt (del G a) (.ref t) D → WOk D → (∀ H', Fra a G H' → Dn.rt (.bl true) H') →
        tk Dn [some (.ref x), some (.ref t), some (.ref a), some (.str D.al), some (.str D.ns), w5, w6, w7, none, none, none, none] G := by
  obtain ⟨fdC, FC⟩ := F_Reader___call__ T
  refine ⟨_, (pss_cons (ps_for PassesOwn.never rfl (pi_range1 (by rfl) (fr_range T) (pa_cons pe_int pa_nil)) (pg_name (i := 8) sc__law_answers.nd rfl (Or.inl rfl)) (pss_cons (ps_set (i := 6) sc__law_answers.nd rfl (Or.inr rfl) (pe_op op_add_str (pe_cal (ok_law_word T) (hr.mono (by decide)) pass0 (pa_cons (pv 2) (pa_cons (pv 3) (pa_cons pe_int pa_nil)))) (pe_ix ix_str (pv 3) pe_int (fun _ _ => rfl))))
        (pss_cons (ps_if (PW.pt (pw_and (pt_cmpR op_eq (pv 8) pe_int (nomark _)) (pw_and1 (pt_cmpR op_eq (pe_cal (ok_law_pick T) (hr.mono (by decide)) pass0 (pa_cons (pv 2) (pa_cons pe_int pa_nil))) pe_int (nomark _))))) (pss_one (ps_set (i := 6) sc__law_answers.nd rfl (Or.inr rfl) (pe_slice sl_str (pe_op op_repW (pv 6) pe_int) po_none (po_some pe_int)))) pss_nil)
        (pss_cons (ps_setLc (i := 9) (te := tCall sp_law_pick [] E0 (tCons (tVar 2) (tCons (tCB (rLen K) (tCons (tVar 6) tNil)) tNil))) (own := [("_law_name", 11)]) (g := (gName 11)) (tt := tYes) rfl sc__law_answers.nd rfl rfl (sw_true rfl rfl rfl (by decide +kernel)) (pi_str (pv 4)) (blkOk_by (N := N__law_answers) (sc := defScope s__law_answers) (by decide +kernel)) (fun _ _ _ _ _ => (pg_name (i := 11) sc__law_answers.nd rfl (Or.inl rfl))) (fun _ _ _ _ _ => pts_nil) (fun _ _ _ _ _ => by refine pe_cal (ok_law_pick T) (hr.mono (by decide)) pass0 (pa_cons (pv 2) (pa_cons ?_ pa_nil)); exact pe_callB call_len (by rfl) (fr_len T) boot_len (pa_cons (pv 6) pa_nil)))
        (pss_cons (ps_set (i := 10) sc__law_answers.nd rfl (Or.inl rfl) (pe_callTy call_list_of (by rfl) (fr_list T) b_list (pa_cons (pv 9) pa_nil)))
        (pss_one (ps_if (PW.pt (pw_or (pt_not (pt_val (pe_cal (ok_law_is_truth T) (hr.mono (by decide)) pass0 (pa_cons (pe_callOD (E := fun _ => E0) (dvs := []) (pv 0) (callO_read T) (ok_Reader_call T FC) (hr.mono (by decide)) (bind3 FC) .nil passAt0 (pa_cons (pv 6) (pa_cons (pv 9) pa_nil))) (pa_cons (pe_cal (ok_law_reads T) (hr.mono (by decide)) pass0 (pa_cons (pv 1) (pa_cons (pv 6) (pa_cons (pv 10) pa_nil)))) pa_nil))))) (pw_or1 (pt_cmpR (op_neD (hu64 hr)) (pv 9) (pv 10) (nomark _))))) (pss_one (ps_ret pe_bl)) pss_nil)))))))
        (pss_one (ps_ret pe_bl))), ?_⟩
  intro Dn G a x t D w5 w6 w7 hs RA WA WO q
  have hn4 := WO.rd.ns4
  have hal8 := WO.rd.al8
  refine ⟨4, rfl, (by decide), (by decide), ?_⟩
  refine for_it (walk_range (n := 4)) (fun i σ G2 => ∃ (v6 v7 v8 v9 v10 v11 : Option V), σ = [some (.ref x), some (.ref t), some (.ref a), some (.str D.al), some (.str D.ns), w5, v6, v7, v8, v9, v10, v11] ∧ Fra a G G2)
    ⟨w6, w7, none, none, none, none, rfl, Fra.refl hs⟩ (fun _ _ _ _ _ => trivial) ?_ ?_
  · rintro i x0 σ Gx G2 hi ⟨v6, v7, v8, v9, v10, v11, rfl, f2⟩ ⟨eH, ex0⟩
    replace eH := eH.symm
    subst eH
    replace ex0 : x0 = .int (i : Nat) := ex0.trans (congrArg V.int (Int.zero_add _))
    subst ex0
    refine ⟨_, rfl, _, rfl, a, D.al, 9, rfl, hal8.1, hal8.2, (by decide), f2.src, fun G3 cs f3 hcs hcl => ?_⟩
    have hal0 : 0 < D.al.cps.toList.length := by
      have : D.al.cps.toList.length = D.al.length := Array.length_toList
      omega
    have hc0 := List.getElem?_eq_getElem hal0
    have hc0m : D.al.cps.toList[0] ∈ D.al.cps.toList := List.getElem_mem hal0
    generalize D.al.cps.toList[0] = c0 at hc0 hc0m
    have hjl := join_len cs
    have hjc := join_list cs
    generalize Txt.join "" (cs.map one1) = z0 at hjl hjc
    refine ⟨_, rfl, D.al, 0, c0, rfl, rfl, Nat.le_trans hal8.2 (by decide), atI_nat (j := 0) hc0, _, _, rfl, rfl, ?_, ?_⟩
    · have : (⟨#[c0]⟩ : Str).length = 1 := rfl
      rw [this]
      exact Nat.le_trans (by omega : z0.length + 1 ≤ 100) (by decide)
    have hz1 : (z0 ++ ⟨#[c0]⟩).length = z0.length + 1 := len_app _ _
    have hzc : ∀ c ∈ (z0 ++ ⟨#[c0]⟩).cps.toList, c ∈ D.al.cps.toList := by
      intro c hc
      rw [cps_app, hjc] at hc
      rcases List.mem_append.mp hc with hc | hc
      · exact hcs c hc
      · rw [List.mem_singleton.mp (show c ∈ [c0] from hc)]
        exact hc0m
    generalize z0 ++ ⟨#[c0]⟩ = z1 at hz1 hzc
    dsimp only
    have f03 := f2.trans f3
    -- what follows for a row
    refine ⟨.int (i : Nat), rfl, rfl, _, rfl, ?_⟩
    rw [dec_int]
    by_cases h2 : ((i : Nat) : Int) = 2
    · rw [decide_eq_true h2]
      refine iteT ⟨_, rfl, ?_⟩
      refine ⟨_, _, rfl, (by omega), (by omega), f03.src, fun qA qS qC d4 hd40 hd41 => ?_⟩
      have f4 : Fra a G3 (upd G3 a (three qA qS qC)) := Fra.drawn qA qS qC
      revert f4
      generalize upd G3 a (three qA qS qC) = G4
      intro f4
      have f04 := f03.trans f4
      refine ⟨rfl, _, rfl, ?_⟩
      rw [dec_int]
      by_cases h5 : d4 = 5
      · rw [decide_eq_true h5]
        refine iteT ⟨.str z1, rfl, z1, 200, rfl, rfl, (by decide), (by decide), (by omega), (by omega), 200, rfl, _, rfl, ?_, ?_⟩
        · rw [mul_len (by decide) (by omega)]
          exact Nat.le_trans (by omega : 200 * z1.length ≤ 10000) (by decide)
        have hl2 : (cutS (Txt.mul z1 (200 : Nat)) none (some 200)).length ≤ 200 ∧ 1 ≤ (cutS (Txt.mul z1 (200 : Nat)) none (some 200)).length := by
          have h := congrArg List.length (cut200 (Txt.mul z1 (200 : Nat)))
          have h3 : (Txt.mul z1 (200 : Nat)).cps.toList.length = (Txt.mul z1 (200 : Nat)).length := Array.length_toList
          rw [Array.length_toList, List.length_take, h3, mul_len (by decide) (by omega)] at h
          have h4 : (cutS (Txt.mul z1 (200 : Nat)) none (some 200)).cps.size = (cutS (Txt.mul z1 (200 : Nat)) none (some 200)).length := rfl
          rw [h4] at h
          omega
        have hz2 : ∀ c ∈ (cutS (Txt.mul z1 (200 : Nat)) none (some 200)).cps.toList, c ∈ D.al.cps.toList := fun c hc => by
          rw [cut200] at hc
          exact hzc c (mul_mem (by decide) (by omega) c (List.mem_of_mem_take hc))
        generalize cutS (Txt.mul z1 (200 : Nat)) none (some 200) = z2 at hl2 hz2 ⊢
        refine ⟨.str D.ns, rfl, D.ns, rfl, fun DD hD => ?_⟩
        have hDa : DD ≠ a := f04.src.ne hD
        refine lc_it walk_str (tt := tYes) (fun j G5 => ∃ ps : List Int, G5 DD = some (.lst (ps.map V.int)) ∧ ps.length = j ∧ (∀ p ∈ ps, 0 ≤ p ∧ p < (z2.length : Int)) ∧ Fra a G G5)
          ⟨[], upd_same, rfl, fun p hp => (by cases hp), f04.trans (Fra.same f04.src (same_upd hD))⟩ (fun _ _ _ _ => trivial) ?_ ?_
        · rintro j y G5 G6 hj ⟨ps, hps, hpl, hpr, f5⟩ ⟨eH, c, hc, rfl⟩
          subst eH
          refine ⟨rfl, .ref a, rfl, .str z2, rfl, _, _, rfl, lenV_str (by omega), ?_⟩
          refine ⟨_, _, rfl, (by omega), (by omega), f5.src, fun qA qS qC d7 hd70 hd71 => ?_⟩
          have f7 : Fra a G6 (upd G6 a (three qA qS qC)) := Fra.drawn qA qS qC
          revert f7
          generalize upd G6 a (three qA qS qC) = G7
          intro f7
          have hps7 : G7 DD = some (.lst (ps.map V.int)) := f7.up _ _ (by rw [del_ne hDa]; exact hps)
          have h0 : G DD = none := f04.none hDa hD
          refine ⟨_, hps7, ?_, ps ++ [d7], ?_, ?_, ?_, (f5.trans f7).over h0 hDa⟩
          · rw [List.length_map, hpl]
            exact Nat.lt_of_lt_of_le (by have : j < D.ns.length := hj; omega : j < 10) (by decide)
          · rw [upd_same, List.map_append]
            rfl
          · rw [List.length_append, hpl]
            rfl
          · intro p hp
            rcases List.mem_append.mp hp with hp | hp
            · exact hpr p hp
            · rw [List.mem_singleton.mp hp]
              exact ⟨hd70, hd71⟩
        · rintro G5 ⟨ps, hps, hpl, hpr, f5⟩
          have hpl : ps.length = D.ns.length := hpl
          refine ⟨.ref DD, rfl, DD, _, rfl, .inl (SqL.of hps), fun kl hkl => ?_⟩
          have hka : kl ≠ a := f5.src.ne hkl
          have s6 := same_upd (o := .lst (ps.map V.int)) hkl
          have f6 := f5.trans (Fra.same f5.src s6)
          have hps6 := s6 _ _ hps
          have hk6 : upd G5 kl (.lst (ps.map V.int)) kl = some (.lst (ps.map V.int)) := upd_same
          revert f6 hps6 hk6
          generalize upd G5 kl (.lst (ps.map V.int)) = G6
          intro f6 hps6 hk6
          have RA6 := (fra_rd f6 RA).del
          have RA6' := RA6
          obtain ⟨dx, vm, vc, hx6, _⟩ := RA6'
          refine ⟨.ref x, rfl, x, dx, _, rfl, .str z2, rfl, .ref DD, rfl, hx6, ?_⟩
          refine call_right RA6 WO.rd (by omega) hz2 ⟨DD, rfl, .inl hps6⟩ hpl hpr fun G7 s7 => ?_
          have f7 := f6.trans (Fra.same f6.src s7)
          refine ⟨.ref t, rfl, .str z2, rfl, .ref kl, rfl, .ref t, .ref kl, D, z2, ps, rfl, (fra_w f7 WA).same (del_le a), WO, (by omega), hz2, ⟨kl, rfl, .inl (s7 _ _ hk6)⟩, hpl, fun G8 s8 => ⟨_, _, rfl, _, rfl, ?_⟩⟩
          rw [decide_eq_true rfl]
          have f8 := f7.trans (Fra.same f7.src s8)
          refine iteF ⟨.ref DD, rfl, .ref kl, rfl, _, _, dp_ints (s8 _ _ (s7 _ _ hps6)), dp_ints (s8 _ _ (s7 _ _ hk6)), shaped_ints ps, shaped_ints ps, _, rfl, ?_⟩
          rw [eqv_self_ints]
          exact iteF ⟨_, _, _, _, _, _, rfl, f8⟩
      · rw [decide_eq_false h5]
        refine iteF ?_
        refine ⟨.str D.ns, rfl, D.ns, rfl, fun DD hD => ?_⟩
        have hDa : DD ≠ a := f04.src.ne hD
        refine lc_it walk_str (tt := tYes) (fun j G5 => ∃ ps : List Int, G5 DD = some (.lst (ps.map V.int)) ∧ ps.length = j ∧ (∀ p ∈ ps, 0 ≤ p ∧ p < (z1.length : Int)) ∧ Fra a G G5)
          ⟨[], upd_same, rfl, fun p hp => (by cases hp), f04.trans (Fra.same f04.src (same_upd hD))⟩ (fun _ _ _ _ => trivial) ?_ ?_
        · rintro j y G5 G6 hj ⟨ps, hps, hpl, hpr, f5⟩ ⟨eH, c, hc, rfl⟩
          subst eH
          refine ⟨rfl, .ref a, rfl, .str z1, rfl, _, _, rfl, lenV_str (by omega), ?_⟩
          refine ⟨_, _, rfl, (by omega), (by omega), f5.src, fun qA qS qC d7 hd70 hd71 => ?_⟩
          have f7 : Fra a G6 (upd G6 a (three qA qS qC)) := Fra.drawn qA qS qC
          revert f7
          generalize upd G6 a (three qA qS qC) = G7
          intro f7
          have hps7 : G7 DD = some (.lst (ps.map V.int)) := f7.up _ _ (by rw [del_ne hDa]; exact hps)
          have h0 : G DD = none := f04.none hDa hD
          refine ⟨_, hps7, ?_, ps ++ [d7], ?_, ?_, ?_, (f5.trans f7).over h0 hDa⟩
          · rw [List.length_map, hpl]
            exact Nat.lt_of_lt_of_le (by have : j < D.ns.length := hj; omega : j < 10) (by decide)
          · rw [upd_same, List.map_append]
            rfl
          · rw [List.length_append, hpl]
            rfl
          · intro p hp
            rcases List.mem_append.mp hp with hp | hp
            · exact hpr p hp
            · rw [List.mem_singleton.mp hp]
              exact ⟨hd70, hd71⟩
        · rintro G5 ⟨ps, hps, hpl, hpr, f5⟩
          have hpl : ps.length = D.ns.length := hpl
          refine ⟨.ref DD, rfl, DD, _, rfl, .inl (SqL.of hps), fun kl hkl => ?_⟩
          have hka : kl ≠ a := f5.src.ne hkl
          have s6 := same_upd (o := .lst (ps.map V.int)) hkl
          have f6 := f5.trans (Fra.same f5.src s6)
          have hps6 := s6 _ _ hps
          have hk6 : upd G5 kl (.lst (ps.map V.int)) kl = some (.lst (ps.map V.int)) := upd_same
          revert f6 hps6 hk6
          generalize upd G5 kl (.lst (ps.map V.int)) = G6
          intro f6 hps6 hk6
          have RA6 := (fra_rd f6 RA).del
          have RA6' := RA6
          obtain ⟨dx, vm, vc, hx6, _⟩ := RA6'
          refine ⟨.ref x, rfl, x, dx, _, rfl, .str z1, rfl, .ref DD, rfl, hx6, ?_⟩
          refine call_right RA6 WO.rd (by omega) hzc ⟨DD, rfl, .inl hps6⟩ hpl hpr fun G7 s7 => ?_
          have f7 := f6.trans (Fra.same f6.src s7)
          refine ⟨.ref t, rfl, .str z1, rfl, .ref kl, rfl, .ref t, .ref kl, D, z1, ps, rfl, (fra_w f7 WA).same (del_le a), WO, (by omega), hzc, ⟨kl, rfl, .inl (s7 _ _ hk6)⟩, hpl, fun G8 s8 => ⟨_, _, rfl, _, rfl, ?_⟩⟩
          rw [decide_eq_true rfl]
          have f8 := f7.trans (Fra.same f7.src s8)
          refine iteF ⟨.ref DD, rfl, .ref kl, rfl, _, _, dp_ints (s8 _ _ (s7 _ _ hps6)), dp_ints (s8 _ _ (s7 _ _ hk6)), shaped_ints ps, shaped_ints ps, _, rfl, ?_⟩
          rw [eqv_self_ints]
          exact iteF ⟨_, _, _, _, _, _, rfl, f8⟩
    · rw [decide_eq_false h2]
      refine iteF (iteF ?_)
      refine ⟨.str D.ns, rfl, D.ns, rfl, fun DD hD => ?_⟩
      have hDa : DD ≠ a := f03.src.ne hD
      refine lc_it walk_str (tt := tYes) (fun j G5 => ∃ ps : List Int, G5 DD = some (.lst (ps.map V.int)) ∧ ps.length = j ∧ (∀ p ∈ ps, 0 ≤ p ∧ p < (z1.length : Int)) ∧ Fra a G G5)
        ⟨[], upd_same, rfl, fun p hp => (by cases hp), f03.trans (Fra.same f03.src (same_upd hD))⟩ (fun _ _ _ _ => trivial) ?_ ?_
      · rintro j y G5 G6 hj ⟨ps, hps, hpl, hpr, f5⟩ ⟨eH, c, hc, rfl⟩
        subst eH
        refine ⟨rfl, .ref a, rfl, .str z1, rfl, _, _, rfl, lenV_str (by omega), ?_⟩
        refine ⟨_, _, rfl, (by omega), (by omega), f5.src, fun qA qS qC d7 hd70 hd71 => ?_⟩
        have f7 : Fra a G6 (upd G6 a (three qA qS qC)) := Fra.drawn qA qS qC
        revert f7
        generalize upd G6 a (three qA qS qC) = G7
        intro f7
        have hps7 : G7 DD = some (.lst (ps.map V.int)) := f7.up _ _ (by rw [del_ne hDa]; exact hps)
        have h0 : G DD = none := f03.none hDa hD
        refine ⟨_, hps7, ?_, ps ++ [d7], ?_, ?_, ?_, (f5.trans f7).over h0 hDa⟩
        · rw [List.length_map, hpl]
          exact Nat.lt_of_lt_of_le (by have : j < D.ns.length := hj; omega : j < 10) (by decide)
        · rw [upd_same, List.map_append]
          rfl
        · rw [List.length_append, hpl]
          rfl
        · intro p hp
          rcases List.mem_append.mp hp with hp | hp
          · exact hpr p hp
          · rw [List.mem_singleton.mp hp]
            exact ⟨hd70, hd71⟩
      · rintro G5 ⟨ps, hps, hpl, hpr, f5⟩
        have hpl : ps.length = D.ns.length := hpl
        refine ⟨.ref DD, rfl, DD, _, rfl, .inl (SqL.of hps), fun kl hkl => ?_⟩
        have hka : kl ≠ a := f5.src.ne hkl
        have s6 := same_upd (o := .lst (ps.map V.int)) hkl
        have f6 := f5.trans (Fra.same f5.src s6)
        have hps6 := s6 _ _ hps
        have hk6 : upd G5 kl (.lst (ps.map V.int)) kl = some (.lst (ps.map V.int)) := upd_same
        revert f6 hps6 hk6
        generalize upd G5 kl (.lst (ps.map V.int)) = G6
        intro f6 hps6 hk6
        have RA6 := (fra_rd f6 RA).del
        have RA6' := RA6
        obtain ⟨dx, vm, vc, hx6, _⟩ := RA6'
        refine ⟨.ref x, rfl, x, dx, _, rfl, .str z1, rfl, .ref DD, rfl, hx6, ?_⟩
        refine call_right RA6 WO.rd (by omega) hzc ⟨DD, rfl, .inl hps6⟩ hpl hpr fun G7 s7 => ?_
        have f7 := f6.trans (Fra.same f6.src s7)
        refine ⟨.ref t, rfl, .str z1, rfl, .ref kl, rfl, .ref t, .ref kl, D, z1, ps, rfl, (fra_w f7 WA).same (del_le a), WO, (by omega), hzc, ⟨kl, rfl, .inl (s7 _ _ hk6)⟩, hpl, fun G8 s8 => ⟨_, _, rfl, _, rfl, ?_⟩⟩
        rw [decide_eq_true rfl]
        have f8 := f7.trans (Fra.same f7.src s8)
        refine iteF ⟨.ref DD, rfl, .ref kl, rfl, _, _, dp_ints (s8 _ _ (s7 _ _ hps6)), dp_ints (s8 _ _ (s7 _ _ hk6)), shaped_ints ps, shaped_ints ps, _, rfl, ?_⟩
        rw [eqv_self_ints]
        exact iteF ⟨_, _, _, _, _, _, rfl, f8⟩
  · rintro σ G2 ⟨v6, v7, v8, v9, v10, v11, rfl, f2⟩
    exact q G2 f2
end
end Kx
set_option Elab.async false
set_option linter.all false
set_option maxRecDepth 100000
set_option maxHeartbeats 4000000
namespace Kx
open PySem PySem.Spec PyProof.Rows L2
section
variable {P : Program} {w : World} {K : PySem.W.Frag} {mg : Str → Option Value} {base : Heap}
theorem ans_rows (T : Txt K mg) {cdv : Value} {A : Around} {outer : List Env} {s : Shared} {H : Hp} {E : XK} (hr : Room 5 (A.deeper (envOfC "_law_answers" (defScope s__law_answers) s.heap.objs.size (He.ga K "_law_answers") cdv))) :
    ∃ tk : TS, PSs (cxOf CX0 P w K mg base N__law_answers "_law_answers" (defScope s__law_answers) (He.ga K "_law_answers") cdv A outer s H E).nox ((defBody s__law_answers).drop 2) tk ∧
      ∀ (Dn : Ends) (G : Hp) (a x t : Addr) (D : RdD) (m : Nat), m ≤ 3 → SrcAt G a → RdAt K (del G a) x D → WAt (del G a) (.ref t) D → WOk D → (∀ H', Fra a G H' → Dn.rt (.bl true) H') →
        tk Dn [some (.ref x), some (.ref t), some (.ref a), some (.str D.al), some (.str D.ns), some (.int (m : Nat)), none, none, none, none, none, none] G := by
  obtain ⟨fdC, FC⟩ := F_Reader___call__ T
  obtain ⟨tk, htl, hq⟩ := ans_tail (P := P) (w := w) (base := base) (cdv := cdv) (A := A) (outer := outer) (s := s) (H := H) (E := E) T hr
  refine ⟨_, (pss_cons (ps_for PassesOwn.never rfl (pi_list (pe_cal (ok_law_rows T) (hr.mono (by decide)) pass0 (pa_cons (pv 3) (pa_cons (pv 5) pa_nil)))) (pg_name (i := 6) sc__law_answers.nd rfl (Or.inr rfl)) (pss_one (ps_for PassesOwn.never rfl (pi_list (pe_cal (ok_law_all_places T) (hr.mono (by decide)) pass0 (pa_cons (pe_callB call_len (by rfl) (fr_len T) boot_len (pa_cons (pv 6) pa_nil)) (pa_cons (pe_callB call_len (by rfl) (fr_len T) boot_len (pa_cons (pv 4) pa_nil)) pa_nil)))) (pg_name (i := 7) sc__law_answers.nd rfl (Or.inl rfl)) (pss_one (ps_if (pt_not (pt_val (pe_cal (ok_law_is_truth T) (hr.mono (by decide)) pass0 (pa_cons (pe_callOD (E := fun _ => E0) (dvs := []) (pv 0) (callO_read T) (ok_Reader_call T FC) (hr.mono (by decide)) (bind3 FC) .nil passAt0 (pa_cons (pv 6) (pa_cons (pv 7) pa_nil))) (pa_cons (pe_cal (ok_law_reads T) (hr.mono (by decide)) pass0 (pa_cons (pv 1) (pa_cons (pv 6) (pa_cons (pv 7) pa_nil)))) pa_nil))))) (pss_one (ps_ret pe_bl)) pss_nil)))))
        htl), ?_⟩
  intro Dn G a x t D m hm hs RA WA WO q
  have hn4 := WO.rd.ns4
  have hal8 := WO.rd.al8
  refine ⟨_, rfl, _, rfl, D.al, m, rfl, hal8.2, hm, fun G1 r rows s1 hrr hrows hrl => ⟨r, rfl, ⟨_, SqL.of hrr⟩, ?_⟩⟩
  refine for_it (walk_list (xs := rows.map V.str)) (fun i σ G2 => ∃ (v6 v7 : Option V), σ = [some (.ref x), some (.ref t), some (.ref a), some (.str D.al), some (.str D.ns), some (.int (m : Nat)), v6, v7, none, none, none, none] ∧ Same G1 G2)
    ⟨none, none, rfl, Same.refl _⟩ (fun i σ G2 _ ⟨_, _, _, s⟩ => SqL.of (s _ _ hrr)) ?_ ?_
  · rintro i x0 σ Gx G2 hi ⟨v6, v7, rfl, s2⟩ ⟨rfl, hx⟩
    rw [List.getElem?_map] at hx
    obtain ⟨z, hz, rfl⟩ := Option.map_eq_some_iff.mp hx
    obtain ⟨hzl, hzc⟩ := hrows z (List.mem_of_getElem? hz)
    refine ⟨.str z, rfl, _, _, rfl, lenV_str (by omega), .str D.ns, rfl, _, _, rfl, lenV_str (by omega), z.length, D.ns.length, rfl, (by omega), hn4, fun G3 r3 xs3 s3 hr3 hp3 hl3 => ⟨r3, rfl, ⟨_, SqL.of hr3⟩, ?_⟩⟩
    refine for_it (walk_list (xs := xs3)) (fun j σ G4 => ∃ (v7 : Option V), σ = [some (.ref x), some (.ref t), some (.ref a), some (.str D.al), some (.str D.ns), some (.int (m : Nat)), some (.str z), v7, none, none, none, none] ∧ Same G3 G4)
      ⟨v7, rfl, Same.refl _⟩ (fun i σ G2 _ ⟨_, _, s⟩ => SqL.of (s _ _ hr3)) ?_ ?_
    · rintro j x1 σ Gy G4 hj ⟨v7, rfl, s4⟩ ⟨rfl, hx1⟩
      obtain ⟨b, ps, rfl, hb, hpl, hpr⟩ := hp3 x1 (List.mem_of_getElem? hx1)
      have hb4 := s4 _ _ hb
      have s04 := s1.trans (s2.trans (s3.trans s4))
      have RA4 := RA.del.same s04
      have WA4 := (WA.same (del_le a)).same s04
      have RA4' := RA4
      obtain ⟨dx, vm, vc, hx4, _⟩ := RA4'
      refine ⟨.ref x, rfl, x, dx, _, rfl, .str z, rfl, .ref b, rfl, hx4, ?_⟩
      refine call_right RA4 WO.rd (by omega) hzc ⟨b, rfl, .inr hb4⟩ hpl hpr fun G7 s7 => ?_
      refine ⟨.ref t, rfl, .str z, rfl, .ref b, rfl, .ref t, .ref b, D, z, ps, rfl, WA4.same s7, WO, (by omega), hzc, ⟨b, rfl, .inr (s7 _ _ hb4)⟩, hpl, fun G8 s8 => ⟨_, _, rfl, _, rfl, ?_⟩⟩
      rw [decide_eq_true rfl]
      exact iteF ⟨_, rfl, s4.trans (s7.trans s8)⟩
    · rintro σ G4 ⟨v7, rfl, s4⟩
      exact ⟨_, _, rfl, s2.trans (s3.trans s4)⟩
  · rintro σ G2 ⟨v6, v7, rfl, s2⟩
    have f := Fra.same hs (s1.trans s2)
    exact hq Dn G2 a x t D _ _ _ f.src (fra_rd f RA) (fra_w f WA) WO fun H' f' => q H' (f.trans f')
def sp_law_answers (K : PySem.W.Frag) : Sp := fun vs H Q _ => ∃ (a x : Addr) (v : V) (D : RdD), vs = [.ref x, v, .ref a] ∧ SrcAt H a ∧ RdAt K (del H a) x D ∧ WAt (del H a) v D ∧ WOk D ∧ ∀ H', Fra a H H' → Q (.bl true) H'
theorem ok_law_answers (T : Txt K mg) : Cal P w K mg base CX0 6 "_law_answers" ["_law_reader", "_law_world_here", "_law_source_here"] (sp_law_answers K) := by
  obtain ⟨fd, F⟩ := F__law_answers T
  refine cal_mk F (g__law_answers T) sc__law_answers (fun _ _ _ _ _ _ us hl => match us, hl with | [_, _, _], _ => rfl) (fun vs H Q E h => ?_) (fun cdv A outer s H vs Q E hr h => ?_)
  · obtain ⟨a, x, v, D, rfl, _⟩ := h; rfl
  · obtain ⟨tk, htl, hq⟩ := ans_rows (P := P) (w := w) (base := base) (cdv := cdv) (A := A) (outer := outer) (s := s) (H := H) (E := E) T hr
    refine ⟨_, PSs.nox (pss_cons (ps_par (i := 3) (j := 4) rfl sc__law_answers.nd rfl rfl (by decide) rfl rfl (pa_cons (pe_ix ix_tup (pv 1) pe_int (fun _ _ => rfl)) (pa_cons (pe_ix ix_tup (pv 1) pe_int (fun _ _ => rfl)) pa_nil)) (by rfl))
        (pss_cons (ps_set (i := 5) sc__law_answers.nd rfl (Or.inl rfl) (pe_ifExp (PW.pt (pw_and (pt_cmpR op_lt (pe_callB call_len (by rfl) (fr_len T) boot_len (pa_cons (pv 3) pa_nil)) pe_int (nomark _)) (pw_and1 (pt_cmpR op_lt (pe_callB call_len (by rfl) (fr_len T) boot_len (pa_cons (pv 4) pa_nil)) pe_int (nomark _))))) pe_int pe_int))
        htl)), ?_⟩
    obtain ⟨a, x, v, D, rfl, hs, RA, WA, WO, q⟩ := h
    have hn4 := WO.rd.ns4
    have hal8 := WO.rd.al8
    have WA' := WA
    obtain ⟨t, vm, vc, rfl, h1, h2, h3⟩ := WA'
    have h1' := del_le a _ _ h1
    refine ⟨.ref t, rfl, t, _, 0, _, rfl, rfl, SqT.of h1', rfl, .ref t, rfl, t, _, 1, _, rfl, rfl, SqT.of h1', rfl, _, _, rfl, ?_⟩
    have fin : ∀ m : Nat, m ≤ 3 → tk { nx := fun _ H' => Q .non H', rt := Q } [some (.ref x), some (.ref t), some (.ref a), some (.str D.al), some (.str D.ns), some (.int (m : Nat)), none, none, none, none, none, none] H := fun m hm =>
      hq _ H a x t D m hm hs RA WA WO q
    refine ⟨.str D.al, rfl, _, _, rfl, lenV_str (by omega), _, 3, rfl, rfl, _, rfl, ?_⟩
    by_cases c1 : ((D.al.length : Nat) : Int) < 3
    · rw [decide_eq_true c1]
      refine iteT ⟨.str D.ns, rfl, _, _, rfl, lenV_str (by omega), _, 3, rfl, rfl, _, rfl, ?_⟩
      by_cases c2 : ((D.ns.length : Nat) : Int) < 3
      · rw [decide_eq_true c2]
        exact iteT (fin 3 (by decide))
      · rw [decide_eq_false c2]
        exact iteF (fin 2 (by decide))
    · rw [decide_eq_false c1]
      exact iteF (iteF (fin 2 (by decide)))
end
end Kx
set_option Elab.async false
set_option linter.all false
set_option maxRecDepth 100000
set_option maxHeartbeats 4000000
namespace Kx
open PySem PySem.Spec PyProof.Rows L2
theorem rtl_nats {H : Hp} : ∀ r : List Nat, RtL H (r.map fun (k : Nat) => V.int (k : Nat)) (r.map fun k : Nat => PyData.int (k : Nat))
  | [] => .nil
  | k :: r => .cons (.int _) (rtl_nats r)
section
variable {P : Program} {w : World} {K : PySem.W.Frag} {mg : Str → Option Value} {base : Heap}
def sp_law_tuples : Sp := fun vs H Q _ => ∃ (vm : V) (mv : List (List Nat)), vs = [vm] ∧ Rp H vm (rowsD mv) ∧ mv.length ≤ 60 ∧ ∀ H' r, Same H H' → Rt H' r (encR mv) → Q r H'
theorem ok_law_tuples (T : Txt K mg) : Cal P w K mg base CX0 1 "_law_tuples" ["_law_moves"] sp_law_tuples := by
  obtain ⟨fd, F⟩ := F__law_tuples T
  refine cal_mk F (g__law_tuples T) sc__law_tuples (fun _ _ _ _ _ _ us hl => match us, hl with | [_], _ => rfl) (fun vs H Q E h => ?_) (fun cdv A outer s H vs Q E hr h => ?_)
  · obtain ⟨vm, mv, rfl, _⟩ := h; rfl
  · refine ⟨_, PSs.nox (pss_one (ps_ret (pe_callTy call_tuple_of (by rfl) (fr_tuple T) b_tuple (pa_cons (pe_lc (te := tCB (rTupO K) (tCons (tVar 1) tNil)) (own := [("_law_move", 1)]) (g := (gName 1)) (tt := tYes) rfl sc__law_tuples.nd  (pi_list (pv 0)) (blkOk_by (N := N__law_tuples) (sc := defScope s__law_tuples) (by decide +kernel)) (fun _ _ _ _ _ => (pg_name (i := 1) sc__law_tuples.nd rfl (Or.inl rfl))) (fun _ _ _ _ _ => pts_nil) (fun _ _ _ _ _ => by refine pe_callTy (r := rTupO K) ?_ (by rfl) (fr_tuple T) b_tuple (pa_cons (pv 1) pa_nil); exact call_tuple_of)) pa_nil)))), ?_⟩
    obtain ⟨vm, mv, rfl, hm, h60, q⟩ := h
    obtain ⟨ma, bs, rfl, hma, hbl, hbr⟩ := rp_list hm
    refine ⟨.ref ma, rfl, ma, rfl, ⟨_, SqL.of hma⟩, fun D hD => ?_⟩
    refine lc_new (walk_list (xs := bs)) hD (by rw [hbl]; exact Nat.le_trans h60 (by decide)) (fun (i : Nat) G v => ∀ m, mv[i]? = some m → Rt G v (encM m)) (fun i G3 G4 v t hv m hm => (hv m hm).tups t) (fun G3 s => SqL.of (s _ _ hma))
      (fun i x G3 G4 Qk hi sH hy hk => ?_) (fun G3 acc s4 hD4 hla hacc => ?_)
    · obtain ⟨rfl, hx⟩ := hy
      have hi' : i < mv.length := by rw [← hbl]; exact hi
      have hm := List.getElem?_eq_getElem hi'
      generalize mv[i] = m at hm
      obtain ⟨b, hb1, hb2⟩ := hbr i m hm
      rw [hx] at hb1
      cases hb1
      refine ⟨rfl, .ref b, rfl, b, _, rfl, .inl ⟨SqL.of (sH _ _ hb2), fun p hp => hk _ _ (same_upd hp) fun m' hm' => ?_⟩⟩
      rw [hm] at hm'
      cases hm'
      exact .tup upd_same (rtl_nats m)
    · refine ⟨D, acc, rfl, .inl ⟨SqL.of hD4, fun p hp => ?_⟩⟩
      have s6 := same_upd (o := .tup acc) hp
      refine q _ _ (s4.trans s6) (.tup upd_same (RtL.tups (Same.tups s6) (rtl_of ?_ fun i v x hv hx => ?_)))
      · rw [List.length_map, hla, hbl]
      · rw [List.getElem?_map] at hx
        obtain ⟨m, hm, rfl⟩ := Option.map_eq_some_iff.mp hx
        exact hacc i v hv m hm
def sp_law_has (K : PySem.W.Frag) : Sp := fun vs H Q _ => ∃ (x : Addr) (v : V) (D : RdD), vs = [.ref x, v] ∧ RdAt K H x D ∧ WAt H v D ∧ WOk D ∧ ∀ H', Same H H' → Q (.bl true) H'
theorem ok_law_has (T : Txt K mg) : Cal P w K mg base CX0 3 "_law_has" ["_law_reader", "_law_world_here"] (sp_law_has K) := by
  obtain ⟨fd, F⟩ := F__law_has T
  obtain ⟨fdL, FL⟩ := F_Reader___len__ T
  have bL : Binds K fdL ["self"] [] := FL.bindsN fun _ _ _ _ _ _ us hl => match us, hl with | [_], _ => rfl
  refine cal_mk F (g__law_has T) sc__law_has (fun _ _ _ _ _ _ us hl => match us, hl with | [_, _], _ => rfl) (fun vs H Q E h => ?_) (fun cdv A outer s H vs Q E hr h => ?_)
  · obtain ⟨x, v, D, rfl, _⟩ := h; rfl
  · refine ⟨_, PSs.nox (pss_cons (ps_asg (pv 1) (pg_tup rfl (pgs_cons (pg_name (i := 2) sc__law_has.nd rfl (Or.inl rfl)) (pgs_cons (pg_name (i := 3) sc__law_has.nd rfl (Or.inl rfl)) (pgs_cons (pg_name (i := 4) sc__law_has.nd rfl (Or.inl rfl)) (pgs_cons (pg_name (i := 5) sc__law_has.nd rfl (Or.inl rfl)) pgs_nil))))))
        (pss_cons (ps_if (PW.pt (pw_or (pt_cmpR op_ne (pe_fld (pv 0) rfl) (pv 2) (nomark _)) (pw_or (pt_cmpR op_ne (pe_fld (pv 0) rfl) (pv 3) (nomark _)) (pw_or1 (pt_cmpR op_ne (pe_callB (call_lenO (C := He.ga K "Reader") (E := E0) (ok_Reader_len T FL) (hr.mono (by decide)) (meth___len__ T).at_ (meth___len__ T).fn bL pass0) (by rfl) (fr_len T) boot_len (pa_cons (pv 0) pa_nil)) (pe_callB call_len (by rfl) (fr_len T) boot_len (pa_cons (pv 4) pa_nil)) (nomark _)))))) (pss_one (ps_ret pe_bl)) pss_nil)
        (pss_cons (ps_if (PW.pt (pw_or (pt_not (pt_val (pe_callB call_isB (by rfl) (fr_isinstance T) b_isinstance (pa_cons (pe_fld (pv 0) rfl) (pa_cons (pe_ty (fr_tuple T) b_tuple) pa_nil))))) (pw_or1 (pt_not (pt_val (pe_callB call_isB (by rfl) (fr_isinstance T) b_isinstance (pa_cons (pe_fld (pv 0) rfl) (pa_cons (pe_ty (fr_tuple T) b_tuple) pa_nil)))))))) (pss_one (ps_ret pe_bl)) pss_nil)
        (pss_one (ps_ret (pe_and (pe_cmpR (op_eqD (hu64 hr)) (pe_fld (pv 0) rfl) (pe_cal (ok_law_tuples T) (hr.mono (by decide)) pass0 (pa_cons (pv 4) pa_nil)) (nomark _)) (pe_one (pe_cmpR (op_eqD (hu64 hr)) (pe_fld (pv 0) rfl) (pe_callTy call_tuple_of (by rfl) (fr_tuple T) b_tuple (pa_cons (pv 5) pa_nil)) (nomark _))))))))), ?_⟩
    obtain ⟨x, v, D, rfl, RA, WA, WO, q⟩ := h
    have C := cls_Reader T
    obtain ⟨t, vm, vc, rfl, h1, h2, h3⟩ := WA
    have RA' := RA
    obtain ⟨dx, rm, rc, x1, x2, x3, x4⟩ := RA
    obtain ⟨ma, bs, rfl, hma, hbl, hbr⟩ := rp_list h2
    obtain ⟨ca, rfl, hca⟩ := rp_row h3
    have h60 := WO.mv.le
    refine ⟨.ref t, rfl, t, _, rfl, SqT.of h1, rfl, _, _, rfl, _, _, rfl, _, _, rfl, _, _, rfl, rfl, ?_⟩
    refine ⟨.ref x, rfl, x, _, dx, _, _, rfl, x1, C, noat_alphabet T, rfl, _, rfl, rfl, _, rfl, ?_⟩
    rw [decide_eq_true rfl]
    refine iteF ⟨.ref x, rfl, x, _, dx, _, _, rfl, x1, C, noat_names T, rfl, _, rfl, rfl, _, rfl, ?_⟩
    rw [decide_eq_true rfl]
    refine iteF ⟨.ref x, rfl, x, dx, _, rfl, x1, ⟨x, D, rfl, RA', by omega, D.mv.length, rfl, by omega, .ref ma, rfl, _, _, rfl, .inl ⟨_, SqL.of hma, rfl⟩, rfl, _, rfl, ?_⟩⟩
    rw [hbl, decide_eq_true rfl]
    refine iteF ?_
    obtain ⟨ea, rfl, hea⟩ : ∃ ea, rm = .ref ea ∧ ∃ xs, H ea = some (.tup xs) := by
      have x3' := x3
      unfold encR at x3'
      cases x3' with
      | tup e1 _ => exact ⟨_, rfl, _, e1⟩
    obtain ⟨exs, hea⟩ := hea
    obtain ⟨ec, rfl, hec⟩ := enc_nats x4
    refine ⟨.ref x, rfl, x, _, dx, _, _, rfl, x1, C, noat_moves T, rfl, .ref ea, "tuple", .tup, rfl, .base (.tup hea), k_tuple _, _, rfl, iteF ⟨.ref x, rfl, x, _, dx, _, _, rfl, x1, C, noat_accepted T, rfl, .ref ec, "tuple", .tup, rfl, .base (.tup hec), k_tuple _, _, rfl, iteF ?_⟩⟩
    refine ⟨.ref x, rfl, x, _, dx, _, _, rfl, x1, C, noat_moves T, rfl, .ref ma, rfl, .ref ma, D.mv, rfl, h2, h60, fun H1 r1 s1 hr1 => ⟨_, _, (x3.tups (Same.tups s1)).dp, hr1.dp, shaped_of (encR_pure _) (Nat.le_trans (encR_depth _) (by decide)), shaped_of (encR_pure _) (Nat.le_trans (encR_depth _) (by decide)), _, rfl, ?_⟩⟩
    rw [(eqv_pure (encR_pure _) (encR_pure _)).mpr rfl]
    refine iteT ⟨.ref x, rfl, x, _, dx, _, _, rfl, s1 _ _ x1, C, noat_accepted T, rfl, .ref ca, rfl, ca, _, rfl, .inl ⟨SqL.of (s1 _ _ hca), fun p hp => ?_⟩⟩
    have s2 := same_upd (o := .tup (D.ac.map fun (k : Nat) => V.int (k : Nat))) hp
    have e2 : Rt (upd H1 p (.tup (D.ac.map fun (k : Nat) => V.int (k : Nat)))) (.ref p) (encM D.ac) := .tup upd_same (rtl_nats _)
    refine ⟨_, _, ((x4.tups (Same.tups s1)).tups (Same.tups s2)).dp, e2.dp, shaped_of (encM_pure _) (Nat.le_trans (encM_depth _) (by decide)), shaped_of (encM_pure _) (Nat.le_trans (encM_depth _) (by decide)), ?_⟩
    rw [(eqv_pure (encM_pure _) (encM_pure _)).mpr rfl]
    exact q _ (s1.trans s2)
end
end Kx
set_option Elab.async false
set_option linter.all false
set_option maxRecDepth 100000
set_option maxHeartbeats 4000000
namespace Kx
open PySem PySem.Spec PyProof.Rows L2
/-! ### what is left out of sight -/
def dl (L : List Addr) (H : Hp) : Hp := fun b => if b ∈ L then none else H b
theorem dl_at {L : List Addr} {H : Hp} {p : Addr} {o : HO} (h : p ∉ L) (e : H p = some o) : dl L H p = some o := by unfold dl; rw [if_neg h]; exact e
theorem dl_get {L : List Addr} {H : Hp} {p : Addr} {o : HO} (e : dl L H p = some o) : p ∉ L ∧ H p = some o := by
  unfold dl at e
  by_cases h : p ∈ L
  · rw [if_pos h] at e; cases e
  · rw [if_neg h] at e; exact ⟨h, e⟩
theorem dl_le (L : List Addr) (H : Hp) : Same (dl L H) H := fun b o e => (dl_get e).2
theorem dl_same {L : List Addr} {H H' : Hp} (s : Same H H') : Same (dl L H) (dl L H') := fun b o e => by
  obtain ⟨h1, h2⟩ := dl_get e
  exact dl_at h1 (s _ _ h2)
theorem dl_fra {L : List Addr} {a : Addr} {H H' : Hp} (ha : a ∈ L) (f : Fra a H H') : Same (dl L H) (dl L H') := fun b o e => by
  obtain ⟨h1, h2⟩ := dl_get e
  have hb : b ≠ a := fun z => h1 (z ▸ ha)
  exact dl_at h1 (f.up b o (by rw [del_ne hb]; exact h2))
theorem dl_del {L : List Addr} {a : Addr} {H : Hp} (ha : a ∈ L) : Same (dl L H) (del H a) := fun b o e => by
  obtain ⟨h1, h2⟩ := dl_get e
  have hb : b ≠ a := fun z => h1 (z ▸ ha)
  rw [del_ne hb]
  exact h2
theorem src_some {H : Hp} {a : Addr} (h : SrcAt H a) : H a ≠ none := fun z => by
  obtain ⟨A, S, C, e⟩ := h
  rw [e] at z
  cases z
/-- all that is left out stands there -/
def Out (L : List Addr) (H : Hp) : Prop := ∀ b ∈ L, H b ≠ none
theorem Out.ne {L : List Addr} {H : Hp} {p : Addr} (h : Out L H) (hp : H p = none) : p ∉ L := fun z => h p z hp
theorem Out.fra {L : List Addr} {a : Addr} {H H' : Hp} (h : Out L H) (f : Fra a H H') : Out L H' := fun b hb e => by
  by_cases hba : b = a
  · subst hba
    exact src_some f.src e
  · exact h b hb (f.none hba e)
theorem alph_other : ∀ z ∈ menuB, z.length < 5 → alphaL (cutS "efgh" none (some ((z.length : Nat) : Int))).cps.toList = true ∧ (cutS "efgh" none (some ((z.length : Nat) : Int))).length = z.length ∧ cutS "efgh" none (some ((z.length : Nat) : Int)) ≠ z := by decide +kernel
def otherN (z : Str) : Str := if z = "w" then "u" else (["w", "vz", "uwz", "uxyz"] : List Str).getD (z.length - 1) ""
theorem names_other : ∀ z ∈ menuN, 0 < z.length → namesD (.str (otherN z)) = true ∧ (otherN z).length = z.length ∧ otherN z ≠ z := by decide +kernel
theorem names_at : ∀ z ∈ menuN, 0 < z.length → z ≠ "w" → (["w", "vz", "uwz", "uxyz"] : List Str)[z.length - 1]? = some (otherN z) := by decide +kernel
theorem lt_of_le_nd {l : List Nat} (h : l.Pairwise (· ≤ ·)) (d : l.Nodup) : l.Pairwise (· < ·) := by
  induction l with
  | nil => exact .nil
  | cons x l ih =>
    obtain ⟨h1, h2⟩ := List.pairwise_cons.mp h
    obtain ⟨d1, d2⟩ := List.nodup_cons.mp d
    refine List.pairwise_cons.mpr ⟨fun y hy => ?_, ih h2 d2⟩
    have a := h1 y hy
    have b : x ≠ y := fun z => d1 (z ▸ hy)
    omega
theorem tab_set {t : Tab} {l p k v : Nat} (h : TabOk t l) {m : List Nat} (hp : t[p]? = some m) (hv : v < t.length) : TabOk (t.set p (m.set k v)) l := by
  have hm : m ∈ t := List.mem_of_getElem? hp
  refine ⟨by rw [List.length_set]; exact h.pos, by rw [List.length_set]; exact h.le, fun r hr => ?_, fun r hr x hx => ?_⟩
  · rcases List.mem_or_eq_of_mem_set hr with hr | rfl
    · exact h.row r hr
    · rw [List.length_set]; exact h.row m hm
  · rw [List.length_set]
    rcases List.mem_or_eq_of_mem_set hr with hr | rfl
    · exact h.lt r hr x hx
    · rcases List.mem_or_eq_of_mem_set hx with hx | rfl
      · exact h.lt m hm x hx
      · exact hv
end Kx
set_option Elab.async false
set_option linter.all false
set_option maxRecDepth 100000
set_option maxHeartbeats 4000000
namespace Kx
open PySem PySem.Spec PyProof.Rows L2
/-- list(x) of a list or a tuple, by name -/
def rLstO (K : PySem.W.Frag) : List V → Hp → VK → Prop := fun xs H Q => ∃ p ys, xs = [.ref p] ∧ (SqL K H p ys ∨ SqT K H p ys) ∧ ∀ l, H l = none → Q (.ref l) (upd H l (.lst ys))
/-- a list of lists, at its addresses -/
def LLAt (H : Hp) (c : Addr) (bs : List Addr) (mv : List (List Nat)) : Prop := H c = some (.lst (bs.map V.ref)) ∧ bs.length = mv.length ∧ bs.Nodup ∧ c ∉ bs ∧ ∀ (i : Nat) b m, bs[i]? = some b → mv[i]? = some m → H b = some (.lst (m.map fun (k : Nat) => V.int (k : Nat)))
theorem LLAt.same {H H' : Hp} {c : Addr} {bs : List Addr} {mv : List (List Nat)} (s : Same H H') (h : LLAt H c bs mv) : LLAt H' c bs mv := ⟨s _ _ h.1, h.2.1, h.2.2.1, h.2.2.2.1, fun i b m hb hm => s _ _ (h.2.2.2.2 i b m hb hm)⟩
theorem LLAt.rp {H : Hp} {c : Addr} {bs : List Addr} {mv : List (List Nat)} (h : LLAt H c bs mv) : Rp H (.ref c) (rowsD mv) := by
  refine .lst h.1 (rpl_of (by rw [List.length_map, List.length_map, h.2.1]) fun i v d hv hd => ?_)
  rw [List.getElem?_map] at hv hd
  obtain ⟨b, hb, rfl⟩ := Option.map_eq_some_iff.mp hv
  obtain ⟨m, hm, rfl⟩ := Option.map_eq_some_iff.mp hd
  exact .lst (h.2.2.2.2 i b m hb hm) (rpL_nats m)
/-- a list's item is put anew -/
theorem LLAt.put {H : Hp} {c b : Addr} {bs : List Addr} {mv : List (List Nat)} {p k v : Nat} {m : List Nat} (h : LLAt H c bs mv) (hb : bs[p]? = some b) (hm : mv[p]? = some m) : LLAt (upd H b (.lst ((m.set k v).map fun (k : Nat) => V.int (k : Nat)))) c bs (mv.set p (m.set k v)) := by
  obtain ⟨h1, h2, h3, h4, h5⟩ := h
  have hbc : c ≠ b := fun z => h4 (z ▸ List.mem_of_getElem? hb)
  refine ⟨by rw [upd_ne hbc]; exact h1, by rw [List.length_set]; exact h2, h3, h4, fun i b' m' hb' hm' => ?_⟩
  by_cases hip : i = p
  · subst hip
    rw [hb] at hb'
    cases hb'
    have hlt := (List.getElem?_eq_some_iff.mp hm).1
    rw [List.getElem?_set_self hlt] at hm'
    cases hm'
    exact upd_same
  · rw [List.getElem?_set_ne (Ne.symm hip)] at hm'
    have hbb : b' ≠ b := fun z => by
      subst z
      have hi1 := (List.getElem?_eq_some_iff.mp hb').1
      have hj1 := (List.getElem?_eq_some_iff.mp hb).1
      refine hip ((List.getElem_inj (h₀ := hi1) (h₁ := hj1) h3).mp ?_)
      rw [List.getElem?_eq_getElem hi1] at hb'
      rw [List.getElem?_eq_getElem hj1] at hb
      exact (Option.some.inj hb').trans (Option.some.inj hb).symm
    rw [upd_ne hbb]
    exact h5 i b' m' hb' hm'
theorem nats_set (m : List Nat) (k v : Nat) : (m.map fun (k : Nat) => V.int (k : Nat)).set k (.int (v : Nat)) = (m.set k v).map fun (k : Nat) => V.int (k : Nat) := by
  rw [List.map_set]
/-- [list(m) for m in moves]: lists laid anew -/
theorem ll_comp {K : PySem.W.Frag} {σ : L2.St} {iS iM : Nat} {ma : Addr} {mv : List (List Nat)} {G : Hp} {Q : VK} (hi : σ[iS]? = some (some (.ref ma))) (hsz : iM < σ.length) (hne : iM ≠ iS) (hm : Rp G (.ref ma) (rowsD mv)) (hl : mv.length ≤ 100)
    (q : ∀ c bs G', Same G G' → G c = none → (∀ b ∈ bs, G b = none) → LLAt G' c bs mv → Q (.ref c) G') :
    tLc (iList K (tVar iS)) (gName iM) tYes (tCB (rLstO K) (tCons (tVar iM) tNil)) [iM] σ G Q := by
  obtain ⟨ma', bs0, e, hma, hbl, hbr⟩ := rp_list hm
  cases e
  refine ⟨_, hi, ma, rfl, ⟨_, SqL.of hma⟩, fun D hD => ?_⟩
  refine lc_it (walk_list (xs := bs0)) (tt := tYes) (fun i H2 => ∃ bs : List Addr, H2 D = some (.lst (bs.map V.ref)) ∧ bs.length = i ∧ bs.Nodup ∧ D ∉ bs ∧ (∀ b ∈ bs, G b = none) ∧ (∀ (j : Nat) b m, bs[j]? = some b → mv[j]? = some m → H2 b = some (.lst (m.map fun (k : Nat) => V.int (k : Nat)))) ∧ Same G H2)
    ⟨[], upd_same, rfl, .nil, List.not_mem_nil, fun b hb => (by cases hb), fun j b m hb => (by simp at hb), same_upd hD⟩ (fun i H2 _ ⟨_, _, _, _, _, _, _, s⟩ => SqL.of (s _ _ hma)) ?_ ?_
  · rintro i x H2 H3 hi2 ⟨bs, hb1, hb2, hb3, hb4, hb5, hb6, s2⟩ ⟨rfl, hx⟩
    have hi' : i < mv.length := by rw [← hbl]; exact hi2
    have hm0 := List.getElem?_eq_getElem hi'
    generalize mv[i] = m at hm0
    obtain ⟨b0, hb01, hb02⟩ := hbr i m hm0
    rw [hx] at hb01
    cases hb01
    refine ⟨?_, .ref b0, ?_, b0, _, rfl, .inl (SqL.of (s2 _ _ hb02)), fun l hl2 => ?_⟩
    · show ((σ.set iM none).set iM (some (.ref b0))).set iM none = σ.set iM none
      rw [List.set_set, List.set_set]
    · show ((σ.set iM none).set iM (some (.ref b0)))[iM]? = some (some (.ref b0))
      rw [List.getElem?_set_self (by rw [List.length_set]; exact hsz)]
    have hlD : l ≠ D := fun z => by rw [z, hb1] at hl2; cases hl2
    have hlb : l ∉ bs := fun z => by
      obtain ⟨j, hj⟩ := mem_get z
      have hjm : j < mv.length := by
        have := (List.getElem?_eq_some_iff.mp hj).1
        omega
      rw [hb6 j l _ hj (List.getElem?_eq_getElem hjm)] at hl2
      cases hl2
    have sl := same_upd (o := .lst (m.map fun (k : Nat) => V.int (k : Nat))) hl2
    refine ⟨bs.map V.ref, sl _ _ hb1, ?_, bs ++ [l], ?_, ?_, ?_, ?_, ?_, ?_, same_over (s2.trans sl) hD⟩
    · rw [List.length_map, hb2]
      exact Nat.lt_of_lt_of_le (by omega : i < 101) (by decide)
    · rw [upd_same, List.map_append]
      rfl
    · rw [List.length_append, hb2]
      rfl
    · rw [List.nodup_append]
      refine ⟨hb3, List.pairwise_singleton _ _, fun x hx y hy e => ?_⟩
      rw [List.mem_singleton.mp hy] at e
      exact hlb (e ▸ hx)
    · intro z
      rcases List.mem_append.mp z with z | z
      · exact hb4 z
      · exact hlD (List.mem_singleton.mp z).symm
    · intro b hb
      rcases List.mem_append.mp hb with hb | hb
      · exact hb5 b hb
      · rw [List.mem_singleton.mp hb]
        exact none_of s2 hl2
    · intro j b m' hb hm'
      by_cases hj : j < bs.length
      · rw [List.getElem?_append_left hj] at hb
        have hbD : b ≠ D := fun z => hb4 (z ▸ List.mem_of_getElem? hb)
        rw [upd_ne hbD]
        exact sl _ _ (hb6 j b m' hb hm')
      · rw [List.getElem?_append_right (by omega)] at hb
        have hj0 : j - bs.length = 0 := by
          have := (List.getElem?_eq_some_iff.mp hb).1
          simp at this
          omega
        rw [hj0] at hb
        cases hb
        have : j = i := by omega
        subst this
        rw [hm0] at hm'
        cases hm'
        rw [upd_ne hlD]
        exact upd_same
  · rintro H2 ⟨bs, hb1, hb2, hb3, hb4, hb5, hb6, s2⟩
    exact q D bs H2 s2 hD hb5 ⟨hb1, by rw [hb2, hbl], hb3, hb4, hb6⟩
end Kx
set_option Elab.async false
set_option linter.all false
set_option maxRecDepth 100000
set_option maxHeartbeats 4000000
namespace Kx
open PySem PySem.Spec PyProof.Rows L2
section
variable {P : Program} {w : World} {K : PySem.W.Frag} {mg : Str → Option Value} {base : Heap}
def sp_law_other_world : Sp := fun vs H Q _ => ∃ (a : Addr) (L : List Addr) (v : V) (D : RdD), vs = [.ref a, v] ∧ SrcAt H a ∧ a ∈ L ∧ Out L H ∧ WAt (dl L H) v D ∧ WOk D ∧ D.al ∈ menuB ∧ D.ns ∈ menuN ∧
  ∀ H' v' D', Fra a H H' → WAt (dl L H') v' D' → WOk D' → D' ≠ D → Q v' H'
/-- the tuple at the end -/
theorem world_tup {L : List Addr} {a : Addr} {H0 H : Hp} {al ns : Str} {vm vc : V} {mv : Tab} {ac : List Nat} {Q : VK} (ha : a ∈ L) (ho : Out L H) (f : Fra a H0 H) (hm : Rp (dl L H) vm (rowsD mv)) (hc : Rp (dl L H) vc (rowD ac))
    (q : ∀ H' v', Fra a H0 H' → WAt (dl L H') v' ⟨al, ns, mv, ac⟩ → Q v' H') : 4 ≤ sizeLine ∧ ∀ t, H t = none → Q (.ref t) (upd H t (.tup [.str al, .str ns, vm, vc])) := by
  refine ⟨by decide, fun t ht => ?_⟩
  have s := same_upd (o := .tup [.str al, .str ns, vm, vc]) ht
  exact q _ _ (f.trans (Fra.same f.src s)) ⟨t, vm, vc, rfl, dl_at (ho.ne ht) upd_same, hm.same (dl_same s), hc.same (dl_same s)⟩
theorem world_get {L : List Addr} {H : Hp} {D : RdD} {t : Addr} {vm vc : V} (h2 : Rp (dl L H) vm (rowsD D.mv)) (h3 : Rp (dl L H) vc (rowD D.ac)) : True := trivial
theorem ow_tail (T : Txt K mg) {cdv : Value} {A : Around} {outer : List Env} {s : Shared} {H : Hp} {E : XK} (hr : Room 2 (A.deeper (envOfC "_law_other_world" (defScope s__law_other_world) s.heap.objs.size (He.ga K "_law_other_world") cdv))) :
    ∃ tk : TS, PSs (cxOf CX0 P w K mg base N__law_other_world "_law_other_world" (defScope s__law_other_world) (He.ga K "_law_other_world") cdv A outer s H E).nox ((defBody s__law_other_world).drop 5) tk ∧
      ∀ (Dn : Ends) (G : Hp) (a t : Addr) (L : List Addr) (al ns : Str) (mv : Tab) (ac : List Nat) (vm vc : V) (w6 : Option V), SrcAt G a → a ∈ L → Out L G → Rp (dl L G) vm (rowsD mv) → Rp (dl L G) vc (rowD ac) → WOk ⟨al, ns, mv, ac⟩ →
        (∀ H' v' D', Fra a G H' → WAt (dl L H') v' D' → WOk D' → D' ≠ ⟨al, ns, mv, ac⟩ → Dn.rt v' H') →
        tk Dn [some (.ref a), some (.ref t), some (.str al), some (.str ns), some vm, some vc, w6, none, none, none, none, none] G := by
  refine ⟨_, (pss_cons (ps_set (i := 8) sc__law_other_world.nd rfl (Or.inr rfl) (pe_cal (ok_law_pick T) (hr.mono (by decide)) pass0 (pa_cons (pv 0) (pa_cons (pe_callB call_len (by rfl) (fr_len T) boot_len (pa_cons (pv 4) pa_nil)) pa_nil))))
        (pss_cons (ps_if (pt_cmpR op_in_seq (pv 8) (pv 5) rfl) (pss_one (ps_ret (pe_tup (pa_cons (pv 2) (pa_cons (pv 3) (pa_cons (pv 4) (pa_cons (pe_lc (own := [("_law_one", 11)]) (g := (gName 11)) (tt := tTest (tOp rNe (tVar 11) (tVar 8))) rfl sc__law_other_world.nd  (pi_list (pv 5)) (blkOk_by (N := N__law_other_world) (sc := defScope s__law_other_world) (by decide +kernel)) (fun _ _ _ _ _ => (pg_name (i := 11) sc__law_other_world.nd rfl (Or.inl rfl))) (fun _ _ _ _ _ => (pts_one (pt_cmpR op_ne (pv 11) (pv 8) (nomark _)))) (fun _ _ _ _ _ => (pv 11))) pa_nil))))))) pss_nil)
        (pss_one (ps_ret (pe_tup (pa_cons (pv 2) (pa_cons (pv 3) (pa_cons (pv 4) (pa_cons (pe_callB cr_sortedI (by rfl) (fr_sorted T) b_sorted (pa_cons (pe_op op_cat (pv 5) (pe_lst (pa_cons (pv 8) pa_nil))) pa_nil)) pa_nil))))))))), ?_⟩
  intro Dn G a t L al ns mv ac vm vc w6 hs ha hout h2 h3 WO q
  have h60 : mv.length ≤ 60 := WO.mv.le
  have h1m : 1 ≤ mv.length := WO.mv.pos
  obtain ⟨ma, bs0, rfl, hma, hbl, hbr⟩ := rp_list h2
  obtain ⟨ca, rfl, hca⟩ := rp_row h3
  have hma0 := dl_le L G _ _ hma
  refine ⟨.ref a, rfl, .ref ma, rfl, _, _, rfl, .inl ⟨_, SqL.of hma0, rfl⟩, ?_⟩
  refine ⟨_, _, rfl, (by omega), (by omega), hs, fun qA qS qC d hd0 hd1 => ?_⟩
  have f1 : Fra a G (upd G a (three qA qS qC)) := Fra.drawn qA qS qC
  revert f1
  generalize upd G a (three qA qS qC) = G1
  intro f1
  have o1 := hout.fra f1
  have sd := dl_fra ha f1
  obtain ⟨p, rfl⟩ := Int.eq_ofNat_of_zero_le hd0
  have hp : p < mv.length := by omega
  have hca1 := dl_le L G1 _ _ (sd _ _ hca)
  refine ⟨.int (p : Nat), rfl, .ref ca, rfl, ca, _, rfl, .inl (SqL.of hca1), rfl, flat_nats _, _, rfl, ?_⟩
  rw [if_neg Bool.false_ne_true, inV_nats]
  have hacl : ac.length ≤ 60 := by
    have key : ∀ (l : List Nat) (n : Nat), l.Pairwise (· < ·) → (∀ k ∈ l, k < n) → l.length ≤ n := by
      intro l n h1 h2
      have h3 := (h1.imp fun h => Nat.ne_of_lt h : l.Nodup)
      have h4 := nat_nodup_len l (List.range n) h3 fun x hx => List.mem_range.mpr (h2 x hx)
      rwa [List.length_range] at h4
    exact Nat.le_trans (key ac mv.length WO.asc WO.ac) h60
  by_cases hm : p ∈ ac
  · rw [decide_eq_true hm]
    refine iteT ⟨_, rfl, _, rfl, _, rfl, .ref ca, rfl, ca, rfl, ⟨_, SqL.of hca1⟩, fun DD hD => ?_⟩
    refine lc_it (walk_list (xs := ac.map fun (k : Nat) => V.int (k : Nat))) (tt := tTest (tOp rNe (tVar 11) (tVar 8))) (fun i G2 => G2 DD = some (.lst (((ac.take i).filter fun k => decide (k ≠ p)).map fun (k : Nat) => V.int (k : Nat))) ∧ Same G1 G2)
      ⟨upd_same, same_upd hD⟩ (fun i G2 _ ⟨_, s⟩ => SqL.of (s _ _ hca1)) ?_ ?_
    · rintro i x G2 G3 hi ⟨hDD, s2⟩ ⟨rfl, hx⟩
      rw [List.getElem?_map] at hx
      obtain ⟨k, hk, rfl⟩ := Option.map_eq_some_iff.mp hx
      have hft := filter_take (p := fun k : Nat => decide (k ≠ p)) hk
      refine ⟨rfl, .int (k : Nat), rfl, .int (p : Nat), rfl, rfl, _, rfl, ?_⟩
      rw [dec_int]
      by_cases hkp : k = p
      · rw [decide_eq_true (by omega)]
        rw [if_neg (by simpa using hkp), List.append_nil] at hft
        refine iteF ⟨?_, s2⟩
        rw [hft]
        exact hDD
      · rw [decide_eq_false (by omega)]
        rw [if_pos (by simpa using hkp)] at hft
        refine iteT ⟨_, rfl, _, hDD, ?_, ?_, same_over s2 hD⟩
        · rw [List.length_map]
          refine Nat.lt_of_le_of_lt (List.length_filter_le _ _) ?_
          rw [List.length_take]
          exact Nat.lt_of_le_of_lt (by omega : min i ac.length ≤ 60) (by decide)
        · rw [upd_same, hft, List.map_append]
          rfl
    · rintro G2 ⟨hDD, s2⟩
      rw [List.length_map, List.take_length] at hDD
      have f2 := f1.trans (Fra.same f1.src s2)
      have nD : DD ∉ L := o1.ne hD
      refine world_tup ha (hout.fra f2) f2 (h2.same (dl_fra ha f2)) (.lst (dl_at nD hDD) (rpL_nats _)) fun H' v' f' WA' => q H' v' _ f' WA' ⟨WO.al, WO.ns, WO.mv, WO.asc.filter _, fun k hk => WO.ac k (List.mem_filter.mp hk).1⟩ fun e => ?_
      injection e with _ _ _ e
      have h := hm
      rw [← e] at h
      have := (List.mem_filter.mp h).2
      simp at this
  · rw [decide_eq_false hm]
    refine iteF ⟨_, rfl, _, rfl, _, rfl, .ref ca, rfl, .int (p : Nat), rfl, (by show 1 ≤ sizeLine; decide), fun u hu => ⟨ca, u, _, _, rfl, rfl, same_upd hu _ _ hca1, upd_same, ?_, fun r hr => ?_⟩⟩
    · rw [List.length_map]
      exact Nat.le_trans (by show ac.length + 1 ≤ 100; omega) (by decide)
    have s2 := (same_upd (o := .lst [.int (p : Nat)]) hu).trans (same_upd (o := .lst ((ac.map fun (k : Nat) => V.int (k : Nat)) ++ [.int (p : Nat)])) hr)
    have e2 : upd (upd G1 u (.lst [.int (p : Nat)])) r (.lst ((ac.map fun (k : Nat) => V.int (k : Nat)) ++ [.int (p : Nat)])) r = some (.lst (((ac ++ [p]).map fun (k : Nat) => (k : Int)).map V.int)) := by
      rw [upd_same, List.map_map, List.map_append]
      rfl
    refine ⟨r, (ac ++ [p]).map fun (k : Nat) => (k : Int), rfl, SqL.of e2, fun ns' r' hperm hasc hr' => ?_⟩
    obtain ⟨ac', rfl, hperm'⟩ : ∃ ac' : List Nat, ns' = ac'.map (fun (k : Nat) => (k : Int)) ∧ ac'.Perm (ac ++ [p]) := by
      refine ⟨ns'.map Int.toNat, ?_, ?_⟩
      · rw [List.map_map]
        have : ∀ z ∈ ns', ((fun (k : Nat) => (k : Int)) ∘ Int.toNat) z = z := fun z hz => by
          obtain ⟨k, _, rfl⟩ := List.mem_map.mp (hperm.mem_iff.mp hz)
          simp
        exact (List.map_congr_left this).trans (List.map_id _) |>.symm
      · have h := hperm.map Int.toNat
        rw [List.map_map] at h
        have : (ac ++ [p]).map (Int.toNat ∘ fun (k : Nat) => (k : Int)) = ac ++ [p] := by
          have : (Int.toNat ∘ fun (k : Nat) => (k : Int)) = id := by funext k; simp
          rw [this, List.map_id]
        rwa [this] at h
    have hnd : (ac ++ [p]).Nodup := by
      rw [List.nodup_append]
      refine ⟨WO.asc.imp fun h => Nat.ne_of_lt h, List.pairwise_singleton _ _, fun x hx y hy e => ?_⟩
      rw [List.mem_singleton.mp hy] at e
      exact hm (e ▸ hx)
    have hasc' : ac'.Pairwise (· < ·) := by
      refine lt_of_le_nd ?_ (hperm'.nodup_iff.mpr hnd)
      have h := List.pairwise_map.mp hasc
      exact h.imp fun h => by omega
    have s3 := s2.trans (same_upd (o := .lst ((ac'.map fun (k : Nat) => (k : Int)).map V.int)) hr')
    have f3 := f1.trans (Fra.same f1.src s3)
    have e3 : upd (upd (upd G1 u (.lst [.int (p : Nat)])) r (.lst ((ac.map fun (k : Nat) => V.int (k : Nat)) ++ [.int (p : Nat)]))) r' (.lst ((ac'.map fun (k : Nat) => (k : Int)).map V.int)) r' = some (.lst (ac'.map fun (k : Nat) => V.int (k : Nat))) := by
      rw [upd_same, List.map_map]
      rfl
    have o3 := hout.fra f3
    have hr1 : G1 r' = none := none_of s2 hr'
    have nr : r' ∉ L := o1.ne hr1
    refine world_tup ha o3 f3 (h2.same (dl_fra ha f3)) (.lst (dl_at nr e3) (rpL_nats ac')) fun H' v' f' WA' => q H' v' _ f' WA' ⟨WO.al, WO.ns, WO.mv, hasc', fun k hk => ?_⟩ fun e => ?_
    · rcases List.mem_append.mp (hperm'.mem_iff.mp hk) with h | h
      · exact WO.ac k h
      · rw [List.mem_singleton.mp h]
        exact hp
    · injection e with _ _ _ e
      subst e
      exact hm (hperm'.mem_iff.mpr (List.mem_append_right _ (List.mem_singleton.mpr rfl)))
theorem seq_asg {te : TE} {g : TG} {u : TS} {D : Ends} {σ : L2.St} {H : Hp} (h : te σ H (fun x H1 => g x σ H1 (u D))) : tSeq (tAsg te g) u D σ H := h
theorem LLAt.dl {L : List Addr} {H : Hp} {c : Addr} {bs : List Addr} {mv : List (List Nat)} (h : LLAt H c bs mv) (hc : c ∉ L) (hb : ∀ b ∈ bs, b ∉ L) : LLAt (dl L H) c bs mv :=
  ⟨dl_at hc h.1, h.2.1, h.2.2.1, h.2.2.2.1, fun i b m h1 h2 => dl_at (hb b (List.mem_of_getElem? h1)) (h.2.2.2.2 i b m h1 h2)⟩
theorem dl_upd {L : List Addr} {H : Hp} {b : Addr} {o : HO} (h : b ∉ L) : dl L (upd H b o) = upd (dl L H) b o := by
  funext x
  by_cases hx : x = b
  · subst hx
    rw [upd_same]
    exact dl_at h upd_same
  · rw [upd_ne hx]
    unfold dl
    rw [upd_ne hx]
theorem set_ne {mv : Tab} {p k v : Nat} {m : List Nat} (hm : mv[p]? = some m) {x : Nat} (hk : m[k]? = some x) (hv : v ≠ x) : mv.set p (m.set k v) ≠ mv := fun e => by
  have h1 : (mv.set p (m.set k v))[p]? = some m := by rw [e]; exact hm
  rw [List.getElem?_set_self (List.getElem?_eq_some_iff.mp hm).1] at h1
  have h2 := Option.some.inj h1
  have h3 : (m.set k v)[k]? = some x := by rw [h2]; exact hk
  rw [List.getElem?_set_self (List.getElem?_eq_some_iff.mp hk).1] at h3
  exact hv (Option.some.inj h3)
theorem ok_law_other_world (T : Txt K mg) : Cal P w K mg base CX0 3 "_law_other_world" ["_law_source_here", "_law_world_here"] sp_law_other_world := by
  obtain ⟨fd, F⟩ := F__law_other_world T
  refine cal_mk F (g__law_other_world T) sc__law_other_world (fun _ _ _ _ _ _ us hl => match us, hl with | [_, _], _ => rfl) (fun vs H Q E h => ?_) (fun cdv A outer s H vs Q E hr h => ?_)
  · obtain ⟨a, L, v, D, rfl, _⟩ := h; rfl
  · obtain ⟨tk, htl, hq⟩ := ow_tail (P := P) (w := w) (base := base) (cdv := cdv) (A := A) (outer := outer) (s := s) (H := H) (E := E) T hr
    refine ⟨_, PSs.nox (pss_cons (ps_asg (pv 1) (pg_tup rfl (pgs_cons (pg_name (i := 2) sc__law_other_world.nd rfl (Or.inl rfl)) (pgs_cons (pg_name (i := 3) sc__law_other_world.nd rfl (Or.inl rfl)) (pgs_cons (pg_name (i := 4) sc__law_other_world.nd rfl (Or.inl rfl)) (pgs_cons (pg_name (i := 5) sc__law_other_world.nd rfl (Or.inl rfl)) pgs_nil))))))
        (pss_cons (ps_set (i := 6) sc__law_other_world.nd rfl (Or.inl rfl) (pe_cal (ok_law_pick T) (hr.mono (by decide)) pass0 (pa_cons (pv 0) (pa_cons pe_int pa_nil))))
        (pss_cons (ps_if (PW.pt (pw_and (pt_cmpR op_eq (pv 6) pe_int (nomark _)) (pw_and1 (pt_cmpR op_lt (pe_callB call_len (by rfl) (fr_len T) boot_len (pa_cons (pv 2) pa_nil)) pe_int (nomark _))))) (pss_one (ps_ret (pe_tup (pa_cons (pe_slice sl_str pe_str po_none (po_some (pe_callB call_len (by rfl) (fr_len T) boot_len (pa_cons (pv 2) pa_nil)))) (pa_cons (pv 3) (pa_cons (pv 4) (pa_cons (pv 5) pa_nil))))))) pss_nil)
        (pss_cons (ps_if (PW.pt (pw_and (pt_cmpR op_eq (pv 6) pe_int (nomark _)) (pw_and1 (pt_cmpR op_gt (pe_callB call_len (by rfl) (fr_len T) boot_len (pa_cons (pv 3) pa_nil)) pe_int (nomark _))))) (pss_one (ps_ret (pe_tup (pa_cons (pv 2) (pa_cons (pe_ifExp (pt_cmpR op_ne (pv 3) pe_str (nomark _)) (pe_ix ix_list (pe_lst (pa_cons pe_str (pa_cons pe_str (pa_cons pe_str (pa_cons pe_str pa_nil))))) (pe_op op_sub (pe_callB call_len (by rfl) (fr_len T) boot_len (pa_cons (pv 3) pa_nil)) pe_int) (fun _ _ => rfl)) pe_str) (pa_cons (pv 4) (pa_cons (pv 5) pa_nil))))))) pss_nil)
        (pss_cons (ps_if (PW.pt (pw_and (pt_cmpR op_eq (pv 6) pe_int (nomark _)) (pw_and1 (pt_cmpR op_gt (pe_callB call_len (by rfl) (fr_len T) boot_len (pa_cons (pv 4) pa_nil)) pe_int (nomark _))))) (pss_cons (ps_setLc (i := 7) (te := tCB (rLstO K) (tCons (tVar 10) tNil)) (own := [("_law_move", 10)]) (g := (gName 10)) (tt := tYes) rfl sc__law_other_world.nd rfl rfl (sw_true rfl rfl rfl (by decide +kernel)) (pi_list (pv 4)) (blkOk_by (N := N__law_other_world) (sc := defScope s__law_other_world) (by decide +kernel)) (fun _ _ _ _ _ => (pg_name (i := 10) sc__law_other_world.nd rfl (Or.inl rfl))) (fun _ _ _ _ _ => pts_nil) (fun _ _ _ _ _ => by refine pe_callTy (r := rLstO K) ?_ (by rfl) (fr_list T) b_list (pa_cons (pv 10) pa_nil); exact call_list_of))
        (pss_cons (ps_set (i := 8) sc__law_other_world.nd rfl (Or.inr rfl) (pe_cal (ok_law_pick T) (hr.mono (by decide)) pass0 (pa_cons (pv 0) (pa_cons (pe_callB call_len (by rfl) (fr_len T) boot_len (pa_cons (pv 4) pa_nil)) pa_nil))))
        (pss_cons (ps_set (i := 9) sc__law_other_world.nd rfl (Or.inl rfl) (pe_cal (ok_law_pick T) (hr.mono (by decide)) pass0 (pa_cons (pv 0) (pa_cons (pe_callB call_len (by rfl) (fr_len T) boot_len (pa_cons (pe_ix ix_list (pv 4) (pv 8) (fun _ _ => rfl)) pa_nil)) pa_nil))))
        (pss_cons (ps_asg (pe_op op_mod (pe_callTy call_int1 (by rfl) (fr_int T) b_int (pa_cons (pe_op op_add (pe_op op_add (pe_ix ix_list (pe_ix ix_list (pv 7) (pv 8) (fun _ _ => rfl)) (pv 9) (fun _ _ => rfl)) pe_int) (pe_cal (ok_law_pick T) (hr.mono (by decide)) pass0 (pa_cons (pv 0) (pa_cons (pe_op op_sub (pe_callB call_len (by rfl) (fr_len T) boot_len (pa_cons (pv 4) pa_nil)) pe_int) pa_nil)))) pa_nil)) (pe_callB call_len (by rfl) (fr_len T) boot_len (pa_cons (pv 4) pa_nil))) (pg_sub (pe_ix ix_list (pv 7) (pv 8) (fun _ _ => rfl)) (pv 9) set_list))
        (pss_one (ps_ret (pe_tup (pa_cons (pv 2) (pa_cons (pv 3) (pa_cons (pv 7) (pa_cons (pv 5) pa_nil))))))))))) pss_nil)
        htl))))), ?_⟩
    obtain ⟨a, L, v, D, rfl, hs, ha, hout, WA, WO, halB, hnsN, q⟩ := h
    obtain ⟨t, vm, vc, rfl, h1, h2, h3⟩ := WA
    have hal8 := WO.rd.al8
    have hn4 := WO.rd.ns4
    have h60 := WO.mv.le
    have h1m := WO.mv.pos
    obtain ⟨al, ns, mv, ac⟩ := D
    dsimp only at hal8 hn4 h2 h3 h60 h1m halB hnsN h1
    have h1m : 1 ≤ mv.length := h1m
    have h60 : mv.length ≤ 60 := h60
    refine ⟨.ref t, rfl, t, _, rfl, SqT.of (dl_le L H _ _ h1), rfl, _, _, rfl, _, _, rfl, _, _, rfl, _, _, rfl, rfl, ?_⟩
    refine ⟨.ref a, rfl, ?_⟩
    refine ⟨_, _, rfl, (by omega), (by omega), hs, fun qA qS qC way hw0 hw1 => ?_⟩
    have f1 : Fra a H (upd H a (three qA qS qC)) := Fra.drawn qA qS qC
    revert f1
    generalize upd H a (three qA qS qC) = H1
    intro f1
    have o1 := hout.fra f1
    have sd1 := dl_fra ha f1
    have g2 := h2.same sd1
    have g3 := h3.same sd1
    have fin : tk { nx := fun _ H' => Q .non H', rt := Q } [some (.ref a), some (.ref t), some (.str al), some (.str ns), some vm, some vc, some (.int way), none, none, none, none, none] H1 :=
      hq _ H1 a t L al ns mv ac vm vc _ f1.src ha o1 g2 g3 WO fun H' v' D' f' => q H' v' D' (f1.trans f')
    have cases4 : way = 0 ∨ way = 1 ∨ way = 2 ∨ way = 3 := by omega
    rcases cases4 with rfl | rfl | rfl | rfl
    · refine ⟨.int 0, rfl, rfl, _, rfl, iteT ⟨.str al, rfl, _, _, rfl, lenV_str (by omega), _, 5, rfl, rfl, _, rfl, ?_⟩⟩
      by_cases hl : ((al.length : Nat) : Int) < 5
      · rw [decide_eq_true hl]
        obtain ⟨e1, e2, e3⟩ := alph_other al halB (by omega)
        refine iteT ⟨.str al, rfl, _, _, rfl, lenV_str (by omega), _, rfl, _, rfl, (by show 4 ≤ sizeLine; decide), _, rfl, _, rfl, _, rfl, ?_⟩
        exact world_tup ha o1 f1 g2 g3 fun H' v' f' WA' => q H' v' _ f' WA' ⟨e1, WO.ns, by show TabOk mv ((cutS "efgh" none (some ((al.length : Nat) : Int))).length * 2 ^ ns.length); rw [e2]; exact WO.mv, WO.asc, WO.ac⟩ fun e => by
          injection e with e _ _ _
          exact e3 e
      · rw [decide_eq_false hl]
        exact iteF ⟨.int 0, rfl, rfl, _, rfl, iteF ⟨.int 0, rfl, rfl, _, rfl, iteF fin⟩⟩
    · refine ⟨.int 1, rfl, rfl, _, rfl, iteF ⟨.int 1, rfl, rfl, _, rfl, iteT ⟨.str ns, rfl, _, _, rfl, lenV_str (by omega), _, 0, rfl, rfl, _, rfl, ?_⟩⟩⟩
      by_cases hl : (0 : Int) < ((ns.length : Nat) : Int)
      · rw [decide_eq_true hl]
        obtain ⟨e1, e2, e3⟩ := names_other ns hnsN (by omega)
        have ret : ∀ H2, Same H1 H2 → 4 ≤ sizeLine ∧ ∀ t, H2 t = none → Q (.ref t) (upd H2 t (.tup [.str al, .str (otherN ns), vm, vc])) := fun H2 s2 => by
          have f2 := f1.trans (Fra.same f1.src s2)
          exact world_tup ha (hout.fra f2) f2 (h2.same (dl_fra ha f2)) (h3.same (dl_fra ha f2)) fun H' v' f' WA' => q H' v' _ f' WA' ⟨WO.al, e1, by show TabOk mv (al.length * 2 ^ (otherN ns).length); rw [e2]; exact WO.mv, WO.asc, WO.ac⟩ fun e => by
            injection e with _ e _ _
            exact e3 e
        refine iteT ⟨_, rfl, _, rfl, rfl, _, rfl, ?_⟩
        by_cases hw : ns = "w"
        · subst hw
          exact iteF ⟨_, rfl, _, rfl, ret H1 (Same.refl _)⟩
        · rw [show (!decide (V.str ns = V.str "w")) = true by simp [hw]]
          refine iteT ⟨(by show 4 ≤ sizeLine; decide), fun l hl2 => ⟨.str ns, rfl, _, _, rfl, lenV_str (by omega), _, 1, rfl, rfl, ?_⟩⟩
          have ei : ((ns.length : Nat) : Int) - 1 = ((ns.length - 1 : Nat) : Int) := by omega
          show rIxL K (.ref l) (.int (((ns.length : Nat) : Int) - 1)) _ _
          rw [ei]
          refine rIxL_of (v := .str (otherN ns)) upd_same ?_ ⟨_, rfl, _, rfl, ret _ (same_upd hl2)⟩
          have h := names_at ns hnsN (by omega) hw
          show ((["w", "vz", "uwz", "uxyz"] : List Str).map V.str)[ns.length - 1]? = some (V.str (otherN ns))
          rw [List.getElem?_map, h]
          rfl
      · rw [decide_eq_false hl]
        exact iteF ⟨.int 1, rfl, rfl, _, rfl, iteF fin⟩
    · obtain ⟨ma, bs0, rfl, hma, hbl, hbr⟩ := rp_list h2
      have hma1 := dl_le L H1 _ _ (sd1 _ _ hma)
      refine ⟨.int 2, rfl, rfl, _, rfl, iteF ⟨.int 2, rfl, rfl, _, rfl, iteF ⟨.int 2, rfl, rfl, _, rfl, iteT ⟨.ref ma, rfl, _, _, rfl, .inl ⟨_, SqL.of hma1, rfl⟩, _, 1, rfl, rfl, _, rfl, ?_⟩⟩⟩⟩
      by_cases hl : (1 : Int) < ((bs0.length : Nat) : Int)
      · rw [decide_eq_true hl]
        refine iteT ?_
        refine seq_asg ?_
        refine ll_comp (σ := [some (.ref a), some (.ref t), some (.str al), some (.str ns), some (.ref ma), some vc, some (.int 2), none, none, none, none, none]) (ma := ma) (iS := 4) (iM := 10) rfl (by show 10 < 12; decide) (by decide) (g2.same (dl_le L H1)) (by omega) fun c bs G sG hc hb LL => ?_
        have nc : c ∉ L := o1.ne hc
        have nb : ∀ b ∈ bs, b ∉ L := fun b hbb => o1.ne (hb b hbb)
        have LLd := LL.dl nc nb
        have fG := f1.trans (Fra.same f1.src sG)
        refine ⟨.ref a, rfl, .ref ma, rfl, _, _, rfl, .inl ⟨_, SqL.of (sG _ _ hma1), rfl⟩, ?_⟩
        refine ⟨_, _, rfl, (by omega), (by omega), fG.src, fun qA qS qC d2 hd20 hd21 => ?_⟩
        have f2 : Fra a G (upd G a (three qA qS qC)) := Fra.drawn qA qS qC
        revert f2
        generalize upd G a (three qA qS qC) = G2
        intro f2
        obtain ⟨p, rfl⟩ := Int.eq_ofNat_of_zero_le hd20
        have hp : p < mv.length := by omega
        have hmp := List.getElem?_eq_getElem hp
        have hml : mv[p].length = al.length * 2 ^ ns.length := WO.mv.row _ (List.getElem_mem hp)
        have hmlt : ∀ k ∈ mv[p], k < mv.length := WO.mv.lt _ (List.getElem_mem hp)
        generalize mv[p] = m at hmp hml hmlt
        obtain ⟨mb, hb1, hb2⟩ := hbr p m hmp
        have f02 := fG.trans f2
        have sd2 := dl_fra ha f02
        have hm1 : 1 ≤ m.length ∧ m.length ≤ 128 := by
          rw [hml]
          obtain ⟨t1, t2⟩ := two_le hn4
          exact ⟨Nat.mul_pos hal8.1 t1, Nat.le_trans (Nat.mul_le_mul hal8.2 t2) (by decide)⟩
        refine ⟨.ref a, rfl, .ref ma, rfl, .int (p : Nat), rfl, rIxL_of (dl_le L G2 _ _ (sd2 _ _ hma)) hb1 ⟨_, _, rfl, .inl ⟨_, SqL.of (dl_le L G2 _ _ (sd2 _ _ hb2)), rfl⟩, ?_⟩⟩
        rw [List.length_map]
        refine ⟨_, _, rfl, (by omega), (by omega), f2.src, fun qA qS qC d3 hd30 hd31 => ?_⟩
        have f3 : Fra a G2 (upd G2 a (three qA qS qC)) := Fra.drawn qA qS qC
        revert f3
        generalize upd G2 a (three qA qS qC) = G3
        intro f3
        obtain ⟨k, rfl⟩ := Int.eq_ofNat_of_zero_le hd30
        have hk : k < m.length := by omega
        have hmk := List.getElem?_eq_getElem hk
        have hx := hmlt _ (List.getElem_mem hk)
        generalize m[k] = x at hmk hx
        have f03 := f02.trans f3
        have LL3 := (LLd.same (dl_fra ha f2)).same (dl_fra ha f3)
        have hbp : p < bs.length := by rw [LL.2.1]; exact hp
        have hbb := List.getElem?_eq_getElem hbp
        generalize bs[p] = b at hbb
        have LLb := LL3.2.2.2.2 p b m hbb hmp
        have hcb : (bs.map V.ref)[p]? = some (.ref b) := by rw [List.getElem?_map, hbb]; rfl
        have hxk : (m.map fun (k : Nat) => V.int (k : Nat))[k]? = some (.int (x : Nat)) := by rw [List.getElem?_map, hmk]; rfl
        refine ⟨.ref c, rfl, .int (p : Nat), rfl, rIxL_of (dl_le L G3 _ _ LL3.1) hcb ⟨.int (k : Nat), rfl, rIxL_of (dl_le L G3 _ _ LLb) hxk ⟨_, 1, rfl, rfl, .ref a, rfl, .ref ma, rfl, _, _, rfl, .inl ⟨_, SqL.of (dl_le L G3 _ _ ((dl_fra ha f03) _ _ hma)), rfl⟩, _, 1, rfl, rfl, ?_⟩⟩⟩
        refine ⟨_, _, rfl, (by omega), (by omega), f3.src, fun qA qS qC d4 hd40 hd41 => ?_⟩
        have f4 : Fra a G3 (upd G3 a (three qA qS qC)) := Fra.drawn qA qS qC
        revert f4
        generalize upd G3 a (three qA qS qC) = G4
        intro f4
        have f04 := f03.trans f4
        have LL4 := LL3.same (dl_fra ha f4)
        have hma4 := dl_le L G4 _ _ ((dl_fra ha f04) _ _ hma)
        have LLb4 := dl_le L G4 _ _ (LL4.2.2.2.2 p b m hbb hmp)
        refine ⟨_, d4, rfl, rfl, .inl ⟨_, rfl, .ref ma, rfl, _, _, rfl, .inl ⟨_, SqL.of hma4, rfl⟩, _, _, rfl, rfl, by omega, ?_⟩⟩
        obtain ⟨v, hv, hvx, hvlt⟩ : ∃ v : Nat, (((x : Nat) : Int) + 1 + d4) % ((bs0.length : Nat) : Int) = (v : Int) ∧ v ≠ x ∧ v < mv.length := by
          have hb : ((bs0.length : Nat) : Int) = (mv.length : Int) := by rw [hbl]
          rw [hb] at hd41 ⊢
          have e0 := Int.emod_nonneg (((x : Nat) : Int) + 1 + d4) (show ((mv.length : Nat) : Int) ≠ 0 by omega)
          have e1 := Int.emod_lt_of_pos (((x : Nat) : Int) + 1 + d4) (show (0 : Int) < (mv.length : Nat) by omega)
          refine ⟨((((x : Nat) : Int) + 1 + d4) % ((mv.length : Nat) : Int)).toNat, by omega, fun e => ?_, by omega⟩
          by_cases hc : ((x : Nat) : Int) + 1 + d4 < (mv.length : Nat)
          · rw [Int.emod_eq_of_lt (by omega) hc] at e
            omega
          · have e2 : (((x : Nat) : Int) + 1 + d4) % ((mv.length : Nat) : Int) = ((x : Nat) : Int) + 1 + d4 - (mv.length : Nat) := by
              rw [← Int.sub_emod_right, Int.emod_eq_of_lt (by omega) (by omega)]
            rw [e2] at e
            omega
        dsimp only
        rw [hv]
        refine ⟨.ref c, rfl, .int (p : Nat), rfl, rIxL_of (dl_le L G4 _ _ LL4.1) hcb ⟨.int (k : Nat), rfl, b, _, _, k, rfl, rfl, LLb4, ?_, ?_⟩⟩
        · unfold ixN
          rw [if_pos (by omega), if_pos (by rw [List.length_map]; omega)]
          simp
        rw [nats_set]
        have nbL := nb b (List.mem_of_getElem? hbb)
        have hbH : H b = none := by
          have hb1n := hb b (List.mem_of_getElem? hbb)
          have hba : b ≠ a := fun z => nbL (z ▸ ha)
          exact f1.none hba hb1n
        have f05 := f04.over (o := .lst ((m.set k v).map fun (k : Nat) => V.int (k : Nat))) hbH (fun z => nbL (z ▸ ha))
        have LL5 := LL4.put (k := k) (v := v) hbb hmp
        rw [← dl_upd nbL] at LL5
        revert f05 LL5
        generalize upd G4 b (.lst ((m.set k v).map fun (k : Nat) => V.int (k : Nat))) = G5
        intro f05 LL5
        refine ⟨_, rfl, _, rfl, _, rfl, _, rfl, ?_⟩
        exact world_tup ha (hout.fra f05) f05 LL5.rp (h3.same (dl_fra ha f05)) fun H' v' f' WA' => q H' v' _ f' WA' ⟨WO.al, WO.ns, tab_set WO.mv hmp hvlt, WO.asc, fun k' hk' => by show k' < (mv.set p (m.set k v)).length; rw [List.length_set]; exact WO.ac k' hk'⟩ fun e => by
          injection e with _ _ e _
          exact set_ne hmp hmk hvx e
      · rw [decide_eq_false hl]
        exact iteF fin
    · exact ⟨.int 3, rfl, rfl, _, rfl, iteF ⟨.int 3, rfl, rfl, _, rfl, iteF ⟨.int 3, rfl, rfl, _, rfl, iteF fin⟩⟩⟩
end
end Kx
set_option Elab.async false
set_option linter.all false
set_option maxRecDepth 100000
set_option maxHeartbeats 4000000
namespace Kx
open PySem PySem.Spec PyProof.Rows L2 PySem.Froz
/-! ### sets of texts that can be walked -/
/-- the empty payload -/
def setZ (w : World) : SD := (#[], 0, .fresh 0 0 (!w.params.followText "set-order"))
def Wk1 (w : World) (D : SD) : Prop := Ris D.2.2.place.toList ∧ (w.params.followText "set-order" = true ∨ D.2.2.led = true)
theorem wk_zero (w : World) : Wk1 w (setZ w) := by
  refine ⟨List.Pairwise.nil, ?_⟩
  show _ ∨ (!w.params.followText "set-order") = true
  cases w.params.followText "set-order" <;> simp
theorem wk_add {w : World} {h : Int} {v : Value} {D : SD} (k : Wk1 w D) : Wk1 w (addTx h v D) := by
  obtain ⟨es, ep, t⟩ := D
  obtain ⟨k1, k2⟩ := k
  have r1 := layNew_ris t es h v k1
  have l1 := layNew_led t es h v
  unfold addTx tailTx Wk1
  dsimp only at k2 ⊢
  generalize layNew t es h v = Z at r1 l1
  obtain ⟨es1, t1, wd, gv⟩ := Z
  dsimp only at r1 l1 ⊢
  have k3 : w.params.followText "set-order" = true ∨ t1.led = true := k2.imp id fun z => l1.trans z
  have off : Ris (if t1.plain = true then { t1 with plain := false } else t1).place.toList ∧ (if t1.plain = true then { t1 with plain := false } else t1).led = t1.led := by
    by_cases c : t1.plain = true
    · rw [if_pos c]; exact ⟨r1, rfl⟩
    · rw [if_neg c]; exact ⟨r1, rfl⟩
  generalize (if t1.plain = true then { t1 with plain := false } else t1) = t2 at off
  by_cases c : (!wd && t2.tooFull) = true
  · rw [if_pos c]
    exact ⟨relayAll_ris _ _ _, k3.imp id fun z => (relayAll_led _ _ _).trans (off.2.trans z)⟩
  · rw [if_neg c]
    exact ⟨off.1, k3.imp id fun z => off.2.trans z⟩
/-- at a: a set of just the texts l -/
def TxR (P : Program) (w : World) (h : Heap) (a : Addr) (l : List Str) : Prop := ∃ D : SD, h.get? a = some (sObj "set" D) ∧ TxOk P w D l ∧ l.Nodup ∧ Wk1 w D
section
variable {P : Program} {w : World} {A : Around} {E : Value → Shared → Prop} {s : Shared}
/-- a text that is in the set changes nothing -/
theorem add_old {a : Addr} {D : SD} {l : List Str} {k : Str} {u : Tok} {Q : Bool → Shared → Prop} (ho : s.heap.get? a = some (sObj "set" D)) (F : TxOk P w D l) (hk : k ∈ l) (hb : l.length < scanBound) (h : Q false s) :
    wpAny (model P w) A (setAddHashed a (.str k u) (hashStr w k)) Q E s := by
  obtain ⟨es, ep, t⟩ := D
  have hd : (sObj "set" (es, ep, t)).data = .set es ep t := rfl
  have b0 : es.size < scanBound := Nat.lt_of_le_of_lt (Nat.le_of_eq F.sz) hb
  obtain ⟨e, he, q⟩ := (F.mem k).mp hk
  have some_ : ∃ j, List.findIdx? (fun e => (strKind P w).is k e.2) es.toList = some j := by
    cases c : List.findIdx? (fun e => (strKind P w).is k e.2) es.toList with
    | some j => exact ⟨j, rfl⟩
    | none =>
      have c2 := List.findIdx?_eq_none_iff.mp c e he
      rw [q] at c2; cases c2
  obtain ⟨j, hj⟩ := some_
  unfold setAddHashed setAddHashedIn
  refine wpAny_holding (wpAny_bind (wpAny_setState_of ho hd F.fit ?_)); dsimp only
  rw [byScan_of (x := .str k u) rfl b0 F.el]; simp only [↓reduceIte]
  unfold setAddByScan
  refine wpAny_bind (wpAny_bind (wpAny_rule (wpAny_bind (wpAny_setScan_of (knd := strKind P w) (is_str k u) ho hd F.fit F.el ?_))))
  rw [hj]; dsimp only
  exact wpAny_pure (wpAny_pure h)
/-- what came of the first i texts -/
structure GotS (zs : List Str) (i : Nat) (l : List Str) : Prop where
  mem : ∀ z, z ∈ l ↔ z ∈ zs.take i
  nd : l.Nodup
  len : l.length ≤ i
theorem GotS.next {zs l : List Str} {i : Nat} {z : Str} (g : GotS zs i l) (h : zs[i]? = some z) : (z ∈ l → GotS zs (i + 1) l) ∧ (z ∉ l → GotS zs (i + 1) (z :: l)) := by
  have e : zs.take (i + 1) = zs.take i ++ [z] := by rw [List.take_succ, h]; rfl
  constructor
  · intro hz
    refine ⟨fun y => ?_, g.nd, Nat.le_succ_of_le g.len⟩
    rw [e, List.mem_append, List.mem_singleton, ← g.mem y]
    exact ⟨.inl, fun c => c.elim id fun c => c ▸ hz⟩
  · intro hz
    refine ⟨fun y => ?_, List.nodup_cons.mpr ⟨hz, g.nd⟩, Nat.succ_le_succ g.len⟩
    rw [e, List.mem_append, List.mem_singleton, List.mem_cons, g.mem y]
    exact Or.comm
theorem TxR.up {h h' : Heap} {a : Addr} {l : List Str} (k : ∀ o, h.get? a = some o → h'.get? a = some o) (r : TxR P w h a l) : TxR P w h' a l := by
  obtain ⟨D, h1, h2⟩ := r
  exact ⟨D, k _ h1, h2⟩
/-- set(xs)'s loop, xs texts -/
theorem loop_txs {R : Result → Shared → Prop} {I : Addr} {fp wr : List Addr} {G : Array GenState → Array GenState → Prop} {n : Nat} {Pv : Nat → Value → Prop} {St : Nat → Shared → Prop} (W : WalksS P w A.in1 I fp wr G n Pv St) (S : Addr) (hSf : S ∉ fp)
    (zs : List Str) (hn : n = zs.length) (few : zs.length < 64) (hval : ∀ i v, Pv i v → ∃ z t, zs[i]? = some z ∧ v = .str z t) (h0 : Heap) (hS0 : h0.get? S = none) (hw0 : ∀ b ∈ wr, h0.get? b = none) :
    ∀ (k i : Nat) (s : Shared), n - i = k → i ≤ n → St i s → (∀ b o, h0.get? b = some o → s.heap.get? b = some o) → (∃ l, TxR P w s.heap S l ∧ GotS zs i l) →
      (∀ s' l, Moved (S :: wr) G s s' → TxR P w s'.heap S l → GotS zs n l → (∀ b o, h0.get? b = some o → s'.heap.get? b = some o) → R (.ok (.ret .none)) s') →
      codeAny (model P w) A (.builtin "set.update.loop" ⟨[.ref S, .ref I], []⟩) R s := by
  have hSw : S ∉ wr := fun z => hSf (W.sub _ z)
  have sub : ∀ b ∈ wr, b ∈ S :: wr := fun b => List.mem_cons_of_mem _
  have kp : ∀ {s s' : Shared}, Moved wr G s s' → (∀ b o, h0.get? b = some o → s.heap.get? b = some o) → ∀ b o, h0.get? b = some o → s'.heap.get? b = some o := fun m k b o e => m.heap b o (fun c => by rw [hw0 b c] at e; cases e) (k b o e)
  intro k; induction k with
  | zero =>
    rintro i s hk hi st k0 ⟨l, r, g⟩ hR
    obtain rfl : i = n := by omega
    refine codeAny_builtin F.entry_set_update_loop ?_; rw [Around.under_plainId F.plain_set_update_loop _]
    refine wpAny_bind (W.done s _ _ st fun s' m => ?_)
    exact wpAny_pure (hR s' l (m.mono sub) (r.up fun o => m.heap S o hSw) g (kp m k0))
  | succ k ih =>
    rintro i s hk hi st k0 ⟨l, r, g⟩ hR
    have lt : i < n := by omega
    refine codeAny_builtin F.entry_set_update_loop ?_; rw [Around.under_plainId F.plain_set_update_loop _]
    refine wpAny_bind (W.item i s _ _ lt st fun v s' pv st' m => ?_)
    obtain ⟨z, t, hz, rfl⟩ := hval i v pv
    have k1 := kp m k0
    obtain ⟨D, ho, ok, nd, wk⟩ := r.up fun o => m.heap S o hSw
    show wpAny _ A.in1 (holding [Value.str z t] (setAdd S (.str z t)) >>= _) _ _ s'
    refine wpAny_bind (wpAny_holding ?_); unfold setAdd
    refine wpAny_holding (wpAny_bind ((strKind P w).pyHash (is_str z t) ?_))
    have room : l.length + 1 < scanBound := by have := g.len; unfold scanBound; omega
    obtain ⟨g1, g2⟩ := g.next hz
    have go : ∀ (b : Bool) (h' : Heap) (l' : List Str), Heap.SameBut S s'.heap h' → TxR P w h' S l' → GotS zs (i + 1) l' → wpAny (model P w) A.in1 (pure (Fin.again (.builtin "set.update.loop" ⟨[.ref S, .ref I], []⟩))) (fun fin s'' => match fin with
        | .done f => R (.ok f) s''
        | .again c => c.quiet = true ∧ codeAny (model P w) A c R s'') (fun e s'' => R (.error e) s'') { s' with heap := h', toks := s'.toks + 1 } := fun b h' l' sb r' g' => by
      have k2 : ∀ b o, h0.get? b = some o → h'.get? b = some o := fun b o e => (sb.2 b (fun c => by rw [c, hS0] at e; cases e)).trans (k1 b o e)
      refine wpAny_pure ⟨plainId_quiet F.plain_set_update_loop _, ih (i + 1) _ (by omega) lt (W.frame _ s' _ _ st' (Nat.le_succ _) fun b hb o e => (sb.2 b (fun c => hSf (c ▸ hb))).trans e) k2 ⟨l', r', g'⟩ fun s2 l2 m2 r2 g3 k3 => ?_⟩
      exact hR s2 l2 (Moved.trans W.gtrans ((m.mono sub).then_heap (Nat.le_succ _) fun b o hb e => (sb.2 b (fun c => hb (c ▸ List.mem_cons_self ..))).trans e) m2) r2 g3 k3
    by_cases hm : z ∈ l
    · exact add_old (s := { s' with toks := s'.toks + 1 }) ho ok hm (by omega) (go false _ l (Heap.SameBut.refl S _) ⟨D, ho, ok, nd, wk⟩ (g1 hm))
    · refine add_x (s := { s' with toks := s'.toks + 1 }) ho ok hm room (go true _ (z :: l) (Heap.SameBut.update _ S _) ⟨_, get_upd _ ho rfl, add_ok t ok, List.nodup_cons.mpr ⟨hm, nd⟩, wk_add wk⟩ (g2 hm))
end
end Kx
set_option Elab.async false
set_option linter.all false
set_option maxRecDepth 100000
set_option maxHeartbeats 4000000
namespace Kx
open PySem PySem.Spec PyProof.Rows L2 PySem.Froz
theorem vals_at : ∀ {xs : List V} {us : List Value}, Vals xs us → ∀ (i : Nat) (v : Value), us[i]? = some v → ∃ x, xs[i]? = some x ∧ RelV x v
  | _, _, .nil, i, v, h => by simp at h
  | _, _, .cons r rs, 0, v, h => ⟨_, rfl, by cases h; exact r⟩
  | _, _, .cons r rs, i + 1, v, h => vals_at rs i v (by simpa using h)
section
variable {P : Program} {w : World} {A : Around} {E : Value → Shared → Prop} {s : Shared}
abbrev setO (w : World) : Obj := { cls := .type "set", dict := none, data := .set #[] 0 (.fresh 0 0 (!w.params.followText "set-order")) }
/-- set(xs), xs a list of texts -/
theorem set_of_list {l : Addr} {items : Array Value} (zs : List Str) {Q : Value → Shared → Prop} (hh : A.handled = none) (hl : s.heap.IsList l items) (hit : Vals (zs.map V.str) items.toList) (few : zs.length < 64)
    (h : ∀ (h' : Heap) (tk : Nat) ls, TxR P w h' s.heap.objs.size ls → GotS zs zs.length ls → (∀ b o, s.heap.get? b = some o → h'.get? b = some o) → Q (.ref s.heap.objs.size) { s with heap := h', toks := tk }) :
    wpAny (model P w) A (call (.type "set") [.ref l]) Q E s := by
  have n1 : items.size = zs.length := by
    have := hit.length
    rwa [List.length_map, Array.length_toList, eq_comm] at this
  have at_ : ∀ (i : Nat) (v : Value), items[i]? = some v → ∃ z t, zs[i]? = some z ∧ v = .str z t := fun i v hv => by
    obtain ⟨x, hx, rx⟩ := vals_at hit i v (by rw [Array.getElem?_toList]; exact hv)
    rw [List.getElem?_map] at hx
    obtain ⟨z, hz, rfl⟩ := Option.map_eq_some_iff.mp hx
    obtain ⟨t, rfl⟩ := rx
    exact ⟨z, t, hz, rfl⟩
  have free : ∀ b, s.heap.objs.size ≤ b → s.heap.get? b = none := fun b hb => by
    cases q : s.heap.get? b with
    | none => rfl
    | some o => exact absurd (Heap.lt_size q) (Nat.not_lt_of_le hb)
  obtain ⟨c, tl, hmro⟩ := F.called_set.mro
  have g1 := F.called_set.made; have g2 := F.called_set.sub
  refine wpAny_call (codeAny_of_tree ?_); show wpAny _ _ (callAny (.type "set") _) _ _ _
  refine wpAny_pure ⟨Code.quiet_builtin _ (by decide +kernel), codeAny_builtin F.entry_type_call ?_⟩; rw [Around.under_plain (weight_type_call_type "set" [.ref l] []) rfl]
  have g3 := F.called_set.notType; have g4 := F.called_set.canCreate; have g5 := F.typeCall_set_1 (.ref l)
  repeat (any_goals (first | assumption | wp_step))
  refine codeAny_mono (code_set_led1 (.ref l) (E := E) (Q₁ := fun obj s₁ => obj = .ref s.heap.objs.size ∧ s₁ = { s with heap := s.heap.push (setO w) }) ⟨rfl, rfl⟩) fun r s₁ hr => ?_
  cases r with
  | error e => exact hr
  | ok fl =>
  cases fl with
  | next => exact hr.elim
  | brk => exact hr.elim
  | cont => exact hr.elim
  | ret obj =>
  obtain ⟨rfl, rfl⟩ := hr
  have here : (s.heap.push (setO w)).get? s.heap.objs.size = some (setO w) := Heap.get?_push_size _ rfl
  have hT : Shared.TypeIs { s with heap := s.heap.push (setO w) } (.ref s.heap.objs.size) "set" := ⟨_, here, rfl⟩
  have g6 := F.called_set.init.lookup; have g7 := F.called_set.init.bind (.ref s.heap.objs.size)
  repeat (any_goals (first | assumption | wp_step))
  refine codeAny_mono (codeAny_call_builtin (R := wants (fun r s₂ => r = .none ∧ ∃ h' tk ls, s₂ = { s with heap := h', toks := tk } ∧ TxR P w h' s.heap.objs.size ls ∧ GotS zs zs.length ls ∧ ∀ b o, s.heap.get? b = some o → h'.get? b = some o) E)
    F.called_set.init.plain F.entry_set_init (check_set_init_1 hT ?_)) fun r₂ s₂ hr₂ => ?_
  · obtain ⟨⟨oc, od, odt, osl⟩, hol, hcl, nl, hdl⟩ := hl
    cases hcl; cases hdl
    have hol' : (s.heap.push (setO w)).get? l = some { cls := .type "list", dict := od, data := .seq items nl, slots := osl } := Heap.get?_push_of_some _ hol
    have isl : (s.heap.push (setO w)).IsList l items := ⟨_, hol', rfl, nl, rfl⟩
    have g8 := F.sub_list_set; have g9 := F.sub_list_frozenset
    have ne1 : (Value.type "list" == Value.type "dict") = false := by decide
    unfold Builtin.«set.__init__» noKeywords Builtin.Frozenset.updateFrom
    generalize hPI : pyIter = PI
    wp_walk
    subst hPI
    refine wpAny_pyIter_list isl (wpAny_bind (wpAny_runValue ?_))
    have lS : l < s.heap.objs.size := Heap.lt_size hol
    have z1 : (s.heap.push (setO w)).objs.size = s.heap.objs.size + 1 := Heap.size_push ..
    have h3 : A.in1.in1.in1.handled = none := by simp [hh]
    have neI : l ≠ (s.heap.push (setO w)).objs.size := by rw [z1]; exact Nat.ne_of_lt (Nat.lt_succ_of_lt lS)
    have notIn : s.heap.objs.size ∉ [(s.heap.push (setO w)).objs.size, l] := by
      intro hm
      rcases List.mem_cons.mp hm with e | e
      · rw [z1] at e; exact absurd e (Nat.ne_of_lt (Nat.lt_succ_self _))
      · rw [List.mem_singleton] at e; exact absurd e (Nat.ne_of_gt lS)
    refine loop_txs ((Walks.list h3 _ l neI items).toS) s.heap.objs.size notIn zs n1 few at_ s.heap (free _ (Nat.le_refl _)) (fun b hb => free b (by rw [List.mem_singleton.mp hb, z1]; exact Nat.le_succ _)) (items.size - 0) 0 _ (by omega) (Nat.zero_le _)
      ⟨⟨_, Heap.get?_push_size _ rfl, rfl, rfl⟩, isl.push _⟩ (fun b o e => Heap.get?_push_of_some _ (Heap.get?_push_of_some _ e)) ⟨[], ⟨setZ w, Heap.get?_push_of_some _ here, TxOk.nil (by rfl), List.nodup_nil, wk_zero w⟩, ⟨fun z => by simp, List.nodup_nil, Nat.le_refl _⟩⟩ ?_
    intro s' ls m r g kp
    obtain ⟨h', gn, dr, tk', os'⟩ := s'
    obtain rfl : gn = s.gens := m.gens
    obtain rfl : dr = s.drawn := m.drawn
    obtain rfl : os' = s.os := m.os
    rw [n1] at g
    exact wpAny_pure (wpAny_pure ⟨rfl, h', tk', ls, rfl, r, g, kp⟩)
  · cases r₂ with
    | error e => exact hr₂
    | ok fl₂ =>
    cases fl₂ with
    | next => exact hr₂.elim
    | brk => exact hr₂.elim
    | cont => exact hr₂.elim
    | ret r =>
    obtain ⟨rfl, h', tk, ls, rfl, r, g, kp⟩ := hr₂
    repeat (any_goals (first | assumption | wp_step))
    exact h _ _ _ r g kp
end
end Kx
set_option Elab.async false
set_option linter.all false
set_option maxRecDepth 100000
set_option maxHeartbeats 4000000
namespace Kx
open PySem PySem.Spec PyProof.Rows L2 PySem.Froz
/-- the tracked set of the texts ls -/
def SetX (P : Program) (w : World) (a : Addr) (ls : List Str) : HO := .ext fun h => TxR P w h a ls
theorem setX_new {P : Program} {w : World} {H : Hp} {h : Heap} {a : Addr} {ls : List Str} (r : TxR P w h a ls) : ObjOk P w H h a (SetX P w a ls) := by
  have ⟨D, ho, q⟩ := r
  exact ⟨r, ⟨_, ho⟩, fun h1 h2 p k => TxR.up (fun o e => k o e) p⟩
section
variable {X : Cx}
theorem cr_setX (hc : X.calm = true) : CallR X (.type "set") (fun xs H Q => ∃ (l : Addr) (zs : List Str), xs = [.ref l] ∧ SqL X.K H l (zs.map V.str) ∧ zs.length < 64 ∧ ∀ a ls, H a = none → (∀ z, z ∈ ls ↔ z ∈ zs) → ls.Nodup → ls.length ≤ zs.length → Q (.ref a) (upd H a (SetX X.prog X.w a ls))) := by
  intro pins s σ H xs us Q I r h
  obtain ⟨l, zs, rfl, hl, few, q⟩ := h
  obtain ⟨u, rfl, ru⟩ := vals1 r
  obtain rfl : u = Value.ref l := ru
  obtain ⟨its, rv, isl, _⟩ := I.list hl
  refine set_of_list zs (I.ok.hd hc) isl.isList (by simpa using rv) few fun h' tk ls r' g kp => ?_
  have e : zs.take zs.length = zs := List.take_length
  refine ⟨.ref s.heap.objs.size, _, I.laid (t' := tk) (o := SetX X.prog X.w s.heap.objs.size ls) kp (Nat.le_refl _) (setX_new r'), rfl, q _ ls (I.hok.fresh (Nat.le_refl _)) (fun z => ?_) g.nd g.len⟩
  have := g.mem z
  rwa [e] at this
end
theorem vals_strs {ls : List Str} : ∀ {us : List Value}, (∀ v ∈ us, ∃ z t, z ∈ ls ∧ v = .str z t) → ∃ zs : List Str, Vals (zs.map V.str) us ∧ ∀ z ∈ zs, z ∈ ls
  | [], _ => ⟨[], .nil, fun z hz => by cases hz⟩
  | v :: us, h => by
    obtain ⟨z, t, hz, rfl⟩ := h v (List.mem_cons_self ..)
    obtain ⟨zs, r, k⟩ := vals_strs (us := us) fun y hy => h y (List.mem_cons_of_mem _ hy)
    refine ⟨z :: zs, .cons ⟨t, rfl⟩ r, fun y hy => ?_⟩
    rcases List.mem_cons.mp hy with rfl | hy
    · exact hz
    · exact k y hy
theorem perm_of_sub : ∀ {ls zs : List Str}, ls.Nodup → (∀ x ∈ ls, x ∈ zs) → zs.length = ls.length → zs.Perm ls
  | [], zs, _, _, h => by
    rw [List.length_eq_zero_iff.mp h]
  | x :: ls, zs, nd, s, h => by
    obtain ⟨n1, n2⟩ := List.nodup_cons.mp nd
    have hx := s x (List.mem_cons_self ..)
    refine (List.perm_cons_erase hx).trans (List.Perm.cons x (perm_of_sub n2 (fun y hy => ?_) ?_))
    · exact (List.mem_erase_of_ne (fun e => n1 (by rw [← e]; exact hy))).mpr (s y (List.mem_cons_of_mem _ hy))
    · rw [List.length_erase_of_mem hx, h]
      rfl
/-- the text of a value -/
def txOf : Value → Str
  | .str z _ => z
  | _ => Str.empty
theorem vals_tx : ∀ {zs : List Str} {us : List Value}, Vals (zs.map V.str) us → us.map txOf = zs
  | [], _, .nil => rfl
  | z :: zs, _, .cons r rs => by
    obtain ⟨t, rfl⟩ := r
    rw [List.map_cons, vals_tx rs]
    rfl
section
variable {X : Cx}
/-- sorted(x), x a set of texts -/
theorem cr_sortedX (hc : X.calm = true) : CallR X (.builtin "sorted") (fun xs H Q => ∃ (a : Addr) (ls : List Str), xs = [.ref a] ∧ H a = some (SetX X.prog X.w a ls) ∧ ls.length < 64 ∧ ∀ (ys : List Str) (p : Addr), ys.Perm ls → sortedS ys = true → H p = none → Q (.ref p) (upd H p (.lst (ys.map V.str)))) := by
  intro pins s σ H xs us Q I r h
  obtain ⟨a, ls, rfl, ha, few, q⟩ := h
  obtain ⟨u, rfl, ru⟩ := vals1 r
  obtain rfl : u = Value.ref a := ru
  have hx : ObjOk X.prog X.w H s.heap a (SetX X.prog X.w a ls) := I.hok a _ ha
  obtain ⟨rx, _⟩ := hx
  have rx : TxR X.prog X.w s.heap a ls := rx
  obtain ⟨⟨es, ep, t⟩, ho, ok, nd, wk⟩ := rx
  have hsz : es.size = ls.length := ok.sz
  refine Calls.call_function_entry kind_sorted plain_sorted entry_sorted (args_sorted1 _) ?_
  unfold Builtin.«sorted»
  refine wpAny_bind (m := checkCount "sorted" 1 1 _) (wpAny_pure ?_)
  refine wpAny_bind (collect_set (A := X.A.in1) (I.ok.hd hc) ⟨_, ho, rfl, rfl⟩ ok.fit (by have e0 : (es, ep, t).1 = es := rfl; rw [e0, hsz]; unfold scanBound; omega) wk.1 wk.2 fun s' vs k1 hz g1 o1 pm => ?_)
  obtain ⟨zs, hv, hzs⟩ := vals_strs (ls := ls) (us := vs) fun v hv => by
    obtain ⟨e, he, rfl⟩ := List.mem_map.mp (pm.mem_iff.mp hv)
    obtain ⟨⟨k, hk, _⟩, _⟩ := ok.el e he
    have hm := (ok.mem k).mpr ⟨e, he, hk⟩
    obtain ⟨t, ht⟩ := Value.isStrOf_shape hk
    exact ⟨k, t, hm, ht⟩
  have hlen : vs.length = ls.length := by rw [pm.length_eq, List.length_map, Array.length_toList, hsz]
  have hzl : zs.length = vs.length := by have := hv.length; rwa [List.length_map] at this
  have hsub : ∀ z ∈ ls, z ∈ zs := fun z hz => by
    obtain ⟨e, he, hk⟩ := (ok.mem z).mp hz
    obtain ⟨t, ht⟩ := Value.isStrOf_shape hk
    have hm : e.2 ∈ vs := pm.mem_iff.mpr (List.mem_map.mpr ⟨e, he, rfl⟩)
    rw [← vals_tx hv]
    exact List.mem_map.mpr ⟨e.2, hm, by rw [ht]; rfl⟩
  have pz : zs.Perm ls := perm_of_sub nd hsub (by omega)
  have hS := hv.strs
  have hl64 : vs.length < 64 := by omega
  have hl9 : vs.length ≤ sizeLine := Nat.le_trans (Nat.le_of_lt hl64) (by decide)
  refine wpAny_bind (wpAny_newList ?_ hl9)
  have hob : (s'.heap.push (seqObj "list" vs.toArray 0)).get? s'.heap.objs.size = some (seqObj "list" vs.toArray 0) := Heap.get?_push_size _ rfl
  have fin : wpAny (model X.prog X.w) X.A.in1 (call (.builtin "list.sort") [.ref s'.heap.objs.size]) (fun _ s2 => EP X pins σ Q (.ref s'.heap.objs.size) s2) X.xe { s' with heap := s'.heap.push (seqObj "list" vs.toArray 0) } := by
    refine wpAny_call_entry slot_list_sort ⟨_, hob, rfl⟩ entry_list_sort (list_sort_treeK strKind_oneLt hob hS.keysOf (fun v₁ v₂ rest e => keyKind_strs (by rw [← e]; exact hS)) hl64 fun st' hp hs => ?_) (args_list_sort _)
    obtain ⟨ys, g2, g3, g4⟩ := sorted_out_str hS hp hs
    obtain ⟨c, hc⟩ := sortedHeap_at (vs := vs) (out := (arrOf st').map (·.2)) hob
    have hn : H s'.heap.objs.size = none := I.hok.fresh hz
    have hlen : (ys.map V.str).length ≤ sizeLine := by
      rw [List.length_map, g3.length_eq, hzl]
      exact hl9
    have kk : ∀ b o, s.heap.get? b = some o → (sortedHeap (s'.heap.push (seqObj "list" vs.toArray 0)) s'.heap.objs.size vs ((arrOf st').map (·.2))).get? b = some o := fun b o e => by
      have h1 := k1 b o e
      have h2 := Heap.lt_size h1
      rw [sortedHeap_old (Nat.ne_of_lt h2) (by rw [size_push']; exact Nat.lt_succ_of_lt h2)]
      exact Heap.get?_push_of_some _ h1
    have J : Inv X pins σ (upd H s'.heap.objs.size (.lst (ys.map V.str))) { s with heap := sortedHeap (s'.heap.push (seqObj "list" vs.toArray 0)) s'.heap.objs.size vs ((arrOf st').map (·.2)), gens := s'.gens, drawn := s'.drawn, toks := s'.toks } :=
      I.call (ch := []) (Un.laid kk hz hn) (I.hok.laid kk hz ⟨hlen, ((arrOf st').map (·.2)).toList, c, vals_of_strs g2, hc⟩) (by rw [g1]; exact I.bare) (fun _ z => nomatch z)
    have e : ({ s' with heap := sortedHeap (s'.heap.push (seqObj "list" vs.toArray 0)) s'.heap.objs.size vs ((arrOf st').map (·.2)) } : Shared) = { s with heap := sortedHeap (s'.heap.push (seqObj "list" vs.toArray 0)) s'.heap.objs.size vs ((arrOf st').map (·.2)), gens := s'.gens, drawn := s'.drawn, toks := s'.toks } := by
      obtain ⟨x1, x2, x3, x4, x5⟩ := s'
      obtain ⟨y1, y2, y3, y4, y5⟩ := s
      have o1' : x5 = y5 := o1
      subst o1'
      rfl
    refine ⟨.none, rfl, ?_⟩
    show EP X pins σ Q (.ref s'.heap.objs.size) { s' with heap := sortedHeap (s'.heap.push (seqObj "list" vs.toArray 0)) s'.heap.objs.size vs ((arrOf st').map (·.2)) }
    rw [e]
    exact ⟨.ref s'.heap.objs.size, _, J, rfl, q ys _ (g3.trans pz) g4 hn⟩
  refine wpAny_bind (wpAny_holding (wpAny_mono fin (fun _ s2 x => ?_) fun _ _ e => e))
  exact wpAny_pure ⟨_, rfl, x⟩
end
end Kx
set_option Elab.async false
set_option linter.all false
set_option maxRecDepth 100000
set_option maxHeartbeats 1000000
/-! list(a text), list(reversed(a list)) -/
namespace NL
open PySem PySem.Spec PyProof.Rows
section
variable {prog : Program} {w : World} {A : Around} {E : Value → Shared → Prop} {s : Shared}
theorem typeIs_text (s : Shared) (x : Str) (t : Tok) : s.TypeIs (.str x t) "str" := by first | exact rfl | exact ⟨rfl⟩ | (constructor <;> rfl) | trivial
theorem hint_text {x : Str} {t : Tok} {Q : Bool → Shared → Prop} (h : Q false s) : wpAny (model prog w) A (Builtin.List.listLengthHint (.str x t)) Q E s := by
  have hT : s.TypeIs (.str x t) "str" := typeIs_text s x t
  unfold Builtin.List.listLengthHint
  refine wpAny_bind (wpAny_specialOf hT F.slot_str_len.lookup ?_)
  generalize hid : ("str.__len__" : String) = id0
  wp_delta
  rw [show splitId id0 = some ("str", "__len__") from by subst hid; decide +kernel]
  subst hid
  refine wpAny_bind (wpAny_isInstance (T := "str") (b := true) hT (by rw [isSubtype_type]; kernel_rfl) ?_)
  refine wpAny_ite_split (fun hab => absurd hab (by decide)) (fun _ => ?_)
  refine wpAny_ite_split (fun _ => ?_) (fun hab => absurd (by decide +kernel) hab)
  refine wpAny_bind (wpAny_typeOf hT ?_)
  exact wpAny_pure h
theorem extend_text {R : Result → Shared → Prop} (hh : A.handled = none) (x : Str) (t : Tok) (S : Addr) (res : Value) (c₀ : Nat) (hS : s.heap.get? S = some { cls := .type "list", data := .seq #[] c₀ })
    (hR : ∀ h' tk acc' c', (∀ b o, b ≠ S → s.heap.get? b = some o → h'.get? b = some o) → h'.get? S = some { cls := .type "list", dict := none, data := .seq acc' c', slots := #[] } →
      ItemsOf (SignAt x) acc' x.cps.size → R (.ok (.ret res)) { s with heap := h', toks := tk }) (hn : x.cps.size ≤ sizeLine) :
    wpAny (model prog w) A.in1 (Builtin.List.listExtendWith (.ref S) (.str x t) res)
      (fun fin s' => match fin with | .done f => R (.ok f) s' | .again c' => c'.quiet = true ∧ codeAny (model prog w) A c' R s') (fun e s' => R (.error e) s') s := by
  have hSI : S ≠ s.heap.objs.size := Nat.ne_of_lt (Heap.lt_size hS)
  have hSf : S ∉ [s.heap.objs.size] := fun hm => hSI (List.mem_singleton.mp hm)
  unfold Builtin.List.listExtendWith
  refine wpAny_bind (wpAny_typeOf (T := "str") (v := .str x t) (typeIs_text s x t) ?_)
  have h1 : Builtin.List.listSameRef (.ref S) (.str x t) = false := rfl
  have h2 : (Value.type "str" == Value.type "list") = false := by decide
  have h3 : (Value.type "str" == Value.type "tuple") = false := by decide
  simp only [h1, h2, h3, Bool.or_false, Bool.false_eq_true, if_false]
  refine wpAny_bind (wpAny_pyIter_str fun o St W hst => ?_)
  refine wpAny_bind (wpAny_holding (hint_text ?_))
  rw [if_neg (by first | decide | decide +kernel)]
  refine wpAny_pure ⟨plainId_quiet PySem.F.plain_extend_loop _, codeAny_extend_loopS (W A.in1 hh).toS hn _ hSf _ x.cps.size 0 _ _ _ rfl (Nat.zero_le _) hst (Heap.get?_push_of_some _ hS) (ItemsOf.nil _) fun s' acc' c' hm hS' hacc => ?_⟩
  rw [Moved.eq_with hm]
  refine hR s'.heap s'.toks acc' c' (fun b ob hb e => hm.heap b ob (fun hmem => ?_) (Heap.get?_push_of_some _ e)) hS' hacc
  rcases List.mem_cons.mp hmem with e' | hmem
  · exact hb e'
  · exact absurd (Heap.lt_size e) (by rw [List.mem_singleton.mp hmem]; exact Nat.lt_irrefl _)
theorem list_init_text {R : Result → Shared → Prop} (hh : A.handled = none) (x : Str) (t : Tok) (S : Addr) (hS : s.heap.get? S = some { cls := .type "list", data := .seq #[] })
    (hR : ∀ h' tk acc' c', (∀ b o, b ≠ S → s.heap.get? b = some o → h'.get? b = some o) → h'.get? S = some { cls := .type "list", dict := none, data := .seq acc' c', slots := #[] } →
      ItemsOf (SignAt x) acc' x.cps.size → R (.ok (.ret .none)) { s with heap := h', toks := tk }) (hn : x.cps.size ≤ sizeLine) :
    wpAny (model prog w) A.in1 (Builtin.«list.__init__» ⟨[.ref S, .str x t], []⟩)
      (fun fin s' => match fin with | .done f => R (.ok f) s' | .again c' => c'.quiet = true ∧ codeAny (model prog w) A c' R s') (fun e s' => R (.error e) s') s := by
  show wpAny _ _ (do let old ← Builtin.List.listItems (.ref S); Builtin.List.listUpdate (.ref S) (fun _ => #[]); letGo old.toList.reverse; Builtin.List.listExtendWith (.ref S) (.str x t) .none) _ _ s
  refine wpAny_bind ?_
  unfold Builtin.List.listItems
  refine wpAny_bind (wpAny_seqItems hS rfl (wpAny_pure ?_))
  show wpAny _ _ (updateSeq S (fun _ => #[]) >>= fun _ => letGo (#[] : Array Value).toList.reverse >>= fun _ => Builtin.List.listExtendWith (.ref S) (.str x t) .none) _ _ s
  refine wpAny_bind (wpAny_updateSeq hS rfl ?_)
  have hS₂ := Heap.get?_update_self (Obj.mapSeq (fun _ => (#[] : Array Value))) hS rfl
  have oth : ∀ b o, b ≠ S → s.heap.get? b = some o → (s.heap.update S (Obj.mapSeq (fun _ => (#[] : Array Value)))).get? b = some o :=
    fun b o hb e => (Heap.get?_update_other _ _ (Ne.symm hb)).trans e
  refine wpAny_bind (wpAny_letGo ?_)
  refine extend_text hh x t S .none _ hS₂ (fun h' tk acc' c' hk hS' hacc => ?_) hn
  exact hR h' tk acc' c' (fun b o hb e => hk b o hb (oth b o hb e)) hS' hacc
theorem call_list_text {x : Str} {t : Tok} {Q : Value → Shared → Prop} (hh : A.handled = none) (hn : x.cps.size ≤ sizeLine)
    (hQ : ∀ h' tk acc' c', (∀ b o, s.heap.get? b = some o → h'.get? b = some o) →
      h'.get? s.heap.objs.size = some { cls := .type "list", dict := none, data := .seq acc' c', slots := #[] } → ItemsOf (SignAt x) acc' x.cps.size → Q (.ref s.heap.objs.size) { s with heap := h', toks := tk }) :
    wpAny (model prog w) A (call (.type "list") [.str x t]) Q E s := by
  refine callType_codes (Q₁ := fun obj s₁ => obj = .ref s.heap.objs.size ∧ s₁ = { s with heap := s.heap.push { cls := .type "list", data := .seq #[] } }) PySem.F.called_list (PySem.F.typeCall_list_1 _) PySem.F.entry_list_init
    (code_list_new _ ⟨rfl, rfl⟩) fun obj s₁ h₁ => ?_
  obtain ⟨rfl, rfl⟩ := h₁
  have hS : (s.heap.push { cls := .type "list", data := .seq #[] }).get? s.heap.objs.size = some { cls := .type "list", data := .seq #[] } := Heap.get?_push_size _ rfl
  refine ⟨⟨_, hS, rfl⟩, PySem.F.args_list_init_2 _ _, list_init_text (A := A.in1) hh x t _ hS (fun h' tk acc' c' hk hS' hacc => ?_) hn⟩
  exact ⟨rfl, hQ h' tk acc' c' (fun b o e => hk b o (Nat.ne_of_lt (Heap.lt_size e)) (Heap.get?_push_of_some _ e)) hS' hacc⟩
/-! ### list(reversed(a list)) -/
theorem extend_rev {R : Result → Shared → Prop} {it l : Addr} {items : Array Value} (hh : A.handled = none) (hit : s.heap.IsRevIter it l ((items.size : Int) - 1)) (hl : s.heap.IsList l items) (hne : l ≠ it) (S : Addr) (hSi : S ≠ it) (hSl : S ≠ l) (res : Value) (c₀ : Nat)
    (hS : s.heap.get? S = some { cls := .type "list", data := .seq #[] c₀ })
    (hR : ∀ h' tk acc' c', (∀ b o, b ≠ S → b ≠ it → s.heap.get? b = some o → h'.get? b = some o) → h'.get? S = some { cls := .type "list", dict := none, data := .seq acc' c', slots := #[] } →
      ItemsOf (fun i v => items[items.size - 1 - i]? = some v) acc' items.size → R (.ok (.ret res)) { s with heap := h', toks := tk }) (hn : items.size ≤ sizeLine) :
    wpAny (model prog w) A.in1 (Builtin.List.listExtendWith (.ref S) (.ref it) res)
      (fun fin s' => match fin with | .done f => R (.ok f) s' | .again c' => c'.quiet = true ∧ codeAny (model prog w) A c' R s') (fun e s' => R (.error e) s') s := by
  have W := (Walks.listRev (prog := prog) (w := w) (A := A.in1) hh it l hne items).toS
  have hSf : S ∉ [it, l] := by simp only [List.mem_cons, List.not_mem_nil, or_false, not_or]; exact ⟨hSi, hSl⟩
  have hT : s.TypeIs (.ref it) "list_reverseiterator" := Heap.IsRevIter.typeIs hit
  have h1 : Builtin.List.listSameRef (.ref S) (.ref it) = false := by simp [Builtin.List.listSameRef, hSi]
  unfold Builtin.List.listExtendWith
  refine wpAny_bind (wpAny_typeOf hT ?_)
  rw [if_neg (by rw [h1]; decide)]
  refine wpAny_bind (wpAny_pyIter_revIter hit ?_)
  refine wpAny_bind (wpAny_holding ?_)
  unfold Builtin.List.listLengthHint
  refine wpAny_bind (wpAny_specialOf hT RT.nolen_lri ?_)
  show wpAny _ A.in1 (specialOf (Value.ref it) (Str.ofString "__length_hint__") >>= _) _ _ _
  refine wpAny_bind (wpAny_specialOf hT RT.hint_lri ?_)
  generalize hid : ("list_reverseiterator.__length_hint__" : String) = id0
  wp_delta
  rw [show splitId id0 = some ("list_reverseiterator", "__length_hint__") from by subst hid; decide +kernel]
  subst hid
  refine wpAny_bind (wpAny_isInstance (b := true) hT (by rw [isSubtype_type]; kernel_rfl) ?_)
  refine wpAny_pure ?_
  rw [if_neg (by decide)]
  have e0 : ((items.size : Nat) : Int) - 1 - ((0 : Nat) : Int) = (items.size : Int) - 1 := by omega
  refine wpAny_pure ⟨plainId_quiet F.plain_extend_loop _, codeAny_extend_loopS W hn _ hSf _ items.size 0 _ _ _ rfl (Nat.zero_le _) ⟨Nat.zero_le _, by rw [e0]; exact hit, hl⟩ hS (ItemsOf.nil _) fun s' acc' c' hm hS' hacc => ?_⟩
  rw [Moved.eq_with hm]
  refine hR s'.heap s'.toks acc' c' (fun b o hb1 hb2 e => hm.heap b o (fun hmem => ?_) e) hS' hacc
  rcases List.mem_cons.mp hmem with e' | hmem
  · exact hb1 e'
  · exact hb2 (List.mem_singleton.mp hmem)
theorem list_init_rev {R : Result → Shared → Prop} {it l : Addr} {items : Array Value} (hh : A.handled = none) (hit : s.heap.IsRevIter it l ((items.size : Int) - 1)) (hl : s.heap.IsList l items) (hne : l ≠ it) (S : Addr) (hSi : S ≠ it) (hSl : S ≠ l)
    (hS : s.heap.get? S = some { cls := .type "list", data := .seq #[] })
    (hR : ∀ h' tk acc' c', (∀ b o, b ≠ S → b ≠ it → s.heap.get? b = some o → h'.get? b = some o) → h'.get? S = some { cls := .type "list", dict := none, data := .seq acc' c', slots := #[] } →
      ItemsOf (fun i v => items[items.size - 1 - i]? = some v) acc' items.size → R (.ok (.ret .none)) { s with heap := h', toks := tk }) (hn : items.size ≤ sizeLine) :
    wpAny (model prog w) A.in1 (Builtin.«list.__init__» ⟨[.ref S, .ref it], []⟩)
      (fun fin s' => match fin with | .done f => R (.ok f) s' | .again c' => c'.quiet = true ∧ codeAny (model prog w) A c' R s') (fun e s' => R (.error e) s') s := by
  show wpAny _ _ (do let old ← Builtin.List.listItems (.ref S); Builtin.List.listUpdate (.ref S) (fun _ => #[]); letGo old.toList.reverse; Builtin.List.listExtendWith (.ref S) (.ref it) .none) _ _ s
  refine wpAny_bind ?_
  unfold Builtin.List.listItems
  refine wpAny_bind (wpAny_seqItems hS rfl (wpAny_pure ?_))
  show wpAny _ _ (updateSeq S (fun _ => #[]) >>= fun _ => letGo (#[] : Array Value).toList.reverse >>= fun _ => Builtin.List.listExtendWith (.ref S) (.ref it) .none) _ _ s
  refine wpAny_bind (wpAny_updateSeq hS rfl ?_)
  have hS₂ := Heap.get?_update_self (Obj.mapSeq (fun _ => (#[] : Array Value))) hS rfl
  have oth : ∀ b o, b ≠ S → s.heap.get? b = some o → (s.heap.update S (Obj.mapSeq (fun _ => (#[] : Array Value)))).get? b = some o :=
    fun b o hb e => (Heap.get?_update_other _ _ (Ne.symm hb)).trans e
  refine wpAny_bind (wpAny_letGo ?_)
  refine extend_rev (s := { s with heap := s.heap.update S (Obj.mapSeq (fun _ => (#[] : Array Value))) }) hh (hit.at fun o e => oth _ o (Ne.symm hSi) e) ?_ hne S hSi hSl .none _ hS₂ (fun h' tk acc' c' hk hS' hacc => ?_) hn
  · obtain ⟨o, ho, r⟩ := hl
    exact ⟨o, oth _ _ (Ne.symm hSl) ho, r⟩
  · exact hR h' tk acc' c' (fun b o hb1 hb2 e => hk b o hb1 hb2 (oth b o hb1 e)) hS' hacc
theorem call_list_rev {it l : Addr} {items : Array Value} {Q : Value → Shared → Prop} (hh : A.handled = none) (hit : s.heap.IsRevIter it l ((items.size : Int) - 1)) (hl : s.heap.IsList l items) (hne : l ≠ it) (hn : items.size ≤ sizeLine)
    (hQ : ∀ h' tk acc' c', (∀ b o, b ≠ it → s.heap.get? b = some o → h'.get? b = some o) →
      h'.get? s.heap.objs.size = some { cls := .type "list", dict := none, data := .seq acc' c', slots := #[] } → ItemsOf (fun i v => items[items.size - 1 - i]? = some v) acc' items.size → Q (.ref s.heap.objs.size) { s with heap := h', toks := tk }) :
    wpAny (model prog w) A (call (.type "list") [.ref it]) Q E s := by
  obtain ⟨oi, hoi, _⟩ := id hit
  obtain ⟨ol, hol, _⟩ := id hl
  have hSi : s.heap.objs.size ≠ it := Nat.ne_of_gt (Heap.lt_size hoi)
  have hSl : s.heap.objs.size ≠ l := Nat.ne_of_gt (Heap.lt_size hol)
  refine callType_codes (Q₁ := fun obj s₁ => obj = .ref s.heap.objs.size ∧ s₁ = { s with heap := s.heap.push { cls := .type "list", data := .seq #[] } }) PySem.F.called_list (PySem.F.typeCall_list_1 _) PySem.F.entry_list_init
    (code_list_new _ ⟨rfl, rfl⟩) fun obj s₁ h₁ => ?_
  obtain ⟨rfl, rfl⟩ := h₁
  have hS : (s.heap.push { cls := .type "list", data := .seq #[] }).get? s.heap.objs.size = some { cls := .type "list", data := .seq #[] } := Heap.get?_push_size _ rfl
  refine ⟨⟨_, hS, rfl⟩, PySem.F.args_list_init_2 _ _, list_init_rev (A := A.in1) (s := { s with heap := s.heap.push { cls := .type "list", data := .seq #[] } }) hh (hit.at fun o e => Heap.get?_push_of_some _ e) (hl.push _) hne _ hSi hSl hS (fun h' tk acc' c' hk hS' hacc => ?_) hn⟩
  exact ⟨rfl, hQ h' tk acc' c' (fun b o hb e => hk b o (Nat.ne_of_lt (Heap.lt_size e)) hb (Heap.get?_push_of_some _ e)) hS' hacc⟩
end
end NL
set_option Elab.async false
set_option linter.all false
set_option maxRecDepth 100000
set_option maxHeartbeats 1000000
/-! the rules for list(a text), list(reversed(a list)) -/
namespace L2
open PySem PySem.Spec PyProof.Rows
section
variable {X : Cx}
/-- list(z), z a text: a new list of its letters -/
def lettersV (z : Str) : List V := z.cps.toList.map fun c => V.str ⟨#[c]⟩
theorem call_listX (hc : X.calm = true) : CallR X (.type "list") (fun xs H Q => ∃ z : Str, xs = [.str z] ∧ z.length ≤ sizeLine ∧ ∀ l, H l = none → Q (.ref l) (upd H l (.lst (lettersV z)))) := by
  intro pins s σ H xs us Q I r q
  obtain ⟨z, ex, hz, q⟩ := q
  subst ex
  obtain ⟨u, eu, rx⟩ := vals1 r
  subst eu
  obtain ⟨t, rfl⟩ := rx
  refine NL.call_list_text (I.ok.hd hc) hz fun h' tk acc c' hk hD hacc => ?_
  have hv : Vals (lettersV z) acc.toList := vals_of_idx _ _ (by rw [Array.length_toList, hacc.1]; show z.cps.size = (z.cps.toList.map _).length; rw [List.length_map, Array.length_toList]) fun j v hj => by
    obtain ⟨c, t', hc2, rfl⟩ := hacc.2 j v (by rw [← Array.getElem?_toList]; exact hj)
    exact ⟨.str ⟨#[c]⟩, by unfold lettersV; rw [List.getElem?_map, Array.getElem?_toList, hc2]; rfl, t', rfl⟩
  exact ⟨.ref s.heap.objs.size, upd H s.heap.objs.size (.lst (lettersV z)), I.laid (t' := tk) hk (Nat.le_refl _)
    (show ObjOk X.prog X.w _ _ _ (.lst (lettersV z)) from ⟨by unfold lettersV; rw [List.length_map, Array.length_toList]; exact hz, acc.toList, c', hv, by rw [Array.toArray_toList]; exact hD⟩), rfl, q _ (I.hok.fresh (Nat.le_refl _))⟩
/-- list(reversed(x)), x a list: a new list -/
def tLstRev (K : PySem.W.Frag) (te : TE) : TE := fun σ H Q => te σ H fun v H1 => ∃ (a : Addr) (xs : List V), v = .ref a ∧ SqL K H1 a xs ∧ ∀ q, H1 q = none → Q (.ref q) (upd H1 q (.lst xs.reverse))
theorem pe_lstRev {e : Expr} {te : TE} {p p2 pos pos2 : Pos} (hc : X.calm = true) (hg : Gl X "list") (hm : X.mg "list" = none) (hg2 : Gl X "reversed") (hm2 : X.mg "reversed" = none) (he : PE X e te)
    (hs : starEach [e] X.env = (false, eval e X.env) :: starEach [] X.env := by rfl)
    (hs2 : starEach [.Call (.Name "reversed" p2) [e] [] pos2] X.env = (false, eval (.Call (.Name "reversed" p2) [e] [] pos2) X.env) :: starEach [] X.env := by rfl) :
    PE X (.Call (.Name "list" p) [.Call (.Name "reversed" p2) [e] [] pos2] [] pos) (tLstRev X.K te) := by
  refine ⟨fun pins s σ H Q I h => ?_⟩
  refine Call_ (ld_blt I hg hm boot_list (PyProof.Rows.callWith_type1 (args_cons (Call_ (ld_blt I hg2 hm2 PyProof.Rows.boot_reversed (PyProof.Rows.callWith_type1 (args_cons (thn (he.run pins s σ H _ I h) fun u s1 ⟨v, H1, I1, r1, q1⟩ => args_nil ?_) hs) hs rfl))) hs2) hs2 rfl))
  obtain ⟨a, xs, ev, hq, q⟩ := q1
  subst ev
  obtain rfl : u = Value.ref a := r1
  obtain ⟨its, rv, p', hz⟩ := I1.list hq
  refine call_reversed_list p'.isList (args_nil ?_)
  have k0 : ∀ b o, s1.heap.get? b = some o → (s1.heap.push (revObj a ((its.toArray.size : Int) - 1))).get? b = some o := fun b o e => Heap.get?_push_of_some _ e
  have I2 : Inv X pins σ H1 { s1 with heap := s1.heap.push (revObj a ((its.toArray.size : Int) - 1)) } := I1.kept (t' := s1.toks) k0
  obtain ⟨f0, f1, f2, f3, f4, f5⟩ := I1.fpOk (H' := H1) (b := s1.heap.objs.size) (Nat.le_refl _) (I1.hok.fresh (Nat.le_refl _))
  have hl := p'.isList
  obtain ⟨ol, hol, _⟩ := id hl
  have hne : a ≠ s1.heap.objs.size := Nat.ne_of_lt (Heap.lt_size hol)
  have hn : its.toArray.size ≤ sizeLine := by rw [List.size_toArray, ← rv.length]; exact hz
  refine NL.call_list_rev (s := { s1 with heap := s1.heap.push (revObj a ((its.toArray.size : Int) - 1)) }) (I1.ok.hd hc) ⟨_, Heap.get?_push_size _ rfl, rfl, rfl⟩ (hl.push _) hne hn fun h' tk acc c' hk hD hi => ?_
  have hsz : (s1.heap.push (revObj a ((its.toArray.size : Int) - 1))).objs.size = s1.heap.objs.size + 1 := by simp [Heap.push]
  have I3 := I2.turnedNew (t' := tk) (h' := h') (ch := [s1.heap.objs.size]) (T := (s1.heap.push (revObj a ((its.toArray.size : Int) - 1))).objs.size) (ob := .lst xs.reverse) (fun b o hb e => hk b o (fun z => hb (by rw [z]; exact List.mem_cons_self ..)) e)
    (fun b hb => by rw [List.mem_singleton.mp hb]; exact ⟨f0, f1, f2, f3, f4, f5⟩) (Nat.le_refl _) (show ObjOk X.prog X.w _ _ _ (.lst xs.reverse) from ⟨by rw [List.length_reverse]; exact hz, acc.toList, c', RT.vals_rev rv hi, by rw [Array.toArray_toList]; exact hD⟩)
  exact ⟨.ref _, _, I3, rfl, q _ (I1.hok.fresh (by rw [hsz]; exact Nat.le_succ _))⟩
end
end L2
set_option Elab.async false
set_option linter.all false
set_option maxRecDepth 100000
set_option maxHeartbeats 4000000
namespace Kx
open PySem PySem.Spec PyProof.Rows L2
theorem rising_pair : ∀ {cs : List Nat} {p : Nat}, risingS (one1 p) (cs.map one1) = true → (p :: cs).Pairwise (· ≤ ·)
  | [], p, _ => List.pairwise_singleton ..
  | c :: cs, p, h => by
    simp only [List.map_cons, risingS, Bool.and_eq_true] at h
    have ih := rising_pair h.2
    have hpc : p ≤ c := by
      have h1 := h.1
      by_cases hlt : c < p
      · exfalso
        have : ltCps (one1 c).cps.toList (one1 p).cps.toList = true := by
          show ltCps [c] [p] = true
          simp [ltCps, hlt]
        rw [this] at h1
        cases h1
      · omega
    refine List.pairwise_cons.mpr ⟨fun d hd => ?_, ih⟩
    rcases List.mem_cons.mp hd with e | hd
    · rw [e]; exact hpc
    · exact Nat.le_trans hpc (List.rel_of_pairwise_cons ih hd)
theorem one1_list (c : Nat) : (one1 c).cps.toList = [c] := rfl
theorem sorted_signs {l : List Nat} {ys : List Str} (hp : ys.Perm (l.map one1)) (hs : sortedS ys = true) : ∃ cs : List Nat, ys = cs.map one1 ∧ cs.Perm l ∧ cs.Pairwise (· ≤ ·) := by
  have e1 : ∀ y ∈ ys, one1 (y.cps.toList.headD 0) = y := fun y hy => by
    obtain ⟨c, _, rfl⟩ := List.mem_map.mp (hp.mem_iff.mp hy)
    rfl
  have e2 : ys = (ys.map fun y => y.cps.toList.headD 0).map one1 := by
    rw [List.map_map]
    have : ys.map id = ys.map (one1 ∘ fun y => y.cps.toList.headD 0) := List.map_congr_left fun y hy => (e1 y hy).symm
    rw [List.map_id] at this
    exact this
  have e3 : (ys.map fun y => y.cps.toList.headD 0).Perm l := by
    have := hp.map fun y : Str => y.cps.toList.headD 0
    rw [List.map_map] at this
    have e4 : (l.map ((fun y : Str => y.cps.toList.headD 0) ∘ one1)) = l := by
      have : ((fun y : Str => y.cps.toList.headD 0) ∘ one1) = id := rfl
      rw [this, List.map_id]
    rw [e4] at this
    exact this
  refine ⟨_, e2, e3, ?_⟩
  rw [e2] at hs
  generalize (ys.map fun y => y.cps.toList.headD 0) = cs at hs
  cases cs with
  | nil => exact .nil
  | cons c cs => exact rising_pair hs

theorem ascL_iff {l : List Nat} : ascL l = true ↔ l.Pairwise (· < ·) := by
  induction l with
  | nil => exact ⟨fun _ => .nil, fun _ => rfl⟩
  | cons c l ih =>
    cases l with
    | nil => exact ⟨fun _ => List.pairwise_singleton _ _, fun _ => rfl⟩
    | cons d l =>
      have e : ascL (c :: d :: l) = (decide ([c] < [d]) && ascL (d :: l)) := rfl
      have ltc : ([c] < [d]) ↔ c < d := by
        rw [List.cons_lt_cons_iff]
        exact ⟨fun h => h.elim id fun h => absurd h.2 (List.not_lt_nil _), .inl⟩
      rw [e, Bool.and_eq_true, decide_eq_true_eq, ih, ltc]
      constructor
      · rintro ⟨h1, h2⟩
        refine List.pairwise_cons.mpr ⟨fun x hx => ?_, h2⟩
        rcases List.mem_cons.mp hx with rfl | hx
        · exact h1
        · exact Nat.lt_trans h1 ((List.pairwise_cons.mp h2).1 x hx)
      · intro h
        exact ⟨(List.pairwise_cons.mp h).1 d (List.mem_cons_self ..), (List.pairwise_cons.mp h).2⟩
theorem one1_inj {a b : Nat} (h : one1 a = one1 b) : a = b := by
  have := congrArg (fun y : Str => y.cps.toList) h
  exact (List.cons.inj this).1
theorem asc_unique {a b : List Nat} (ha : a.Pairwise (· < ·)) (hb : b.Pairwise (· < ·)) (hm : ∀ x, x ∈ a ↔ x ∈ b) : a = b :=
  List.Perm.eq_of_pairwise (fun x y _ _ h1 h2 => absurd h1 (by omega)) ha hb ((List.perm_ext_iff_of_nodup (ha.imp fun h => Nat.ne_of_lt h) (hb.imp fun h => Nat.ne_of_lt h)).mpr hm)
/-- a text's signs, and the sorted set of them -/
theorem sorted_set_iff {l : List Nat} {ls ys : List Str} (hm : ∀ z, z ∈ ls ↔ z ∈ l.map one1) (hn : ls.Nodup) (hp : ys.Perm ls) (hs : sortedS ys = true) : ∃ cs : List Nat, ys = cs.map one1 ∧ (∀ c ∈ cs, c ∈ l) ∧ cs.length ≤ l.length ∧ (l = cs ↔ ascL l = true) := by
  obtain ⟨k, hk⟩ : ∃ k : List Nat, ls = k.map one1 := by
    have : ∀ ls : List Str, (∀ z ∈ ls, z ∈ l.map one1) → ∃ k : List Nat, ls = k.map one1 := by
      intro ls
      induction ls with
      | nil => intro _; exact ⟨[], rfl⟩
      | cons z ls ih =>
        intro h
        obtain ⟨c, _, rfl⟩ := List.mem_map.mp (h z (List.mem_cons_self ..))
        obtain ⟨k, rfl⟩ := ih fun y hy => h y (List.mem_cons_of_mem _ hy)
        exact ⟨c :: k, rfl⟩
    exact this ls fun z hz => (hm z).mp hz
  subst hk
  obtain ⟨cs, rfl, hcp, hcs⟩ := sorted_signs hp hs
  have hkn : k.Nodup := by
    have := List.Pairwise.of_map one1 (fun a b (h : one1 a ≠ one1 b) e => h (congrArg one1 e)) hn
    exact this
  have hcn : cs.Nodup := hcp.nodup_iff.mpr hkn
  have hmem : ∀ c, c ∈ cs ↔ c ∈ l := fun c => by
    rw [hcp.mem_iff]
    constructor
    · intro h
      obtain ⟨d, hd, e⟩ := List.mem_map.mp ((hm (one1 c)).mp (List.mem_map.mpr ⟨c, h, rfl⟩))
      rw [← one1_inj e]
      exact hd
    · intro h
      obtain ⟨d, hd, e⟩ := List.mem_map.mp ((hm (one1 c)).mpr (List.mem_map.mpr ⟨c, h, rfl⟩))
      rw [← one1_inj e]
      exact hd
  have hlt := lt_of_le_nd hcs hcn
  refine ⟨cs, rfl, fun c hc => (hmem c).mp hc, nat_nodup_len cs l hcn fun x hx => (hmem x).mp hx, fun e => ?_, fun e => ?_⟩
  · rw [e]; exact ascL_iff.mpr hlt
  · exact asc_unique (ascL_iff.mp e) hlt fun x => (hmem x).symm
theorem dp_signs {K : PySem.W.Frag} {H : Hp} {a : Addr} {cs : List Nat} (h : H a = some (.lst ((cs.map one1).map V.str))) : Dp K H (.ref a) (.list ((cs.map one1).map PyData.str)) := by
  refine .lst (SqL.of h) ?_
  clear h
  induction cs with
  | nil => exact .nil
  | cons c cs ih => exact .cons (.str _) ih
theorem pure_signs {cs : List Nat} (h : ∀ c ∈ cs, c < 0x110000) : pureD (.list ((cs.map one1).map PyData.str)) = true := by
  simp only [pureD]
  rw [List.map_map]
  exact pureL_map fun c hc => strOk1 (h c hc)
theorem shaped_signs {cs : List Nat} (h : ∀ c ∈ cs, c < 0x110000) : SeqAt.shaped (.list ((cs.map one1).map PyData.str)) = true := by
  refine shaped_of (pure_signs h) ?_
  have h : PyData.depthAll ((cs.map one1).map PyData.str) ≤ 0 := by
    rw [List.map_map]
    exact depthAll_map fun _ _ => by simp [PyData.depth]
  simp only [PyData.depth]
  omega
theorem eqv_signs {cs ds : List Nat} (hc : ∀ c ∈ cs, c < 0x110000) (hd : ∀ c ∈ ds, c < 0x110000) : PyData.eqv (.list ((cs.map one1).map PyData.str)) (.list ((ds.map one1).map PyData.str)) = decide (cs = ds) := by
  have h := eqv_pure (pure_signs hc) (pure_signs hd)
  by_cases e : cs = ds
  · rw [decide_eq_true e, h, e]
  · rw [decide_eq_false e]
    cases q : PyData.eqv (.list ((cs.map one1).map PyData.str)) (.list ((ds.map one1).map PyData.str)) with
    | false => rfl
    | true =>
      have h2 := h.mp q
      injection h2 with h2
      have h3 := (List.map_inj_right (f := PyData.str) (fun x y e => by injection e)).mp h2
      exact absurd ((List.map_inj_right (f := one1) (fun x y e => one1_inj e)).mp h3) e
end Kx
set_option Elab.async false
set_option linter.all false
set_option maxRecDepth 100000
set_option maxHeartbeats 4000000
namespace Kx
open PySem PySem.Spec PyProof.Rows L2
theorem letters_lt2 : ∀ c ∈ namesL, c < 0x110000 := by decide +kernel
theorem lettersV_eq (z : Str) : lettersV z = (z.cps.toList.map one1).map V.str := by
  unfold lettersV
  rw [List.map_map]
  rfl
section
variable {P : Program} {w : World} {K : PySem.W.Frag} {mg : Str → Option Value} {base : Heap}
/-- list(x) == sorted(set(list(x))) -/
theorem asc_end {X : Cx} {H : Hp} {z : Str} {Q : VK} (h8 : z.length ≤ 8) (hz : ∀ c ∈ z.cps.toList, c < 0x110000) (q : ∀ H', Same H H' → Q (.bl (ascL z.cps.toList)) H') :
    tOp (rEqD X.K) (tCB (fun xs H Q => ∃ z : Str, xs = [.str z] ∧ z.length ≤ sizeLine ∧ ∀ l, H l = none → Q (.ref l) (upd H l (.lst (lettersV z)))) (tCons (tVar 0) tNil))
      (tCB (fun xs H Q => ∃ (a : Addr) (ls : List Str), xs = [.ref a] ∧ H a = some (SetX X.prog X.w a ls) ∧ ls.length < 64 ∧ ∀ (ys : List Str) (p : Addr), ys.Perm ls → sortedS ys = true → H p = none → Q (.ref p) (upd H p (.lst (ys.map V.str))))
        (tCons (tCB (fun xs H Q => ∃ (l : Addr) (zs : List Str), xs = [.ref l] ∧ SqL X.K H l (zs.map V.str) ∧ zs.length < 64 ∧ ∀ a ls, H a = none → (∀ z, z ∈ ls ↔ z ∈ zs) → ls.Nodup → ls.length ≤ zs.length → Q (.ref a) (upd H a (SetX X.prog X.w a ls)))
          (tCons (tCB (fun xs H Q => ∃ z : Str, xs = [.str z] ∧ z.length ≤ sizeLine ∧ ∀ l, H l = none → Q (.ref l) (upd H l (.lst (lettersV z)))) (tCons (tVar 0) tNil)) tNil)) tNil)) [some (.str z), none] H Q := by
  have hl : z.cps.toList.length = z.length := Array.length_toList
  have hsz : z.length ≤ sizeLine := Nat.le_trans h8 (by decide)
  refine ⟨.str z, rfl, z, rfl, hsz, fun l1 h1 => ⟨.str z, rfl, z, rfl, hsz, fun l2 h2 => ⟨l2, z.cps.toList.map one1, rfl, SqL.of (by rw [upd_same, lettersV_eq]), by rw [List.length_map, hl]; omega, fun a ls ha hm hn hle => ⟨a, ls, rfl, upd_same, by rw [List.length_map, hl] at hle; omega, fun ys p hp hs hpn => ?_⟩⟩⟩⟩
  obtain ⟨cs, rfl, hc, hcl, hiff⟩ := sorted_set_iff hm hn hp hs
  have s1 := same_upd (o := .lst (lettersV z)) h1
  have s2 := same_upd (o := .lst (lettersV z)) h2
  have s3 := same_upd (o := SetX X.prog X.w a ls) ha
  have s4 := same_upd (o := .lst ((cs.map one1).map V.str)) hpn
  have e1 := s4 _ _ (s3 _ _ (s2 _ _ (upd_same (H := H) (a := l1) (o := .lst (lettersV z)))))
  replace e1 := e1.trans (congrArg (fun x => some (HO.lst x)) (lettersV_eq z))
  refine ⟨_, _, dp_signs e1, dp_signs upd_same, shaped_signs hz, shaped_signs fun c h => hz c (hc c h), ?_⟩
  rw [eqv_signs hz fun c h => hz c (hc c h)]
  have e2 : decide (z.cps.toList = cs) = ascL z.cps.toList := by
    cases h : ascL z.cps.toList with
    | true => exact decide_eq_true (hiff.mpr h)
    | false => exact decide_eq_false fun e => by rw [hiff.mp e] at h; cases h
  rw [e2]
  exact q _ (s1.trans (s2.trans (s3.trans s4)))
def sp_law_alphabet_good : Sp := fun vs H Q _ => ∃ (v : V) (d : PyData), vs = [v] ∧ Rp H v d ∧ smallT d ∧ ∀ H', Same H H' → Q (.bl (alphaD d)) H'
theorem ok_law_alphabet_good (T : Txt K mg) : Cal P w K mg base CX0 1 "_law_alphabet_good" ["_law_thing"] sp_law_alphabet_good := by
  obtain ⟨fd, F⟩ := F__law_alphabet_good T
  refine cal_mk F (g__law_alphabet_good T) sc__law_alphabet_good (fun _ _ _ _ _ _ us hl => match us, hl with | [_], _ => rfl) (fun vs H Q E h => ?_) (fun cdv A outer s H vs Q E hr h => ?_)
  · obtain ⟨v, d, rfl, _⟩ := h; rfl
  · refine ⟨_, PSs.nox (pss_cons (ps_if (PW.pt (pw_or (pt_not (pt_val (pe_callB call_isB (by rfl) (fr_isinstance T) b_isinstance (pa_cons (pv 0) (pa_cons (pe_ty (fr_str T) b_str) pa_nil))))) (pw_or (pt_cmpR op_lt (pe_callB call_len (by rfl) (fr_len T) boot_len (pa_cons (pv 0) pa_nil)) pe_int (nomark _)) (pw_or1 (pt_cmpR op_gt (pe_callB call_len (by rfl) (fr_len T) boot_len (pa_cons (pv 0) pa_nil)) pe_int (nomark _)))))) (pss_one (ps_ret pe_bl)) pss_nil)
        (pss_cons (ps_if (pt_not (pt_val (pe_callB (cr_all rfl) (by rfl) (fr_all T) b_all (pa_cons (pe_lc (own := [("_law_letter", 1)]) (g := (gName 1)) (tt := tYes) rfl sc__law_alphabet_good.nd  (pi_str (pv 0)) (blkOk_by (N := N__law_alphabet_good) (sc := defScope s__law_alphabet_good) (by decide +kernel)) (fun _ _ _ _ _ => (pg_name (i := 1) sc__law_alphabet_good.nd rfl (Or.inl rfl))) (fun _ _ _ _ _ => pts_nil) (fun _ _ _ _ _ => (pe_cmpR op_in_sign (pv 1) pe_str rfl))) pa_nil)))) (pss_one (ps_ret pe_bl)) pss_nil)
        (pss_one (ps_ret (pe_cmpR (op_eqD (hu64 hr)) (pe_callTy (call_listX rfl) (by rfl) (fr_list T) b_list (pa_cons (pv 0) pa_nil)) (pe_callB (cr_sortedX rfl) (by rfl) (fr_sorted T) b_sorted (pa_cons (pe_callTy (cr_setX rfl) (by rfl) (fr_set T) b_set (pa_cons (pe_callTy (call_listX rfl) (by rfl) (fr_list T) b_list (pa_cons (pv 0) pa_nil)) pa_nil)) pa_nil)) (nomark _)))))), ?_⟩
    obtain ⟨v, d, rfl, rd, sm, q⟩ := h
    refine ⟨v, rfl, v, "str", kd d, rfl, rd.ko, k_str _, _, rfl, ?_⟩
    cases hb : (kd d).is "str" with
    | false =>
      refine iteT (iteT ?_)
      rw [kd_nstr hb] at q
      exact q H (Same.refl H)
    | true =>
      refine iteF ?_
      obtain ⟨z, rfl⟩ := kd_str hb
      cases rd
      have hz : z.cps.toList.length = z.length := Array.length_toList
      have hzs : z.length ≤ 100000 := sm z rfl
      have bad : ¬ (1 ≤ z.length ∧ z.length ≤ 8) → alphaD (.str z) = false := fun hn => by
        show alphaL z.cps.toList = false
        unfold alphaL
        rw [hz, decide_eq_false hn, Bool.false_and]
      refine ⟨.str z, rfl, _, _, rfl, lenV_str hzs, _, 1, rfl, rfl, _, rfl, ?_⟩
      by_cases h1 : (z.length : Int) < 1
      · rw [decide_eq_true h1]
        refine iteT (iteT ?_)
        rw [bad (by omega)] at q
        exact q H (Same.refl H)
      · rw [decide_eq_false h1]
        refine iteF ⟨.str z, rfl, _, _, rfl, lenV_str hzs, _, 8, rfl, rfl, _, rfl, ?_⟩
        by_cases h8 : (8 : Int) < (z.length : Int)
        · rw [decide_eq_true h8]
          refine iteT ?_
          rw [bad (by omega)] at q
          exact q H (Same.refl H)
        · rw [decide_eq_false h8]
          refine iteF ⟨.str z, rfl, z, rfl, fun D hD => ?_⟩
          refine lc_new walk_str hD (Nat.le_trans (by show z.length ≤ 100000; exact hzs) (by decide)) (fun (i : Nat) _ v => ∀ c, z.cps.toList[i]? = some c → v = V.bl (decide (c ∈ lettersL))) (fun _ _ _ _ _ h => h) (fun _ _ => trivial)
            (fun i x H2 H3 Qk hi sH hy hk => ?_) (fun H2 acc s2 hD2 hl hv => ?_)
          · obtain ⟨e, c, hc, rfl⟩ := hy
            subst e
            refine ⟨rfl, .str ⟨#[c]⟩, rfl, c, "abcdefgh", rfl, rfl, hk _ _ (Same.refl _) fun c' hc' => ?_⟩
            rw [Array.getElem?_toList, hc] at hc'
            cases hc'
            rfl
          · have ea : acc = (z.cps.toList.map fun c => decide (c ∈ lettersL)).map V.bl := by
              refine bls_of (by rw [List.length_map, hz]; exact hl) fun i v hi b hb => ?_
              rw [List.getElem?_map] at hb
              obtain ⟨c, hc, rfl⟩ := Option.map_eq_some_iff.mp hb
              exact hv i v hi c hc
            refine ⟨D, _, rfl, SqL.of (by rw [hD2, ea]), ?_⟩
            have hmain : alphaD (.str z) = ((z.cps.toList.map fun c => decide (c ∈ lettersL)).all id && ascL z.cps.toList) := by
              show alphaL z.cps.toList = _
              unfold alphaL
              have hn : 1 ≤ z.length ∧ z.length ≤ 8 := by omega
              rw [hz, decide_eq_true hn, Bool.true_and, List.all_map]
              rfl
            refine ⟨_, rfl, ?_⟩
            cases hk1 : (z.cps.toList.map fun c => decide (c ∈ lettersL)).all id with
            | false =>
              refine iteT ?_
              rw [hmain, hk1, Bool.false_and] at q
              exact q H2 s2
            | true =>
              refine iteF ?_
              rw [hmain, hk1, Bool.true_and] at q
              have hlt : ∀ c ∈ z.cps.toList, c < 0x110000 := fun c hc => by
                rw [List.all_map, List.all_eq_true] at hk1
                exact letters_lt c (of_decide_eq_true (hk1 c hc))
              exact asc_end (X := (cxOf CX0 P w K mg base N__law_alphabet_good "_law_alphabet_good" (defScope s__law_alphabet_good) (He.ga K "_law_alphabet_good") cdv A outer s H E).nox) (by omega) hlt fun H' s' => q H' (s2.trans s')
def sp_law_names_good : Sp := fun vs H Q _ => ∃ (v : V) (d : PyData), vs = [v] ∧ Rp H v d ∧ smallT d ∧ ∀ H', Same H H' → Q (.bl (namesD d)) H'
theorem ok_law_names_good (T : Txt K mg) : Cal P w K mg base CX0 1 "_law_names_good" ["_law_thing"] sp_law_names_good := by
  obtain ⟨fd, F⟩ := F__law_names_good T
  refine cal_mk F (g__law_names_good T) sc__law_names_good (fun _ _ _ _ _ _ us hl => match us, hl with | [_], _ => rfl) (fun vs H Q E h => ?_) (fun cdv A outer s H vs Q E hr h => ?_)
  · obtain ⟨v, d, rfl, _⟩ := h; rfl
  · refine ⟨_, PSs.nox (pss_cons (ps_if (PW.pt (pw_or (pt_not (pt_val (pe_callB call_isB (by rfl) (fr_isinstance T) b_isinstance (pa_cons (pv 0) (pa_cons (pe_ty (fr_str T) b_str) pa_nil))))) (pw_or1 (pt_cmpR op_gt (pe_callB call_len (by rfl) (fr_len T) boot_len (pa_cons (pv 0) pa_nil)) pe_int (nomark _))))) (pss_one (ps_ret pe_bl)) pss_nil)
        (pss_cons (ps_if (pt_not (pt_val (pe_callB (cr_all rfl) (by rfl) (fr_all T) b_all (pa_cons (pe_lc (own := [("_law_name", 1)]) (g := (gName 1)) (tt := tYes) rfl sc__law_names_good.nd  (pi_str (pv 0)) (blkOk_by (N := N__law_names_good) (sc := defScope s__law_names_good) (by decide +kernel)) (fun _ _ _ _ _ => (pg_name (i := 1) sc__law_names_good.nd rfl (Or.inl rfl))) (fun _ _ _ _ _ => pts_nil) (fun _ _ _ _ _ => (pe_cmpR op_in_sign (pv 1) pe_str rfl))) pa_nil)))) (pss_one (ps_ret pe_bl)) pss_nil)
        (pss_one (ps_ret (pe_cmpR (op_eqD (hu64 hr)) (pe_callTy (call_listX rfl) (by rfl) (fr_list T) b_list (pa_cons (pv 0) pa_nil)) (pe_callB (cr_sortedX rfl) (by rfl) (fr_sorted T) b_sorted (pa_cons (pe_callTy (cr_setX rfl) (by rfl) (fr_set T) b_set (pa_cons (pe_callTy (call_listX rfl) (by rfl) (fr_list T) b_list (pa_cons (pv 0) pa_nil)) pa_nil)) pa_nil)) (nomark _)))))), ?_⟩
    obtain ⟨v, d, rfl, rd, sm, q⟩ := h
    refine ⟨v, rfl, v, "str", kd d, rfl, rd.ko, k_str _, _, rfl, ?_⟩
    cases hb : (kd d).is "str" with
    | false =>
      refine iteT (iteT ?_)
      rw [kd_nstrN hb] at q
      exact q H (Same.refl H)
    | true =>
      refine iteF ?_
      obtain ⟨z, rfl⟩ := kd_str hb
      cases rd
      have hz : z.cps.toList.length = z.length := Array.length_toList
      have hzs : z.length ≤ 100000 := sm z rfl
      have bad : ¬ z.length ≤ 4 → namesD (.str z) = false := fun hn => by
        show (decide (z.length ≤ 4) && _) = false
        rw [decide_eq_false hn, Bool.false_and]
      refine ⟨.str z, rfl, _, _, rfl, lenV_str hzs, _, 4, rfl, rfl, _, rfl, ?_⟩
      by_cases h8 : (4 : Int) < (z.length : Int)
      · rw [decide_eq_true h8]
        refine iteT ?_
        rw [bad (by omega)] at q
        exact q H (Same.refl H)
      · rw [decide_eq_false h8]
        refine iteF ?_
        refine ⟨.str z, rfl, z, rfl, fun D hD => ?_⟩
        refine lc_new walk_str hD (Nat.le_trans (by show z.length ≤ 100000; exact hzs) (by decide)) (fun (i : Nat) _ v => ∀ c, z.cps.toList[i]? = some c → v = V.bl (decide (c ∈ namesL))) (fun _ _ _ _ _ h => h) (fun _ _ => trivial)
          (fun i x H2 H3 Qk hi sH hy hk => ?_) (fun H2 acc s2 hD2 hl hv => ?_)
        · obtain ⟨e, c, hc, rfl⟩ := hy
          subst e
          refine ⟨rfl, .str ⟨#[c]⟩, rfl, c, "uvwxyz", rfl, rfl, hk _ _ (Same.refl _) fun c' hc' => ?_⟩
          rw [Array.getElem?_toList, hc] at hc'
          cases hc'
          rfl
        · have ea : acc = (z.cps.toList.map fun c => decide (c ∈ namesL)).map V.bl := by
            refine bls_of (by rw [List.length_map, hz]; exact hl) fun i v hi b hb => ?_
            rw [List.getElem?_map] at hb
            obtain ⟨c, hc, rfl⟩ := Option.map_eq_some_iff.mp hb
            exact hv i v hi c hc
          refine ⟨D, _, rfl, SqL.of (by rw [hD2, ea]), ?_⟩
          have hmain : namesD (.str z) = ((z.cps.toList.map fun c => decide (c ∈ namesL)).all id && ascL z.cps.toList) := by
            show (decide (z.length ≤ 4) && _) = _
            rw [decide_eq_true (by omega), Bool.true_and, List.all_map]
            rfl
          refine ⟨_, rfl, ?_⟩
          cases hk1 : (z.cps.toList.map fun c => decide (c ∈ namesL)).all id with
          | false =>
            refine iteT ?_
            rw [hmain, hk1, Bool.false_and] at q
            exact q H2 s2
          | true =>
            refine iteF ?_
            rw [hmain, hk1, Bool.true_and] at q
            have hlt : ∀ c ∈ z.cps.toList, c < 0x110000 := fun c hc => by
              rw [List.all_map, List.all_eq_true] at hk1
              exact letters_lt2 c (of_decide_eq_true (hk1 c hc))
            exact asc_end (X := (cxOf CX0 P w K mg base N__law_names_good "_law_names_good" (defScope s__law_names_good) (He.ga K "_law_names_good") cdv A outer s H E).nox) (by omega) hlt fun H' s' => q H' (s2.trans s')
end
end Kx
set_option Elab.async false
set_option linter.all false
set_option maxRecDepth 100000
set_option maxHeartbeats 4000000
namespace Kx
open PySem PySem.Spec PyProof.Rows L2
theorem ix_seq_at {K : PySem.W.Frag} {H : Hp} {a : Addr} {xs : List V} {i : Nat} {v : V} {Q : VK} (h : H a = some (.lst xs) ∨ H a = some (.tup xs)) (e : xs[i]? = some v) (q : Q v H) : rIx K (.ref a) (.int (i : Nat)) H Q := by
  rcases h with h | h
  · exact .inl ⟨a, xs, _, v, rfl, rfl, SqL.of h, atI_nat e, q⟩
  · exact .inr (.inl ⟨a, xs, _, v, rfl, rfl, SqT.of h, atI_nat e, q⟩)
section
variable {P : Program} {w : World} {K : PySem.W.Frag} {mg : Str → Option Value} {base : Heap}
def sp_law_wrong_move : Sp := fun vs H Q _ => ∃ (al ns : Str) (v : V) (d : PyData), vs = [.str al, .str ns, v] ∧ al.length ≤ 8 ∧ ns.length ≤ 4 ∧ Rp H v d ∧ smallR d ∧ ∀ H', Same H H' → Q (optV (movesDue (al.length * 2 ^ ns.length) d)) H'
theorem ok_law_wrong_move (T : Txt K mg) : Cal P w K mg base CX0 2 "_law_wrong_move" ["_law_alphabet_here", "_law_names", "_law_moves"] sp_law_wrong_move := by
  obtain ⟨fd, F⟩ := F__law_wrong_move T
  refine cal_mk F (g__law_wrong_move T) sc__law_wrong_move (fun _ _ _ _ _ _ us hl => match us, hl with | [_, _, _], _ => rfl) (fun vs H Q E h => ?_) (fun cdv A outer s H vs Q E hr h => ?_)
  · obtain ⟨al, ns, v, d, rfl, _⟩ := h; rfl
  · refine ⟨_, PSs.nox (pss_cons (ps_if (PW.pt (pw_or (pt_not (pt_val (pe_cal (ok_law_listed T) (hr.mono (by decide)) pass0 (pa_cons (pv 2) pa_nil)))) (pw_or (pt_cmpR op_lt (pe_callB call_len (by rfl) (fr_len T) boot_len (pa_cons (pv 2) pa_nil)) pe_int (nomark _)) (pw_or1 (pt_cmpR op_gt (pe_callB call_len (by rfl) (fr_len T) boot_len (pa_cons (pv 2) pa_nil)) pe_int (nomark _)))))) (pss_one (ps_ret (pe_un un_neg pe_int))) pss_nil)
        (pss_cons (ps_for PassesOwn.never rfl (pi_range1 (by rfl) (fr_range T) (pa_cons (pe_callB call_len (by rfl) (fr_len T) boot_len (pa_cons (pv 2) pa_nil)) pa_nil)) (pg_name (i := 3) sc__law_wrong_move.nd rfl (Or.inl rfl)) (pss_cons (ps_if (PW.pt (pw_or (pt_not (pt_val (pe_cal (ok_law_listed T) (hr.mono (by decide)) pass0 (pa_cons (pe_ix ix_seq (pv 2) (pv 3) (fun _ _ => rfl)) pa_nil)))) (pw_or1 (pt_cmpR op_ne (pe_callB call_len (by rfl) (fr_len T) boot_len (pa_cons (pe_ix ix_seq (pv 2) (pv 3) (fun _ _ => rfl)) pa_nil)) (pe_op op_mul (pe_callB call_len (by rfl) (fr_len T) boot_len (pa_cons (pv 0) pa_nil)) (pe_cal (ok_law_width T) (hr.mono (by decide)) pass0 (pa_cons (pv 1) pa_nil))) (nomark _))))) (pss_one (ps_ret (pv 3))) pss_nil)
        (pss_one (ps_if (pt_not (pt_val (pe_callB (cr_all rfl) (by rfl) (fr_all T) b_all (pa_cons (pe_lc (te := tCall (sp_law_is_number K) [] E0 (tCons (tVar 4) (tCons (tC (.int 0)) (tCons (tOp (rI0 fun i j => .int (i - j)) (tCB (rLen K) (tCons (tVar 2) tNil)) (tC (.int 1))) tNil)))) (own := [("_law_one", 4)]) (g := (gName 4)) (tt := tYes) rfl sc__law_wrong_move.nd  (pi_seq (pe_ix ix_seq (pv 2) (pv 3) (fun _ _ => rfl))) (blkOk_by (N := N__law_wrong_move) (sc := defScope s__law_wrong_move) (by decide +kernel)) (fun _ _ _ _ _ => (pg_name (i := 4) sc__law_wrong_move.nd rfl (Or.inl rfl))) (fun _ _ _ _ _ => pts_nil) (fun _ _ _ _ _ => by refine pe_cal (ok_law_is_number T) (hr.mono (by decide)) pass0 (pa_cons (pv 4) (pa_cons pe_int (pa_cons (pe_op op_sub ?_ pe_int) pa_nil))); exact pe_callB call_len (by rfl) (fr_len T) boot_len (pa_cons (pv 2) pa_nil))) pa_nil)))) (pss_one (ps_ret (pv 3))) pss_nil))))
        (pss_one (ps_ret pe_non)))), ?_⟩
    obtain ⟨al, ns, v, d, rfl, h8, h4, rd, sm, q⟩ := h
    refine ⟨v, rfl, v, kd d, rfl, rd.ko, _, rfl, ?_⟩
    cases hb : (kd d == Kd.lst || kd d == Kd.tup) with
    | false =>
      have e : movesDue (al.length * 2 ^ ns.length) d = some (-1) := by unfold movesDue; rw [itemsD_none hb]
      rw [e] at q
      exact iteT (iteT ⟨1, rfl, q H (Same.refl H)⟩)
    | true =>
      refine iteF ?_
      obtain ⟨ds, hds⟩ := itemsD_kd hb
      obtain ⟨a, xs, rfl, hxs, hsq⟩ := rp_seq rd hds
      have hl : xs.length = ds.length := hxs.length
      have bad : ¬ (1 ≤ ds.length ∧ ds.length ≤ 60) → movesDue (al.length * 2 ^ ns.length) d = some (-1) := fun hn => by unfold movesDue; rw [hds]; exact if_neg hn
      have good : (1 ≤ ds.length ∧ ds.length ≤ 60) → movesDue (al.length * 2 ^ ns.length) d = firstBad (moveD (al.length * 2 ^ ns.length : Nat) ds.length) ds 0 := fun hn => by unfold movesDue; rw [hds]; exact if_pos hn
      refine ⟨_, rfl, _, _, rfl, lenV_seq hsq, _, 1, rfl, rfl, _, rfl, ?_⟩
      by_cases h1 : ((xs.length : Nat) : Int) < 1
      · rw [decide_eq_true h1]
        rw [bad (by omega)] at q
        exact iteT (iteT ⟨1, rfl, q H (Same.refl H)⟩)
      · rw [decide_eq_false h1]
        refine iteF ⟨_, rfl, _, _, rfl, lenV_seq hsq, _, 60, rfl, rfl, _, rfl, ?_⟩
        by_cases h60 : (60 : Int) < ((xs.length : Nat) : Int)
        · rw [decide_eq_true h60]
          rw [bad (by omega)] at q
          exact iteT ⟨1, rfl, q H (Same.refl H)⟩
        · rw [decide_eq_false h60]
          have hn : 1 ≤ ds.length ∧ ds.length ≤ 60 := by omega
          rw [good hn] at q
          refine iteF ⟨_, rfl, _, _, rfl, lenV_seq hsq, _, rfl, (by omega), (by omega), ?_⟩
          rw [show (((xs.length : Nat) : Int)).toNat = xs.length by omega]
          refine for_it walk_range (fun i σ G => ∃ (v3 v4 : Option V), σ = [some (.str al), some (.str ns), some (.ref a), v3, v4] ∧ Same H G ∧ ∀ (j : Nat) x, j < i → ds[j]? = some x → moveD (al.length * 2 ^ ns.length : Nat) ds.length x = true)
            ⟨none, none, rfl, Same.refl _, fun j x hj => absurd hj (Nat.not_lt_zero _)⟩ (fun _ _ _ _ _ => trivial) ?_ ?_
          · rintro i x σ Gx G hi ⟨v3, v4, rfl, sG, hall⟩ ⟨eH, ex0⟩
            replace eH := eH.symm
            subst eH
            replace ex0 : x = .int (i : Nat) := ex0.trans (congrArg V.int (Int.zero_add _))
            subst ex0
            have hi' : i < xs.length := hi
            have hy := List.getElem?_eq_getElem hi'
            generalize xs[i] = y at hy
            obtain ⟨dy, hdy, ry⟩ := hxs.get hy
            have hsG := hsq.imp (fun z => sG _ _ z) (fun z => sG _ _ z)
            have ryG := ry.same sG
            refine ⟨_, rfl, _, rfl, ix_seq_at hsG hy ⟨y, kd dy, rfl, ryG.ko, _, rfl, ?_⟩⟩
            have bads : moveD (al.length * 2 ^ ns.length : Nat) ds.length dy = false → ∀ G', Same H G' → Q (.int (i : Nat)) G' := fun hf G' s' => by
              rw [firstBad_at hdy hall hf, Int.zero_add] at q
              exact q G' s'
            cases hby : (kd dy == Kd.lst || kd dy == Kd.tup) with
            | false =>
              have e : moveD (al.length * 2 ^ ns.length : Nat) ds.length dy = false := by unfold moveD; rw [itemsD_none hby]
              exact iteT (iteT ⟨_, rfl, bads e _ sG⟩)
            | true =>
              refine iteF ?_
              obtain ⟨ms, hms⟩ := itemsD_kd hby
              obtain ⟨b, ys, rfl, hys, hsy⟩ := rp_seq ryG hms
              have hly : ys.length = ms.length := hys.length
              have emv : moveD (al.length * 2 ^ ns.length : Nat) ds.length dy = (decide ((ms.length : Int) = ((al.length * 2 ^ ns.length : Nat) : Int)) && ms.all (belowD ds.length)) := by unfold moveD; rw [hms]
              have hmsl : ms.length ≤ 100000 := (sm ds hds).2 dy (List.mem_of_getElem? hdy) ms hms
              refine ⟨_, rfl, _, rfl, ix_seq_at hsG hy ⟨_, _, rfl, lenV_seq hsy, .str al, rfl, _, _, rfl, lenV_str (by omega), .str ns, rfl, ns, rfl, h4, fun G1 s1 => ⟨_, _, rfl, rfl, .inl (by omega), rfl, _, rfl, ?_⟩⟩⟩
              have em : ((al.length : Nat) : Int) * ((2 ^ ns.length : Nat) : Int) = ((al.length * 2 ^ ns.length : Nat) : Int) := by rw [Int.natCast_mul]
              dsimp only
              have hd : decide (V.int ((ys.length : Nat) : Int) = V.int (((al.length : Nat) : Int) * ((2 ^ ns.length : Nat) : Int))) = decide (((ms.length : Nat) : Int) = ((al.length * 2 ^ ns.length : Nat) : Int)) := by rw [em, dec_int, hly]
              rw [hd]
              have sG1 := sG.trans s1
              by_cases hlm : ((ms.length : Nat) : Int) = ((al.length * 2 ^ ns.length : Nat) : Int)
              · rw [decide_eq_true hlm]
                rw [decide_eq_true hlm, Bool.true_and] at emv
                refine iteF ⟨_, rfl, _, rfl, ix_seq_at (hsq.imp (fun z => sG1 _ _ z) (fun z => sG1 _ _ z)) hy ⟨b, ys, rfl, ?_⟩⟩
                have hsy1 := hsy.imp (fun z => s1 _ _ z) (fun z => s1 _ _ z)
                rcases hsy1 with h | h
                case' inl => refine Or.inl ⟨SqL.of h, fun J WJ D hD => ?_⟩
                case' inr => refine Or.inr ⟨SqT.of h, fun J WJ D hD => ?_⟩
                all_goals
                  refine lc_new WJ hD (by rw [hly]; exact Nat.le_trans hmsl (by decide)) (fun (i : Nat) _ v => ∀ x, ms[i]? = some x → v = V.bl (belowD ds.length x)) (fun _ _ _ _ _ h => h) (fun G3 s => by first | exact SqL.of (s _ _ h) | exact SqT.of (s _ _ h))
                    (fun k x G3 G4 Qk hk sH hy2 hkk => ?_) (fun G3 acc s4 hD4 hla hacc => ?_)
                  · obtain ⟨rfl, hx3⟩ := hy2
                    obtain ⟨dx, hdx, rx⟩ := hys.get hx3
                    have rx2 := rx.same (s1.trans sH)
                    refine ⟨rfl, x, rfl, _, rfl, _, _, rfl, lenV_seq (hsq.imp (fun z => sH _ _ (sG1 _ _ z)) (fun z => sH _ _ (sG1 _ _ z))), _, 1, rfl, rfl, x, 0, _, _, rfl, rx2.ko, hkk _ _ (Same.refl _) fun y hy => ?_⟩
                    rw [hdx] at hy
                    cases hy
                    rw [rp_num rx2, hl, num_below]
                  · have ea : acc = (ms.map fun x => belowD ds.length x).map V.bl := by
                      refine bls_of (by rw [List.length_map, hla, hly]) fun i v hv b hb => ?_
                      rw [List.getElem?_map] at hb
                      obtain ⟨x, hx, rfl⟩ := Option.map_eq_some_iff.mp hb
                      exact hacc i v hv x hx
                    refine ⟨D, _, rfl, SqL.of (by rw [hD4, ea]), ?_⟩
                    have e2 : (ms.map fun x => belowD ds.length x).all id = ms.all (belowD ds.length) := by
                      rw [List.all_map]
                      rfl
                    refine ⟨_, rfl, ?_⟩
                    rw [e2]
                    cases hb2 : ms.all (belowD ds.length) with
                    | false =>
                      rw [hb2] at emv
                      exact iteT ⟨_, rfl, bads emv _ (sG1.trans s4)⟩
                    | true =>
                      rw [hb2] at emv
                      refine iteF ⟨_, _, rfl, sG1.trans s4, fun j x hj hx => ?_⟩
                      by_cases hji : j < i
                      · exact hall j x hji hx
                      · have : j = i := by omega
                        subst this
                        rw [hdy] at hx
                        cases hx
                        exact emv
              · rw [decide_eq_false hlm]
                rw [decide_eq_false hlm, Bool.false_and] at emv
                exact iteT ⟨_, rfl, bads emv _ sG1⟩
          · rintro σ G ⟨v3, v4, rfl, sG, hall⟩
            rw [hl] at hall
            rw [firstBad_none fun j x hx => hall j x (List.getElem?_eq_some_iff.mp hx).1 hx] at q
            exact q G sG
end
end Kx
set_option Elab.async false
set_option linter.all false
set_option maxRecDepth 100000
set_option maxHeartbeats 4000000
namespace Kx
open PySem PySem.Spec PyProof.Rows L2
section
variable {P : Program} {w : World} {K : PySem.W.Frag} {mg : Str → Option Value} {base : Heap}
def sp_law_wrong_accepted : Sp := fun vs H Q _ => ∃ (m : Nat) (v : V) (d : PyData), vs = [.int (m : Nat), v] ∧ Rp H v d ∧ smallL d ∧ ∀ H', Same H H' → Q (optV (accDue (m : Nat) d)) H'
theorem ok_law_wrong_accepted (T : Txt K mg) : Cal P w K mg base CX0 2 "_law_wrong_accepted" ["_law_size", "_law_accepted"] sp_law_wrong_accepted := by
  obtain ⟨fd, F⟩ := F__law_wrong_accepted T
  refine cal_mk F (g__law_wrong_accepted T) sc__law_wrong_accepted (fun _ _ _ _ _ _ us hl => match us, hl with | [_, _], _ => rfl) (fun vs H Q E h => ?_) (fun cdv A outer s H vs Q E hr h => ?_)
  · obtain ⟨m, v, d, rfl, _⟩ := h; rfl
  · refine ⟨_, PSs.nox (pss_cons (ps_if (pt_not (pt_val (pe_cal (ok_law_listed T) (hr.mono (by decide)) pass0 (pa_cons (pv 1) pa_nil)))) (pss_one (ps_ret (pe_un un_neg pe_int))) pss_nil)
        (pss_cons (ps_for PassesOwn.never rfl (pi_range1 (by rfl) (fr_range T) (pa_cons (pe_callB call_len (by rfl) (fr_len T) boot_len (pa_cons (pv 1) pa_nil)) pa_nil)) (pg_name (i := 2) sc__law_wrong_accepted.nd rfl (Or.inl rfl)) (pss_cons (ps_if (pt_not (pt_val (pe_cal (ok_law_is_number T) (hr.mono (by decide)) pass0 (pa_cons (pe_ix ix_seq (pv 1) (pv 2) (fun _ _ => rfl)) (pa_cons pe_int (pa_cons (pe_op op_sub (pv 0) pe_int) pa_nil)))))) (pss_one (ps_ret (pv 2))) pss_nil)
        (pss_one (ps_if (PW.pt (pw_and (pt_cmpR op_gt (pv 2) pe_int (nomark _)) (pw_and1 (pt_cmpR op_le (pe_ix ix_seq (pv 1) (pv 2) (fun _ _ => rfl)) (pe_ix ix_seq (pv 1) (pe_op op_sub (pv 2) pe_int) (fun _ _ => rfl)) (nomark _))))) (pss_one (ps_ret (pv 2))) pss_nil))))
        (pss_one (ps_ret pe_non)))), ?_⟩
    obtain ⟨m, v, d, rfl, rd, sm, q⟩ := h
    refine ⟨v, rfl, v, kd d, rfl, rd.ko, _, rfl, ?_⟩
    cases hb : (kd d == Kd.lst || kd d == Kd.tup) with
    | false =>
      have e : accDue (m : Nat) d = some (-1) := by unfold accDue; rw [itemsD_none hb]
      rw [e] at q
      exact iteT ⟨1, rfl, q H (Same.refl H)⟩
    | true =>
      refine iteF ?_
      obtain ⟨ds, hds⟩ := itemsD_kd hb
      obtain ⟨a, xs, rfl, hxs, hsq⟩ := rp_seq rd hds
      have hl : xs.length = ds.length := hxs.length
      have edue : accDue (m : Nat) d = accGo (m : Nat) none ds 0 := by unfold accDue; rw [hds]
      rw [edue] at q
      have hlen : ds.length ≤ 100000 := sm ds hds
      have hsz : sizeLine < 2 ^ 62 := by decide
      refine ⟨_, rfl, _, _, rfl, lenV_seq hsq, _, rfl, (by omega), (by omega), ?_⟩
      rw [show (((xs.length : Nat) : Int)).toNat = xs.length by omega]
      refine for_it walk_range (fun i σ G => ∃ (v2 : Option V) (ns : List Int), σ = [some (.int (m : Nat)), some (.ref a), v2] ∧ Same H G ∧ ds.take i = ns.map PyData.int ∧ accGo (m : Nat) none ds 0 = accGo (m : Nat) ns.getLast? (ds.drop i) (i : Nat))
        ⟨none, [], rfl, Same.refl _, by rw [List.take_zero]; rfl, rfl⟩ (fun _ _ _ _ _ => trivial) ?_ ?_
      · rintro i x σ Gx G hi ⟨v2, ns, rfl, sG, hns, hgo⟩ ⟨eH, ex0⟩
        replace eH := eH.symm
        subst eH
        replace ex0 : x = .int (i : Nat) := ex0.trans (congrArg V.int (Int.zero_add _))
        subst ex0
        have hi' : i < xs.length := hi
        have hy := List.getElem?_eq_getElem hi'
        generalize xs[i] = y at hy
        obtain ⟨dy, hdy, ry⟩ := hxs.get hy
        have hsG := hsq.imp (fun z => sG _ _ z) (fun z => sG _ _ z)
        have ryG := ry.same sG
        have hid : i < ds.length := by omega
        have edrop : ds.drop i = dy :: ds.drop (i + 1) := by
          rw [List.drop_eq_getElem_cons hid]
          congr 1
          rw [List.getElem?_eq_getElem hid] at hdy
          exact Option.some.inj hdy
        rw [edrop] at hgo
        have hnl : ns.length = i := by
          have := congrArg List.length hns
          rw [List.length_take, List.length_map, Nat.min_eq_left (by omega)] at this
          exact this.symm
        refine ⟨_, rfl, _, rfl, ix_seq_at hsG hy ⟨_, rfl, _, 1, rfl, rfl, y, 0, _, _, rfl, ryG.ko, _, rfl, ?_⟩⟩
        rw [rp_num ryG, num_below]
        cases hbl : belowD m dy with
        | false =>
          refine iteT ⟨_, rfl, ?_⟩
          have e : accGo (m : Nat) none ds 0 = some ((i : Nat) : Int) := by
            rw [hgo]
            refine accGo_bad fun j e => ?_
            subst e
            have h1 : (decide (0 ≤ j) && decide (j < (m : Int))) = false := hbl
            rw [h1, Bool.false_and]
          rw [e] at q
          exact q Gx sG
        | true =>
          obtain ⟨j, rfl, hj⟩ := belowD_int hbl
          have ey : y = .int j := by cases ryG; rfl
          subst ey
          refine iteF ⟨_, rfl, _, 0, rfl, rfl, _, rfl, ?_⟩
          have next : ns.getLast?.all (fun z => decide (z < j)) = true → ∃ (v2 : Option V) (ns' : List Int), [some (V.int (m : Nat)), some (V.ref a), some (V.int (i : Nat))] = [some (.int (m : Nat)), some (.ref a), v2] ∧ Same H Gx ∧ ds.take (i + 1) = ns'.map PyData.int ∧
              accGo (m : Nat) none ds 0 = accGo (m : Nat) ns'.getLast? (ds.drop (i + 1)) ((i + 1 : Nat) : Int) := fun hlt => by
            refine ⟨_, ns ++ [j], rfl, sG, ?_, ?_⟩
            · rw [List.take_succ, hdy, hns, List.map_append]
              rfl
            · rw [hgo, accGo_step hj hlt, List.getLast?_append]
              rfl
          by_cases hi0 : i = 0
          · subst hi0
            have hn0 : ns = [] := List.length_eq_zero_iff.mp hnl
            subst hn0
            rw [decide_eq_false (by simp)]
            exact iteF (next rfl)
          · rw [decide_eq_true (by omega)]
            obtain ⟨ns0, z, rfl⟩ : ∃ ns0 z, ns = ns0 ++ [z] := by
              rcases List.eq_nil_or_concat ns with e | ⟨l, b, e⟩
              · subst e; simp at hnl; omega
              · exact ⟨l, b, by rw [e, List.concat_eq_append]⟩
            have hz : xs[i - 1]? = some (.int z) := by
              have h1 : ds[i - 1]? = some (.int z) := by
                have h2 : (ds.take i)[i - 1]? = some (.int z) := by
                  rw [hns, List.getElem?_map]
                  have : ns0.length = i - 1 := by simp at hnl; omega
                  rw [List.getElem?_append_right (by omega), this]
                  simp
                rw [List.getElem?_take_of_lt (by omega)] at h2
                exact h2
              have hlt : i - 1 < xs.length := by omega
              obtain ⟨d1, hd1, r1⟩ := hxs.get (List.getElem?_eq_getElem hlt)
              rw [h1] at hd1
              cases hd1
              rw [List.getElem?_eq_getElem hlt]
              generalize xs[i - 1] = x1 at r1
              cases r1
              rfl
            have ei : ((i : Nat) : Int) - 1 = ((i - 1 : Nat) : Int) := by omega
            have elast : (ns0 ++ [z]).getLast? = some z := by simp
            refine iteT ⟨_, rfl, _, rfl, ix_seq_at hsG hy ⟨_, rfl, _, rfl, _, 1, rfl, rfl, ?_⟩⟩
            show rIx K (.ref a) (.int (((i : Nat) : Int) - 1)) _ _
            rw [ei]
            refine ix_seq_at hsG hz ⟨_, _, rfl, rfl, _, rfl, ?_⟩
            rw [elast] at next
            by_cases hjz : j ≤ z
            · rw [decide_eq_true hjz]
              refine iteT ⟨_, rfl, ?_⟩
              have e : accGo (m : Nat) none ds 0 = some ((i : Nat) : Int) := by
                rw [hgo, elast]
                refine accGo_bad fun j' e => ?_
                cases e
                rw [show Option.all (fun z => decide (z < j)) (some z) = false by simp; omega, Bool.and_false]
              rw [e] at q
              exact q Gx sG
            · rw [decide_eq_false hjz]
              exact iteF (next (by simp; omega))
      · rintro σ G ⟨v2, ns, rfl, sG, hns, hgo⟩
        rw [hl, List.drop_length] at hgo
        rw [hgo] at q
        exact q G sG
/-- what is due, as the law tells it -/
def dueL (a n : PyData) : RDue → Option (List Str)
  | .alph => some ["thing", "BadAlphabet", a.shown]
  | .names => some ["thing", "BadNames", n.shown]
  | .move k => some ["item", "BadMove", (PyData.int k).shown]
  | .acc k => some ["item", "BadAccepted", (PyData.int k).shown]
  | .ok => none
/-- a list of texts, or None -/
def OptL (H : Hp) (r : V) : Option (List Str) → Prop
  | none => r = .non
  | some zs => ∃ l, r = .ref l ∧ H l = some (.lst (zs.map V.str))
theorem firstBad_rng {p : PyData → Bool} : ∀ {ds : List PyData} {k j : Int}, firstBad p ds k = some j → k ≤ j ∧ j < k + ds.length
  | [], _, _, h => by cases h
  | d :: ds, k, j, h => by
    unfold firstBad at h
    rw [List.length_cons]
    by_cases c : p d = true
    · rw [if_pos c] at h
      have := firstBad_rng h
      omega
    · rw [if_neg c] at h
      cases h
      omega
theorem moves_rng {l : Nat} {d : PyData} {k : Int} (h : movesDue l d = some k) : -1 ≤ k ∧ k ≤ 100000 := by
  unfold movesDue at h
  cases e : itemsD d with
  | none => rw [e] at h; cases h; decide
  | some ds =>
    rw [e] at h
    dsimp only at h
    by_cases c : 1 ≤ ds.length ∧ ds.length ≤ 60
    · rw [if_pos c] at h
      have := firstBad_rng h
      omega
    · rw [if_neg c] at h
      cases h
      decide
theorem accGo_rng {m : Int} : ∀ {ds : List PyData} {p : Option Int} {k j : Int}, accGo m p ds k = some j → k ≤ j ∧ j < k + ds.length
  | [], _, _, _, h => by cases h
  | d :: ds, p, k, j, h => by
    rw [List.length_cons]
    cases d with
    | int i =>
      have h' : (if (decide (0 ≤ i) && decide (i < m)) && p.all (fun j => decide (j < i)) then accGo m (some i) ds (k + 1) else some k) = some j := h
      split at h'
      · have := accGo_rng h'
        omega
      · cases h'
        omega
    | _ => cases h; omega
theorem acc_rng {m : Int} {d : PyData} {k : Int} (sm : smallL d) (h : accDue m d = some k) : -1 ≤ k ∧ k ≤ 100000 := by
  unfold accDue at h
  cases e : itemsD d with
  | none => rw [e] at h; cases h; decide
  | some ds =>
    rw [e] at h
    have h1 := accGo_rng h
    have h2 := sm ds e
    omega
def sp_law_due : Sp := fun vs H Q _ => ∃ (va vn vm vc : V) (a n m c : PyData), vs = [va, vn, vm, vc] ∧ Rp H va a ∧ Rp H vn n ∧ Rp H vm m ∧ Rp H vc c ∧ (smallT a ∧ smallT n ∧ smallR m ∧ smallL c) ∧ ReprOk a ∧ ReprOk n ∧
  ∀ H' r, Same H H' → OptL H' r (dueL a n (readDue a n m c)) → Q r H'
theorem ok_law_due (T : Txt K mg) : CalG P w K mg base CX0 3 "_law_due" ["_law_alphabet_here", "_law_names", "_law_moves", "_law_accepted"] sp_law_due := by
  obtain ⟨fd, F⟩ := F__law_due T
  refine calG_mk F (g__law_due T) sc__law_due (fun _ _ _ _ _ _ us hl => match us, hl with | [_, _, _, _], _ => rfl) (fun vs H Q E h => ?_) (fun cdv A outer s H vs Q E hG hr h => ?_)
  · obtain ⟨va, vn, vm, vc, a, n, m, c, rfl, _⟩ := h; rfl
  · refine ⟨_, PSs.nox (pss_cons (ps_if (pt_not (pt_val (pe_cal (ok_law_alphabet_good T) (hr.mono (by decide)) pass0 (pa_cons (pv 0) pa_nil)))) (pss_one (ps_ret (pe_lst (pa_cons pe_str (pa_cons pe_str (pa_cons (pe_callB (call_repr hG (hu64 hr)) (by rfl) (fr_repr T) b_repr (pa_cons (pv 0) pa_nil)) pa_nil)))))) pss_nil)
        (pss_cons (ps_if (pt_not (pt_val (pe_cal (ok_law_names_good T) (hr.mono (by decide)) pass0 (pa_cons (pv 1) pa_nil)))) (pss_one (ps_ret (pe_lst (pa_cons pe_str (pa_cons pe_str (pa_cons (pe_callB (call_repr hG (hu64 hr)) (by rfl) (fr_repr T) b_repr (pa_cons (pv 1) pa_nil)) pa_nil)))))) pss_nil)
        (pss_cons (ps_set (i := 4) sc__law_due.nd rfl (Or.inl rfl) (pe_cal (ok_law_wrong_move T) (hr.mono (by decide)) pass0 (pa_cons (pv 0) (pa_cons (pv 1) (pa_cons (pv 2) pa_nil)))))
        (pss_cons (ps_if (pt_cmpR op_notN (pv 4) pe_non (nomark _)) (pss_one (ps_ret (pe_lst (pa_cons pe_str (pa_cons pe_str (pa_cons (pe_callB (call_repr hG (hu64 hr)) (by rfl) (fr_repr T) b_repr (pa_cons (pv 4) pa_nil)) pa_nil)))))) pss_nil)
        (pss_cons (ps_set (i := 4) sc__law_due.nd rfl (Or.inl rfl) (pe_cal (ok_law_wrong_accepted T) (hr.mono (by decide)) pass0 (pa_cons (pe_callB call_len (by rfl) (fr_len T) boot_len (pa_cons (pv 2) pa_nil)) (pa_cons (pv 3) pa_nil))))
        (pss_cons (ps_if (pt_cmpR op_notN (pv 4) pe_non (nomark _)) (pss_one (ps_ret (pe_lst (pa_cons pe_str (pa_cons pe_str (pa_cons (pe_callB (call_repr hG (hu64 hr)) (by rfl) (fr_repr T) b_repr (pa_cons (pv 4) pa_nil)) pa_nil)))))) pss_nil)
        (pss_one (ps_ret pe_non)))))))), ?_⟩
    obtain ⟨va, vn, vm, vc, a, n, m, c, rfl, ra, rn, rm, rc, ⟨sa, sn, sm, sc⟩, oa, on, q⟩ := h
    have told : ∀ (H1 : Hp) (x y : Str) (z : Str) (due : RDue), readDue a n m c = due → dueL a n due = some [x, y, z] → Same H H1 → 3 ≤ sizeLine ∧ ∀ t, H1 t = none → Q (.ref t) (upd H1 t (.lst [.str x, .str y, .str z])) := fun H1 x y z due e1 e2 s1 => by
      refine ⟨by decide, fun t ht => q _ _ (s1.trans (same_upd ht)) ?_⟩
      rw [e1, e2]
      exact ⟨t, rfl, upd_same⟩
    refine ⟨va, rfl, va, a, rfl, ra, sa, fun H1 s1 => ⟨_, rfl, ?_⟩⟩
    cases hba : alphaD a with
    | false =>
      have e : readDue a n m c = .alph := by unfold readDue; rw [if_neg (by rw [hba]; exact Bool.false_ne_true)]
      exact iteT ⟨va, rfl, va, a, rfl, (ra.same s1).dp oa.nd, oa.sh, oa.nd, oa.dp, oa.sz, told H1 _ _ _ _ e rfl s1⟩
    | true =>
      refine iteF ⟨vn, rfl, vn, n, rfl, rn.same s1, sn, fun H2 s2 => ⟨_, rfl, ?_⟩⟩
      have s02 := s1.trans s2
      cases hbn : namesD n with
      | false =>
        have e : readDue a n m c = .names := by unfold readDue; rw [if_pos hba, if_neg (by rw [hbn]; exact Bool.false_ne_true)]
        exact iteT ⟨vn, rfl, vn, n, rfl, (rn.same s02).dp on.nd, on.sh, on.nd, on.dp, on.sz, told H2 _ _ _ _ e rfl s02⟩
      | true =>
        obtain ⟨z, rfl⟩ := alpha_str hba
        have eva : va = .str z := by cases ra; rfl
        subst eva
        obtain ⟨y, rfl⟩ : ∃ y, n = .str y := by cases n <;> first | exact ⟨_, rfl⟩ | (exact Bool.noConfusion hbn)
        have evn : vn = .str y := by cases rn; rfl
        subst evn
        have hz8 : z.length ≤ 8 := by
          have h1 : alphaL z.cps.toList = true := hba
          unfold alphaL at h1
          rw [Bool.and_eq_true, decide_eq_true_eq] at h1
          have h2 : z.cps.toList.length = z.length := Array.length_toList
          omega
        have hy4 : y.length ≤ 4 := by
          have h1 : (decide (y.length ≤ 4) && _) = true := hbn
          rw [Bool.and_eq_true, decide_eq_true_eq] at h1
          exact h1.1
        have due : readDue (.str z) (.str y) m c = (match movesDue (z.length * 2 ^ y.length) m with
          | some k => .move k
          | none => match accDue (lenD m : Nat) c with
            | some k => .acc k
            | none => .ok) := by
          unfold readDue
          rw [if_pos hba, if_pos hbn]
          rfl
        refine iteF ⟨.str z, rfl, .str y, rfl, vm, rfl, z, y, vm, m, rfl, hz8, hy4, rm.same s02, sm, fun H3 s3 => ?_⟩
        have s03 := s02.trans s3
        cases hm : movesDue (z.length * 2 ^ y.length) m with
        | some k =>
          rw [hm] at due
          have ok := reprOk_int (moves_rng hm)
          exact ⟨_, rfl, rfl, _, rfl, iteT ⟨_, rfl, .int k, .int k, rfl, .int k, ok.sh, ok.nd, ok.dp, ok.sz, told H3 _ _ _ _ due rfl s03⟩⟩
        | none =>
          rw [hm] at due
          dsimp only at due
          obtain ⟨ds, hds⟩ : ∃ ds, itemsD m = some ds := by
            unfold movesDue at hm
            cases e : itemsD m with
            | none => rw [e] at hm; cases hm
            | some ds => exact ⟨ds, rfl⟩
          obtain ⟨ma, xs, rfl, hxs, hsq⟩ := rp_seq (rm.same s03) hds
          have hl : xs.length = lenD m := by
            unfold lenD
            rw [hds]
            exact hxs.length
          refine ⟨.non, rfl, rfl, _, rfl, iteF ⟨.ref ma, rfl, _, _, rfl, lenV_seq hsq, vc, rfl, lenD m, vc, c, by rw [hl]; rfl, rc.same s03, sc, fun H4 s4 => ?_⟩⟩
          have s04 := s03.trans s4
          cases hc : accDue (lenD m : Nat) c with
          | some k =>
            rw [hc] at due
            have ok := reprOk_int (acc_rng sc hc)
            exact ⟨_, rfl, rfl, _, rfl, iteT ⟨_, rfl, .int k, .int k, rfl, .int k, ok.sh, ok.nd, ok.dp, ok.sz, told H4 _ _ _ _ due rfl s04⟩⟩
          | none =>
            rw [hc] at due
            refine ⟨.non, rfl, rfl, _, rfl, iteF (q _ _ s04 ?_)⟩
            rw [due]
            rfl
end
end Kx
set_option Elab.async false
set_option linter.all false
set_option maxRecDepth 100000
set_option maxHeartbeats 4000000
namespace Kx
open PySem PySem.Spec PyProof.Rows L2
/-! ### defs that are passed the handled exception, where no repr is under way -/
structure FnHG (P : Program) (w : World) (K : PySem.W.Frag) (mg : Str → Option Value) (base : Heap) (CX : CXT) (k : Nat) (f : Addr) (fd : FuncData) (ps : List Str) (sp : Addr × Obj → Sp) : Prop where
  len : ∀ p vs H Q E, sp p vs H Q E → vs.length = ps.length
  run : ∀ (A : Around) (outer : List Env) (s : Shared) (H : Hp) (args : Args) (us : List Value) (vs : List V) (Q : VK) (E : XK) (p : Addr × Obj), A.guards = some [] → L2H.RoomH k A → L2H.Hot1 A p → L2H.PinOk outer H s p → Env0 P w K mg base A outer s H →
    BindsTo s fd args (ps.zip us) → Vals vs us → sp p vs H Q E → codeAny (model P w) A (.call (.ref f) args) (CR CX outer P w H s Q E) s
theorem fnHG_mk {P : Program} {w : World} {K : PySem.W.Frag} {mg : Str → Option Value} {base : Heap} {CX : CXT} {x q : Str} {st : Stmt} {f : Addr} {fd : FuncData} {N ps : List Str} {k : Nat} {sp : Addr × Obj → Sp} (F : FnP K x q st f fd) (S : FnScope N ps (defScope st))
    (len : ∀ p vs H Q E, sp p vs H Q E → vs.length = ps.length)
    (hbody : ∀ (cdv : Value) (A : Around) (outer : List Env) (s : Shared) (H : Hp) (vs : List V) (Q : VK) (E : XK) (p : Addr × Obj), A.guards = some [] → L2H.Hot1 A p → L2H.RoomH k (A.deeper (envOfC q (defScope st) s.heap.objs.size f cdv)) → sp p vs H Q E →
      ∃ t, PSs (L2H.cxH CX P w K mg base N q (defScope st) f cdv A outer s H E p) (defBody st) t ∧ t { nx := fun _ H' => Q .non H', rt := Q } (start N vs) H) : FnHG P w K mg base CX (k + 1) f fd ps sp := by
  obtain ⟨oc, od, dV, kV, doc, pm, an, cdv, ct, osl, rfl, lk, hcd, _, _⟩ := F.ex
  refine ⟨len, fun A outer s H args us vs Q E p hg hr hot hpin e0 hb r hsp => ?_⟩
  have hl := len _ _ _ _ _ hsp
  have up : ∀ b o, base.get? b = some o → s.heap.get? b = some o := fun b o e => (e0.bs b o e).1
  have kinds : ∀ y ∈ ps.zip us, (defScope st).names.lookup y.1 = some .local ∨ ((defScope st).names.lookup y.1 = some .cell ∧ ((cellsFrom (s.heap.objs.size + 1) (defScope st).names []).lookup y.1).isSome = true) := by
    rintro ⟨n, v⟩ hy
    rcases S.par n (List.of_mem_zip hy).1 with q | q
    · exact .inl q
    · exact .inr ⟨q, PySem.W.cellsFrom_some _ _ _ (.inl q)⟩
  refine codeAny_call_function hr.depth (e0.mod.kin.keeps up _ _ lk) rfl S.co S.gen rfl (PySem.W.codeRec_of (e0.mod.kin.keeps up) hcd) (hb _ _ _ _ ?_)
  refine wpAny_newFunctionEnv_cells S.kind kinds fun env he s1 x => ?_
  subst he
  refine ⟨(e0.mod.nolimit.keeps up).keeps x.toInCall.keep, codeAny_func ?_⟩
  obtain ⟨t, ht, hq⟩ := hbody cdv A outer s H vs Q E p hg hot (hr.deeper _) hsp
  have I : Inv (L2H.cxH CX P w K mg base N q (defScope st) f cdv A outer s H E p) [] (start N vs) H s1 := L2H.inv_startH S hpin e0 hl r x
  refine wpAny_mono (ht.run [] s1 (start N vs) H _ I hq) (fun fl s' hs => ?_) fun _ _ hs => hs
  cases fl with
  | ret u =>
    obtain ⟨v, σ', H', J, rv, q⟩ := hs
    exact ⟨v, H', J.os, J.bare, J.base, J.hok, rv, q⟩
  | next =>
    obtain ⟨σ', H', J, q⟩ := hs
    exact ⟨V.non, H', J.os, J.bare, J.base, J.hok, rfl, q⟩
  | brk => exact False.elim hs.choose_spec.choose_spec.2
  | cont => exact False.elim hs.choose_spec.choose_spec.2
/-- f(e, ..) in the suite: p the exception that is handled -/
theorem pe_callHG {X : Cx} {CX : CXT} {k : Nat} {f : Addr} {fd : FuncData} {ps : List Str} {sp : Addr × Obj → Sp} {E : XK} {x : Str} {q pos : Pos} {e : Expr} {es : List Expr} {t : TA} {p : Addr × Obj} (F : FnHG X.prog X.w X.K X.mg X.base CX k f fd ps sp) (hG : X.A.guards = some [])
    (hr : L2H.RoomH k X.A) (hot : L2H.Hot1 X.A p) (hp : p ∈ X.pn) (hg : Gl X x) (hm : X.mg x = some (.ref f)) (hk : PySem.W.keepIn X.K (.ref f) = true) (hb : Binds X.K fd ps []) (hx : Passes CX X E) (ha : PA X (e :: es) t) (hdb : (x == ("__debug__" : Str)) = false := by decide)
    (he : starEach (e :: es) X.env = (false, eval e X.env) :: starEach es X.env := by rfl) (hpl : (backTo pos (starEach es X.env)).any (·.1) = false := by rfl) : PE X (.Call (.Name x q) (e :: es) [] pos) (fun σ H Q => t σ H fun vs H1 => sp p vs H1 Q E) := by
  constructor
  intro pins s σ H Q I h
  refine wpAny_Call_Name_kw (ld_glob I hg hm ?_ hdb)
  refine PySem.W.callWith_K (h₀ := X.base) I.ok.mod.kin hk (thn (ha.run pos pins s σ H _ I h) fun us s1 hh => ?_) he hpl
  obtain ⟨vs, H1, I1, r, h1⟩ := hh
  refine ⟨I1.kIn, ?_⟩
  have hl : (us ++ []).length = ps.length := by rw [List.append_nil, ← r.length]; exact F.len _ _ _ _ _ h1
  have b := hb s1 us I1.kIn hl
  rw [List.append_nil] at b
  have P1 := I1.pin p (List.mem_append_left _ hp)
  have hpin : L2H.PinOk X.stack H1 s1 p := ⟨P1.1, P1.2.1, fun hm => (List.mem_cons.mp (I1.stkSub p.1 hm)).elim P1.2.2.1 P1.2.2.2.1, P1.2.2.2.2⟩
  refine wpAny_call (codeAny_mono (F.run X.A X.stack s1 H1 ⟨us, []⟩ us vs Q E p hG hr hot hpin I1.env0 b r h1) fun r s' hq => ?_)
  cases r with
  | error er => exact hx pins σ H1 s1 er s' I1 hq
  | ok fl =>
    cases fl with
    | ret u => exact I1.after hq
    | _ => exact False.elim hq
/-! ### isinstance(e, ValueError) of a handled exception -/
theorem b_ValueError : bootBuiltins "ValueError" = some (.type "ValueError") := by decide +kernel
section
variable {X : Cx} {a C : Addr} {oe : Obj} {d : Option Addr}
def rIsV (K : PySem.W.Frag) (C a : Addr) (d : Option Addr) : List V → Hp → VK → Prop := fun xs H Q => ∃ (dd : Addr) (fs : List (Str × V)) (T : String) (b : Bool), xs = [.ref a, .ty T] ∧ d = some dd ∧ H dd = some (.xd fs) ∧ PySem.W.kitOne K (.ref C) (.type T) = some b ∧ Q (.bl b) H
theorem call_isV (T : XfC X.K C) (hcl : (PySem.W.clsIn X.K C).isSome = true) (hc : PySem.W.findIn X.K (.ref C) "__class__" = some (some (.builtin "object.__class__"))) (hn : PySem.W.specialIn X.K (.builtin "object.__class__") "__get__" = some (some (.builtin "getset_descriptor.__get__")))
    (ht : PySem.W.takesIn X.K (.builtin "object.__class__") = some true) (ho : PySem.W.mroIn X.K C (.type "object") = some true) (hm : (a, oe) ∈ X.pn) (hz : Zc (.ref C) d oe) (hf : ∃ vs, oe.data = .fields vs) : CallR X (.builtin "isinstance") (rIsV X.K C a d) := by
  rintro pins s σ H xs us Q I r ⟨dd, fs, T', b, rfl, rfl, hd, e, q⟩
  obtain ⟨u1, u2, rfl, r1, r2⟩ := vals2 r
  cases r1
  cases r2
  obtain ⟨od, J, _⟩ := err_inst hm hz hf I hd
  exact PySem.W.kia_one (PySem.W.kitx_exc hcl T.ga T.gg T.exC hc hn ht ho) I.kIn J e (fun z => nomatch z) fun tk => ⟨.bl b, H, I.kept (t' := tk) fun _ _ z => z, rfl, q⟩
end
theorem val_of {K mg} (T : Txt K mg) {x : Str} (hx : x ∈ toldl) : PySem.W.kitOne K (.ref (He.ga K x)) (.type "ValueError") = some true := by
  have h := (ex_rest T).2.2.2.2.2.2
  unfold stopB at h
  exact of_decide_eq_true (List.all_eq_true.mp (Bool.and_eq_true_iff.mp h).2 x hx)
theorem psS_any {X : Cx} {b : List Stmt} {t' : TS} (h : ∀ D σ H, t' D σ H → ∃ t, PSs X b t ∧ t D σ H) : PSs X b t' := ⟨fun pins s σ H D I h' => by
  obtain ⟨t, ht, q⟩ := h D σ H h'
  exact ht.run pins s σ H D I q⟩
end Kx
set_option Elab.async false
set_option linter.all false
set_option maxRecDepth 100000
set_option maxHeartbeats 4000000
namespace Kx
open PySem PySem.Spec PyProof.Rows L2
section
variable {P : Program} {w : World} {K : PySem.W.Frag} {mg : Str → Option Value} {base : Heap}
def namesK : List (Str × Str) := [("thing", "WrongThing"), ("item", "WrongItem"), ("BadAlphabet", "BadAlphabet"), ("BadNames", "BadNames"), ("BadMove", "BadMove"), ("BadAccepted", "BadAccepted"), ("BadRow", "BadRow"), ("BadPlaces", "BadPlaces")]
def kindsOf (x : Str) : List Str := (namesK.filter fun p => isErr x p.2).map (·.1)
theorem kind_step {K : PySem.W.Frag} {C a N dd Dy : Addr} {b : Bool} {fs : List (Str × V)} {y : Str} {l : List Str} {R : TS} {D : Ends} {G : Hp} (hd : G dd = some (.xd fs)) (hN : G N = some (.lst (l.map V.str))) (hk : PySem.W.kitOne K (.ref C) (.ref Dy) = some b) (hl : l.length ≤ 10)
    (q : ∀ G', Same (del G N) (del G' N) → G' dd = some (.xd fs) → G' N = some (.lst ((l ++ if b then [y] else []).map V.str)) → (l ++ if b then [y] else []).length ≤ l.length + 1 → R D [some (.ref a), some (.ref N)] G') :
    tSeq (tIfS (tB (tCB (rIsM K C a (some dd)) (tCons (tVar 0) (tCons (tC (.ref Dy)) tNil)))) (tDrop (tBM K "list" rAppend (tVar 1) (tCons (tC (.str y)) tNil))) tNext) R D [some (.ref a), some (.ref N)] G := by
  refine ⟨.ref a, rfl, Dy, dd, fs, b, rfl, rfl, hd, hk, _, rfl, ?_⟩
  cases b with
  | false => exact iteF (q G (Same.refl _) hd (by rw [hN]; simp) (by simp))
  | true =>
    refine iteT ⟨.ref N, rfl, .inl ⟨rfl, _, SqL.of hN⟩, N, _, _, rfl, rfl, hN, (by rw [List.length_map]; exact Nat.lt_of_le_of_lt hl (by decide)), ?_⟩
    have hne : dd ≠ N := fun z => by rw [z, hN] at hd; cases hd
    refine q _ ?_ (by rw [upd_ne hne]; exact hd) (by rw [upd_same]; simp) (by simp)
    intro c o e
    unfold del at e ⊢
    split at e
    · cases e
    · rename_i hc
      rw [if_neg hc, upd_ne hc]
      exact e
def sp_law_kinds (K : PySem.W.Frag) (p : Addr × Obj) : Sp := fun vs H Q _ => ∃ (x : Str) (dd : Addr) (fs : List (Str × V)), vs = [.ref p.1] ∧ Zc (.ref (He.ga K x)) (some dd) p.2 ∧ (∃ us, p.2.data = .fields us) ∧ H dd = some (.xd fs) ∧ x ∈ toldl ∧
  ∀ H' t, Same H H' → H' t = some (.lst ((kindsOf x).map V.str)) → Q (.ref t) H'
theorem ok_law_kinds (T : Txt K mg) : ∃ fd, FnHG P w K mg base CX0 1 (He.ga K "_law_kinds") fd ["_law_error"] (sp_law_kinds K) ∧ Binds K fd ["_law_error"] [] ∧ PySem.W.keepIn K (.ref (He.ga K "_law_kinds")) = true := by
  obtain ⟨fd, F⟩ := F__law_kinds T
  refine ⟨fd, fnHG_mk F sc__law_kinds (fun p vs H Q E h => ?_) (fun cdv A outer s H vs Q E p hG hot hr h => ?_), F.bindsN fun _ _ _ _ _ _ us hl => match us, hl with | [_], _ => rfl, F.kp⟩
  · obtain ⟨x, dd, fs, rfl, _⟩ := h; rfl
  · obtain ⟨x, dd, fs, rfl, hz, hf, hdd, told, q⟩ := h
    have EF := errF T told
    have kit : ∀ y ∈ askedl, PySem.W.kitOne K (.ref (He.ga K x)) (.ref (He.ga K y)) = some (isErr x y) := EF.kit
    refine ⟨_, PSs.nox (pss_cons (ps_set (i := 1) sc__law_kinds.nd rfl (Or.inl rfl) (pe_lst pa_nil))
        (pss_cons (ps_if (pt_val (pe_callB (call_isM EF.xf EF.cl EF.cc (objF T).1 (objF T).2 EF.mo (List.mem_singleton.mpr rfl) hz hf) (by rfl) (fr_isinstance T) b_isinstance (pa_cons (pv 0) (pa_cons (pe_glob (v := .ref (He.ga K "WrongThing")) (by rfl) (g_WrongThing T) rfl) pa_nil)))) (pss_one (ps_expr (pe_bm PySem.F.plainAttrs_list PySem.F.slot_list_append PySem.F.type_list_append mt_append (pv 1) (pa_cons pe_str pa_nil)))) pss_nil)
        (pss_cons (ps_if (pt_val (pe_callB (call_isM EF.xf EF.cl EF.cc (objF T).1 (objF T).2 EF.mo (List.mem_singleton.mpr rfl) hz hf) (by rfl) (fr_isinstance T) b_isinstance (pa_cons (pv 0) (pa_cons (pe_glob (v := .ref (He.ga K "WrongItem")) (by rfl) (g_WrongItem T) rfl) pa_nil)))) (pss_one (ps_expr (pe_bm PySem.F.plainAttrs_list PySem.F.slot_list_append PySem.F.type_list_append mt_append (pv 1) (pa_cons pe_str pa_nil)))) pss_nil)
        (pss_cons (ps_if (pt_val (pe_callB (call_isM EF.xf EF.cl EF.cc (objF T).1 (objF T).2 EF.mo (List.mem_singleton.mpr rfl) hz hf) (by rfl) (fr_isinstance T) b_isinstance (pa_cons (pv 0) (pa_cons (pe_glob (v := .ref (He.ga K "BadAlphabet")) (by rfl) (g_BadAlphabet T) rfl) pa_nil)))) (pss_one (ps_expr (pe_bm PySem.F.plainAttrs_list PySem.F.slot_list_append PySem.F.type_list_append mt_append (pv 1) (pa_cons pe_str pa_nil)))) pss_nil)
        (pss_cons (ps_if (pt_val (pe_callB (call_isM EF.xf EF.cl EF.cc (objF T).1 (objF T).2 EF.mo (List.mem_singleton.mpr rfl) hz hf) (by rfl) (fr_isinstance T) b_isinstance (pa_cons (pv 0) (pa_cons (pe_glob (v := .ref (He.ga K "BadNames")) (by rfl) (g_BadNames T) rfl) pa_nil)))) (pss_one (ps_expr (pe_bm PySem.F.plainAttrs_list PySem.F.slot_list_append PySem.F.type_list_append mt_append (pv 1) (pa_cons pe_str pa_nil)))) pss_nil)
        (pss_cons (ps_if (pt_val (pe_callB (call_isM EF.xf EF.cl EF.cc (objF T).1 (objF T).2 EF.mo (List.mem_singleton.mpr rfl) hz hf) (by rfl) (fr_isinstance T) b_isinstance (pa_cons (pv 0) (pa_cons (pe_glob (v := .ref (He.ga K "BadMove")) (by rfl) (g_BadMove T) rfl) pa_nil)))) (pss_one (ps_expr (pe_bm PySem.F.plainAttrs_list PySem.F.slot_list_append PySem.F.type_list_append mt_append (pv 1) (pa_cons pe_str pa_nil)))) pss_nil)
        (pss_cons (ps_if (pt_val (pe_callB (call_isM EF.xf EF.cl EF.cc (objF T).1 (objF T).2 EF.mo (List.mem_singleton.mpr rfl) hz hf) (by rfl) (fr_isinstance T) b_isinstance (pa_cons (pv 0) (pa_cons (pe_glob (v := .ref (He.ga K "BadAccepted")) (by rfl) (g_BadAccepted T) rfl) pa_nil)))) (pss_one (ps_expr (pe_bm PySem.F.plainAttrs_list PySem.F.slot_list_append PySem.F.type_list_append mt_append (pv 1) (pa_cons pe_str pa_nil)))) pss_nil)
        (pss_cons (ps_if (pt_val (pe_callB (call_isM EF.xf EF.cl EF.cc (objF T).1 (objF T).2 EF.mo (List.mem_singleton.mpr rfl) hz hf) (by rfl) (fr_isinstance T) b_isinstance (pa_cons (pv 0) (pa_cons (pe_glob (v := .ref (He.ga K "BadRow")) (by rfl) (g_BadRow T) rfl) pa_nil)))) (pss_one (ps_expr (pe_bm PySem.F.plainAttrs_list PySem.F.slot_list_append PySem.F.type_list_append mt_append (pv 1) (pa_cons pe_str pa_nil)))) pss_nil)
        (pss_cons (ps_if (pt_val (pe_callB (call_isM EF.xf EF.cl EF.cc (objF T).1 (objF T).2 EF.mo (List.mem_singleton.mpr rfl) hz hf) (by rfl) (fr_isinstance T) b_isinstance (pa_cons (pv 0) (pa_cons (pe_glob (v := .ref (He.ga K "BadPlaces")) (by rfl) (g_BadPlaces T) rfl) pa_nil)))) (pss_one (ps_expr (pe_bm PySem.F.plainAttrs_list PySem.F.slot_list_append PySem.F.type_list_append mt_append (pv 1) (pa_cons pe_str pa_nil)))) pss_nil)
        (pss_one (ps_ret (pv 1)))))))))))), ?_⟩
    refine ⟨(by show 0 ≤ sizeLine; decide), fun N hN => ?_⟩
    have h0 : upd H N (.lst []) dd = some (.xd fs) := same_upd hN _ _ hdd
    have n0 : upd H N (.lst []) N = some (.lst (([] : List Str).map V.str)) := upd_same
    have s0 : Same H (del (upd H N (.lst [])) N) := fun b o e => by
      have hb : b ≠ N := ne_of_none e hN
      unfold del
      rw [if_neg hb, upd_ne hb]
      exact e
    have l0 : ([] : List Str).length ≤ 0 := Nat.le_refl _
    revert h0 n0 s0
    show ∀ (_ : upd H N (.lst []) dd = _) (_ : upd H N (.lst []) N = _) (_ : Same H (del (upd H N (.lst [])) N)), _
    generalize upd H N (.lst []) = G0
    intro h0 n0 s0
    refine kind_step (b := isErr x "WrongThing") h0 n0 (kit _ (by decide +kernel)) (by omega) fun G1 t1 h1 n1 m1 => ?_
    have s1 := s0.trans t1
    have l1 := Nat.le_trans m1 (Nat.succ_le_succ l0)
    refine kind_step (b := isErr x "WrongItem") h1 n1 (kit _ (by decide +kernel)) (by omega) fun G2 t2 h2 n2 m2 => ?_
    have s2 := s1.trans t2
    have l2 := Nat.le_trans m2 (Nat.succ_le_succ l1)
    refine kind_step (b := isErr x "BadAlphabet") h2 n2 (kit _ (by decide +kernel)) (by omega) fun G3 t3 h3 n3 m3 => ?_
    have s3 := s2.trans t3
    have l3 := Nat.le_trans m3 (Nat.succ_le_succ l2)
    refine kind_step (b := isErr x "BadNames") h3 n3 (kit _ (by decide +kernel)) (by omega) fun G4 t4 h4 n4 m4 => ?_
    have s4 := s3.trans t4
    have l4 := Nat.le_trans m4 (Nat.succ_le_succ l3)
    refine kind_step (b := isErr x "BadMove") h4 n4 (kit _ (by decide +kernel)) (by omega) fun G5 t5 h5 n5 m5 => ?_
    have s5 := s4.trans t5
    have l5 := Nat.le_trans m5 (Nat.succ_le_succ l4)
    refine kind_step (b := isErr x "BadAccepted") h5 n5 (kit _ (by decide +kernel)) (by omega) fun G6 t6 h6 n6 m6 => ?_
    have s6 := s5.trans t6
    have l6 := Nat.le_trans m6 (Nat.succ_le_succ l5)
    refine kind_step (b := isErr x "BadRow") h6 n6 (kit _ (by decide +kernel)) (by omega) fun G7 t7 h7 n7 m7 => ?_
    have s7 := s6.trans t7
    have l7 := Nat.le_trans m7 (Nat.succ_le_succ l6)
    refine kind_step (b := isErr x "BadPlaces") h7 n7 (kit _ (by decide +kernel)) (by omega) fun G8 t8 h8 n8 m8 => ?_
    have s8 := s7.trans t8
    have l8 := Nat.le_trans m8 (Nat.succ_le_succ l7)
    refine ⟨.ref N, rfl, q G8 N (s8.trans (del_le N)) ?_⟩
    rw [n8]
    have hall : ∀ z ∈ toldl, ((([] : List Str) ++ (if isErr z "WrongThing" then [("thing" : Str)] else ([] : List Str)) ++ (if isErr z "WrongItem" then [("item" : Str)] else ([] : List Str)) ++ (if isErr z "BadAlphabet" then [("BadAlphabet" : Str)] else ([] : List Str)) ++ (if isErr z "BadNames" then [("BadNames" : Str)] else ([] : List Str)) ++ (if isErr z "BadMove" then [("BadMove" : Str)] else ([] : List Str)) ++ (if isErr z "BadAccepted" then [("BadAccepted" : Str)] else ([] : List Str)) ++ (if isErr z "BadRow" then [("BadRow" : Str)] else ([] : List Str)) ++ (if isErr z "BadPlaces" then [("BadPlaces" : Str)] else ([] : List Str)))) = kindsOf z := by decide +kernel
    rw [← hall x told]
end
end Kx
set_option Elab.async false
set_option linter.all false
set_option maxRecDepth 100000
set_option maxHeartbeats 4000000
namespace Kx
open PySem PySem.Spec PyProof.Rows L2
theorem sameX_made {H H' : Hp} {x dx C : Addr} (hx : H x = none) (hd : H dx = none) (s : SameX x (upd (upd H dx (.own x)) x (.ins C dx [])) H') : Same H H' := fun b o e => by
  have h1 := ne_of_none e hx
  exact s b o h1 (by rw [upd_ne h1, upd_ne (ne_of_none e hd)]; exact e)
theorem same_made {H : Hp} {x dx C : Addr} (hx : H x = none) (hd : H dx = none) : Same H (upd (upd H dx (.own x)) x (.ins C dx [])) := fun b o e => by
  rw [upd_ne (ne_of_none e hx), upd_ne (ne_of_none e hd)]; exact e
theorem list_app {z : Str} {ks : List Str} : (ks.map V.str ++ [V.str z]) = (ks ++ [z]).map V.str := by simp
theorem flat_strs {ks : List Str} : (ks.map V.str).all flatV = true := by
  rw [List.all_eq_true]
  intro v hv
  obtain ⟨z, _, rfl⟩ := List.mem_map.mp hv
  rfl
theorem inV_strs {z : Str} {ks : List Str} : inV (.str z) (ks.map V.str) = decide (z ∈ ks) := by
  unfold inV
  rw [Bool.eq_iff_iff, decide_eq_true_eq, List.any_eq_true]
  constructor
  · rintro ⟨v, hv, e⟩
    obtain ⟨y, hy, rfl⟩ := List.mem_map.mp hv
    have : y = z := by simpa [eqV] using e
    rw [← this]
    exact hy
  · intro hz
    exact ⟨_, List.mem_map_of_mem hz, by simp [eqV]⟩
theorem due_move {a n m c : PyData} {k : Int} (h : readDue a n m c = .move k) : -1 ≤ k ∧ k ≤ 100000 := by
  unfold readDue at h
  split at h
  · split at h
    · split at h
      · rename_i j h1
        cases h
        exact moves_rng h1
      · split at h <;> cases h
    · cases h
  · cases h
theorem due_acc {a n m c : PyData} {k : Int} (sm : smallL c) (h : readDue a n m c = .acc k) : -1 ≤ k ∧ k ≤ 100000 := by
  unfold readDue at h
  split at h
  · split at h
    · split at h
      · cases h
      · split at h
        · rename_i j h1
          cases h
          exact acc_rng sm h1
        · cases h
    · cases h
  · cases h
/-- what the law tells of an error of the making -/
inductive ToldM (H : Hp) : Str → List (Str × V) → List Str → Prop
  | alph {v : V} {d : PyData} : Rp H v d → ReprOk d → ToldM H "BadAlphabet" [("thing", v)] ["thing", "BadAlphabet", d.shown]
  | names {v : V} {d : PyData} : Rp H v d → ReprOk d → ToldM H "BadNames" [("thing", v)] ["thing", "BadNames", d.shown]
  | move {k : Int} : -1 ≤ k ∧ k ≤ 100000 → ToldM H "BadMove" [("number", .int k)] ["item", "BadMove", (PyData.int k).shown]
  | acc {k : Int} : -1 ≤ k ∧ k ≤ 100000 → ToldM H "BadAccepted" [("number", .int k)] ["item", "BadAccepted", (PyData.int k).shown]
theorem ToldM.mem {H : Hp} {x : Str} {fs : List (Str × V)} {r : List Str} (h : ToldM H x fs r) : x ∈ toldl := by cases h <;> decide +kernel
def tMade (K : PySem.W.Frag) (a : Addr) (cls : Value) (d : Option Addr) : TS := fun D σ H => (∃ w0 w1 w2 w3 w5, σ = [w0, w1, w2, w3, some (.ref a), w5]) ∧ ∃ (x : Str) (dd : Addr) (fs : List (Str × V)) (res : List Str), cls = .ref (He.ga K x) ∧ d = some dd ∧ H dd = some (.xd fs) ∧ ToldM H x fs res ∧
  ∀ H' t, Same H H' → H' t = some (.lst (res.map V.str)) → D.rt (.ref t) H'
section
variable {P : Program} {w : World} {K : PySem.W.Frag} {mg : Str → Option Value} {base : Heap}
theorem ok_law_made (T : Txt K mg) : CalG P w K mg base CX0 7 "_law_made" ["_law_alphabet_here", "_law_names", "_law_moves", "_law_accepted"] sp_law_due := by
  obtain ⟨fd, F⟩ := F__law_made T
  obtain ⟨fdI, FI⟩ := F_Reader___init__ T
  obtain ⟨fdE, FE, bE, kE⟩ := ok_law_kinds (P := P) (w := w) (base := base) T
  have bI : Binds K fdI ["self", "alphabet", "names", "moves", "accepted"] [] := FI.bindsN fun _ _ _ _ _ _ us hl => match us, hl with | [_, _, _, _, _], _ => rfl
  refine calG_mk F (g__law_made T) sc__law_made (fun _ _ _ _ _ _ us hl => match us, hl with | [_, _, _, _], _ => rfl) (fun vs H Q E h => ?_) (fun cdv A outer s H vs Q E hG hr h => ?_)
  · obtain ⟨va, vn, vm, vc, a, n, m, c, rfl, _⟩ := h; rfl
  · have hu := hr.units
    have hr1 := hr.mono (show 1 ≤ 6 by decide)
    refine ⟨_, PSs.nox (pss_cons (L2N.ps_try_as (i := 4) (c := .ref (He.ga K "SaidError")) (ts := tMade K) (Wout := fun _ _ _ _ => False) rfl rfl sc__law_made.nd rfl rfl ⟨by rfl, by decide, .inl (g_SaidError T)⟩ takes_no
      (fun W pn xe tk po => pss_one (ps_expr (pe_makeS (E := fun σ cls d H => W cls d σ H) (mkr_Reader T) (ok_Reader_init T FI) hr (by rfl) (g_Reader T) bI (passAtN tk) (pa_cons (pv 0) (pa_cons (pv 1) (pa_cons (pv 2) (pa_cons (pv 3) pa_nil)))))))
      (fun a oe cls d pn hz hf => ?_)) (pss_one (ps_ret pe_non))), ?_⟩
    · refine psS_any fun D σ H h' => ?_
      obtain ⟨⟨w0, w1, w2, w3, w5, rfl⟩, x, dd, fs, res, rfl, rfl, h1, h2, h3⟩ := h'
      have hf' := hf
      obtain ⟨us, hus⟩ := hf'
      have EF := errF T h2.mem
      have EV := val_of T h2.mem
      refine ⟨_, (pss_cons (ps_set (i := 5) sc__law_made.nd rfl (Or.inl rfl) (pe_callHG (p := (a, oe)) (E := E0) FE hG ⟨hr1.dp, hr1.un⟩ ⟨rfl, us, hus, hz.2.2 us hus⟩ (List.mem_cons_self ..) (by rfl) (g__law_kinds T) kE bE (fun _ _ _ _ _ _ _ z => z.elim) (pa_cons (pv 4) pa_nil)))
        (pss_cons (ps_if (pt_not (pt_val (pe_callB (r := rIsV K (He.ga K x) a (some dd)) (call_isV EF.xf EF.cl EF.cc (objF T).1 (objF T).2 EF.mo (List.mem_cons_self ..) ⟨hz.1, hz.2.1⟩ hf) (by rfl) (fr_isinstance T) b_isinstance (pa_cons (pv 4) (pa_cons (pe_ty (fr_ValueError T) b_ValueError) pa_nil))))) (pss_one (ps_ret (pe_lst (pa_cons pe_str pa_nil)))) pss_nil)
        (pss_cons (ps_if (pt_cmpR op_in_seq pe_str (pv 5) rfl) (pss_one (ps_ret (pe_op op_cat (pv 5) (pe_lst (pa_cons (pe_callB (call_repr hG hu) (by rfl) (fr_repr T) b_repr (pa_cons (pe_xfM (C := He.ga K x) EF.xf (EF.fld "thing" (by simp)) (List.mem_cons_self ..) ⟨hz.1, hz.2.1⟩ hf (pv 4)) pa_nil)) pa_nil))))) pss_nil)
        (pss_cons (ps_if (pt_cmpR op_in_seq pe_str (pv 5) rfl) (pss_one (ps_ret (pe_op op_cat (pv 5) (pe_lst (pa_cons (pe_callB (call_repr hG hu) (by rfl) (fr_repr T) b_repr (pa_cons (pe_xfM (C := He.ga K x) EF.xf (EF.fld "number" (by simp)) (List.mem_cons_self ..) ⟨hz.1, hz.2.1⟩ hf (pv 4)) pa_nil)) pa_nil))))) pss_nil)
        (pss_one (ps_ret (pv 5))))))), ?_⟩
      refine ⟨.ref a, rfl, x, dd, fs, rfl, ⟨hz.1, hz.2.1⟩, ⟨us, hus⟩, h1, h2.mem, fun H1 l s1 hl => ?_⟩
      cases h2 with
      | alph rd rok =>
        have ek : kindsOf "BadAlphabet" = [("thing" : Str), "BadAlphabet"] := by decide +kernel
        rw [ek] at hl
        refine ⟨.ref a, rfl, dd, _, "ValueError", true, rfl, rfl, s1 _ _ h1, EV, _, rfl, iteF ?_⟩
        refine ⟨.ref l, rfl, l, _, rfl, .inl (SqL.of hl), rfl, flat_strs, _, rfl, ?_⟩
        rw [if_neg Bool.false_ne_true, show inV (.str "thing") ([("thing" : Str), "BadAlphabet"].map V.str) = true from by decide +kernel]
        refine iteT ⟨.ref l, rfl, .ref a, rfl, rfl, rfl, dd, _, _, rfl, s1 _ _ h1, rfl, _, _, rfl, (rd.same s1).dp rok.nd, rok.sh, rok.nd, rok.dp, rok.sz, (by show 1 ≤ sizeLine; decide), fun t ht => ⟨l, t, _, _, rfl, rfl, same_upd ht _ _ hl, upd_same, (by show 3 ≤ sizeLine; decide), fun t2 ht2 => ?_⟩⟩
        exact h3 _ _ (s1.trans ((same_upd ht).trans (same_upd ht2))) upd_same
      | names rd rok =>
        have ek : kindsOf "BadNames" = [("thing" : Str), "BadNames"] := by decide +kernel
        rw [ek] at hl
        refine ⟨.ref a, rfl, dd, _, "ValueError", true, rfl, rfl, s1 _ _ h1, EV, _, rfl, iteF ?_⟩
        refine ⟨.ref l, rfl, l, _, rfl, .inl (SqL.of hl), rfl, flat_strs, _, rfl, ?_⟩
        rw [if_neg Bool.false_ne_true, show inV (.str "thing") ([("thing" : Str), "BadNames"].map V.str) = true from by decide +kernel]
        refine iteT ⟨.ref l, rfl, .ref a, rfl, rfl, rfl, dd, _, _, rfl, s1 _ _ h1, rfl, _, _, rfl, (rd.same s1).dp rok.nd, rok.sh, rok.nd, rok.dp, rok.sz, (by show 1 ≤ sizeLine; decide), fun t ht => ⟨l, t, _, _, rfl, rfl, same_upd ht _ _ hl, upd_same, (by show 3 ≤ sizeLine; decide), fun t2 ht2 => ?_⟩⟩
        exact h3 _ _ (s1.trans ((same_upd ht).trans (same_upd ht2))) upd_same
      | move hk =>
        have ek : kindsOf "BadMove" = [("item" : Str), "BadMove"] := by decide +kernel
        rw [ek] at hl
        refine ⟨.ref a, rfl, dd, _, "ValueError", true, rfl, rfl, s1 _ _ h1, EV, _, rfl, iteF ?_⟩
        refine ⟨.ref l, rfl, l, _, rfl, .inl (SqL.of hl), rfl, flat_strs, _, rfl, ?_⟩
        rw [if_neg Bool.false_ne_true, show inV (.str "thing") ([("item" : Str), "BadMove"].map V.str) = false from by decide +kernel]
        refine iteF ⟨.ref l, rfl, l, _, rfl, .inl (SqL.of hl), rfl, flat_strs, _, rfl, ?_⟩
        rw [if_neg Bool.false_ne_true, show inV (.str "item") ([("item" : Str), "BadMove"].map V.str) = true from by decide +kernel]
        refine iteT ⟨.ref l, rfl, .ref a, rfl, rfl, rfl, dd, _, _, rfl, s1 _ _ h1, rfl, _, _, rfl, .int _, (reprOk_int hk).sh, (reprOk_int hk).nd, (reprOk_int hk).dp, (reprOk_int hk).sz, (by show 1 ≤ sizeLine; decide), fun t ht => ⟨l, t, _, _, rfl, rfl, same_upd ht _ _ hl, upd_same, (by show 3 ≤ sizeLine; decide), fun t2 ht2 => ?_⟩⟩
        exact h3 _ _ (s1.trans ((same_upd ht).trans (same_upd ht2))) upd_same
      | acc hk =>
        have ek : kindsOf "BadAccepted" = [("item" : Str), "BadAccepted"] := by decide +kernel
        rw [ek] at hl
        refine ⟨.ref a, rfl, dd, _, "ValueError", true, rfl, rfl, s1 _ _ h1, EV, _, rfl, iteF ?_⟩
        refine ⟨.ref l, rfl, l, _, rfl, .inl (SqL.of hl), rfl, flat_strs, _, rfl, ?_⟩
        rw [if_neg Bool.false_ne_true, show inV (.str "thing") ([("item" : Str), "BadAccepted"].map V.str) = false from by decide +kernel]
        refine iteF ⟨.ref l, rfl, l, _, rfl, .inl (SqL.of hl), rfl, flat_strs, _, rfl, ?_⟩
        rw [if_neg Bool.false_ne_true, show inV (.str "item") ([("item" : Str), "BadAccepted"].map V.str) = true from by decide +kernel]
        refine iteT ⟨.ref l, rfl, .ref a, rfl, rfl, rfl, dd, _, _, rfl, s1 _ _ h1, rfl, _, _, rfl, .int _, (reprOk_int hk).sh, (reprOk_int hk).nd, (reprOk_int hk).dp, (reprOk_int hk).sz, (by show 1 ≤ sizeLine; decide), fun t ht => ⟨l, t, _, _, rfl, rfl, same_upd ht _ _ hl, upd_same, (by show 3 ≤ sizeLine; decide), fun t2 ht2 => ?_⟩⟩
        exact h3 _ _ (s1.trans ((same_upd ht).trans (same_upd ht2))) upd_same
    · obtain ⟨va, vn, vm, vc, a, n, m, c, rfl, ra, rn, rm, rc, sm, oa, on, q⟩ := h
      refine ⟨va, rfl, vn, rfl, vm, rfl, vc, rfl, fun x dx hx hd hne => ?_⟩
      have s0 := same_made (C := He.ga K "Reader") hx hd
      refine ⟨x, dx, va, vn, vm, vc, a, n, m, c, rfl, upd_same, by rw [upd_ne hne]; exact upd_same, hne, ra.same s0, rn.same s0, rm.same s0, rc.same s0, sm, fun H1 sx => ?_, fun hok H1 sx PA PO => ⟨rfl, ?_⟩⟩
      · have s1 := sameX_made hx hd sx
        intro d1 hd1
        have q' : ∀ H' t zs, dueL a n (readDue a n m c) = some zs → Same H H' → H' t = some (.lst (zs.map V.str)) → Q (.ref t) H' := fun H' t zs e s h => q H' _ s (by rw [e]; exact ⟨t, rfl, h⟩)
        have hm := @moves_rng ((alS a).length * 2 ^ (alS n).length) m
        have hc := @acc_rng (lenD m : Nat) c
        have s2 := fun (o : HO) => s1.trans (same_upd (o := o) hd1)
        cases hdue : readDue a n m c with
        | alph =>
          rw [hdue] at q'
          exact ⟨true, said_of T 0, fun _ a2 _ => ⟨⟨_, _, _, _, _, rfl⟩, "BadAlphabet", d1, _, _, rfl, rfl, upd_same, .alph (ra.same (s2 _)) oa, fun H2 t2 s3 e => q' H2 t2 _ rfl ((s2 _).trans s3) e⟩, fun h => by cases h⟩
        | names =>
          rw [hdue] at q'
          exact ⟨true, said_of T 1, fun _ a2 _ => ⟨⟨_, _, _, _, _, rfl⟩, "BadNames", d1, _, _, rfl, rfl, upd_same, .names (rn.same (s2 _)) on, fun H2 t2 s3 e => q' H2 t2 _ rfl ((s2 _).trans s3) e⟩, fun h => by cases h⟩
        | move k =>
          rw [hdue] at q'
          exact ⟨true, said_of T 3, fun _ a2 _ => ⟨⟨_, _, _, _, _, rfl⟩, "BadMove", d1, _, _, rfl, rfl, upd_same, .move (due_move hdue), fun H2 t2 s3 e => q' H2 t2 _ rfl ((s2 _).trans s3) e⟩, fun h => by cases h⟩
        | acc k =>
          rw [hdue] at q'
          exact ⟨true, said_of T 4, fun _ a2 _ => ⟨⟨_, _, _, _, _, rfl⟩, "BadAccepted", d1, _, _, rfl, rfl, upd_same, .acc (due_acc sm.2.2.2 hdue), fun H2 t2 s3 e => q' H2 t2 _ rfl ((s2 _).trans s3) e⟩, fun h => by cases h⟩
        | ok => trivial
      · exact q H1 .non (sameX_made hx hd sx) (by rw [hok]; rfl)
end
end Kx
set_option Elab.async false
set_option linter.all false
set_option maxRecDepth 100000
set_option maxHeartbeats 4000000
namespace Kx
open PySem PySem.Spec PyProof.Rows L2
/-- repr(x), x data without dicts, or an empty dict -/
def rReprA (K : PySem.W.Frag) : List V → Hp → VK → Prop := fun xs H Q => rRepr K xs H Q ∨ ∃ a, xs = [.ref a] ∧ H a = some (.dK []) ∧ Q (.str (PyData.dict []).shown) H
theorem call_reprA {X : Cx} (hG : X.A.guards = some []) (hu : X.A.units + 64 < cLine) : CallR X (.builtin "repr") (rReprA X.K) := by
  intro pins s σ H xs us Q I r h
  rcases h with h | ⟨a, rfl, ha, q⟩
  · exact call_repr hG hu pins s σ H xs us Q I r h
  · obtain ⟨u, rfl, ru⟩ := vals1 r
    cases ru
    have ok : ObjOk X.prog X.w H s.heap a (.dK []) := I.hok a _ ha
    obtain ⟨_, hsm, vs, kv, o, es, ep, ho, he, hd, _, hp, _⟩ := ok
    have ev : vs = [] := by cases kv; rfl
    subst ev
    have ee : es.toList = [] := by
      generalize es.toList = l at hp
      cases hp
      rfl
    have rd : Reads s.heap (.ref a) (.dict []) (a :: [] ++ []) := Reads.dict ho he.1 hd (by rw [ee]; exact .nil) (by rw [ee]; exact .nil)
    have hdp : (PyData.dict []).depth ≤ 60 := by decide +kernel
    refine PySem.repr_of_reads' rd (by decide +kernel) (fun _ hm => ?_) hG (by omega) (fun _ _ e => e) (fun h' t tk kk => ⟨.str _, H, I.kept kk, ⟨_, rfl⟩, q⟩) (by decide +kernel)
    have : sysModules = a := by simpa using hm
    rw [this] at hsm
    simp at hsm
def ReprPl (d : PyData) : Prop := d = .dict [] ∨ ReprOk d
theorem repr_pl {K : PySem.W.Frag} {H : Hp} {v : V} {d : PyData} {Q : VK} (h : PlS K H v d) (hd : ReprPl d) (q : Q (.str d.shown) H) : rReprA K [v] H Q := by
  rcases hd with rfl | ok
  · rcases h with h | ⟨h, _⟩
    · cases h with
      | dct e => exact .inr ⟨_, rfl, e, q⟩
    · cases h
  · refine .inl ⟨v, d, rfl, ?_, ok.sh, ok.nd, ok.dp, ok.sz, q⟩
    rcases h with h | ⟨rfl, a, rfl, h⟩
    · exact h.dp ok.nd
    · exact .tup h.sq .nil
end Kx
set_option Elab.async false
set_option linter.all false
set_option maxRecDepth 100000
set_option maxHeartbeats 4000000
namespace Kx
open PySem PySem.Spec PyProof.Rows L2
theorem dp_names {K : PySem.W.Frag} {H : Hp} {a : Addr} (nm : List Str) (h : H a = some (.lst (nm.map V.str))) : Dp K H (.ref a) (.list (nm.map PyData.str)) := by
  refine .lst (SqL.of h) ?_
  clear h
  induction nm with
  | nil => exact .nil
  | cons z zs ih => exact .cons (.str z) ih
theorem firstNot_lt {al : List Nat} : ∀ {cs : List Nat} {k : Nat} {j : Int}, firstNot al cs k = some j → (k : Int) ≤ j ∧ j < k + cs.length
  | [], _, _, h => by cases h
  | c :: cs, k, j, h => by
    unfold firstNot at h
    simp only [List.length_cons]
    by_cases hc : c ∈ al
    · rw [if_pos hc] at h
      have := firstNot_lt h
      omega
    · rw [if_neg hc] at h
      cases h
      omega
theorem wrongL_lt {al : List Nat} {d : PyData} {k : Int} (h : wrongL al d = some k) : -1 ≤ k ∧ k ≤ 100000 := by
  cases d with
  | str z =>
    have h : (if z.length ≤ 200 then firstNot al z.cps.toList 0 else some (-1)) = some k := h
    by_cases hz : z.length ≤ 200
    · rw [if_pos hz] at h
      have h1 := firstNot_lt h
      have h2 : z.cps.toList.length = z.length := Array.length_toList
      omega
    · rw [if_neg hz] at h; cases h; omega
  | _ => cases h; omega
/-- what the law tells of an error of the call -/
inductive ToldC (K : PySem.W.Frag) (H : Hp) : Str → List (Str × V) → List Str → Prop
  | row {k : Int} : -1 ≤ k ∧ k ≤ 100000 → ToldC K H "BadRow" [("at", .int k)] ["BadRow", (PyData.int k).shown]
  | places {v : V} {d : PyData} : PlS K H v d → ReprPl d → ToldC K H "BadPlaces" [("thing", v)] ["thing", "BadPlaces", d.shown]
theorem ToldC.mem {K : PySem.W.Frag} {H : Hp} {x : Str} {fs : List (Str × V)} {r : List Str} (h : ToldC K H x fs r) : x ∈ toldl := by cases h <;> decide +kernel
def tCalled (K : PySem.W.Frag) (a : Addr) (cls : Value) (d : Option Addr) : TS := fun D σ H => (∃ w0 w1 w2 w4, σ = [w0, w1, w2, some (.ref a), w4]) ∧ ∃ (x : Str) (dd : Addr) (fs : List (Str × V)) (res : List Str), cls = .ref (He.ga K x) ∧ d = some dd ∧ H dd = some (.xd fs) ∧ ToldC K H x fs res ∧
  ∀ H' t, Same H H' → H' t = some (.lst (res.map V.str)) → D.rt (.ref t) H'
/-- a reader's answer, as the law lists it -/
def calledV (D : RdD) (d pd : PyData) : List V := match wrongL D.al.cps.toList d with
  | some k => [.str "BadRow", .str (PyData.int k).shown]
  | none => if moveD D.ns.length (alS d).length pd = true then [.bl (accepts D (alS d).cps.toList (placesI pd))] else [.str "thing", .str "BadPlaces", .str pd.shown]
section
variable {P : Program} {w : World} {K : PySem.W.Frag} {mg : Str → Option Value} {base : Heap}
def sp_law_called (K : PySem.W.Frag) : Sp := fun vs H Q _ => ∃ (x : Addr) (D : RdD) (v pv : V) (d pd : PyData), vs = [.ref x, v, pv] ∧ RdAt K H x D ∧ RdOk D ∧ Rp H v d ∧ smallT d ∧ PlS K H pv pd ∧ smallD pd ∧ ReprPl pd ∧
  ∀ H' t, Same H H' → H' t = some (.lst (calledV D d pd)) → Q (.ref t) H'
theorem ok_law_called (T : Txt K mg) : CalG P w K mg base CX0 7 "_law_called" ["_law_reader", "_law_row", "_law_places"] (sp_law_called K) := by
  obtain ⟨fd, F⟩ := F__law_called T
  obtain ⟨fdC, FC⟩ := F_Reader___call__ T
  obtain ⟨fdE, FE, bE, kE⟩ := ok_law_kinds (P := P) (w := w) (base := base) T
  refine calG_mk F (g__law_called T) sc__law_called (fun _ _ _ _ _ _ us hl => match us, hl with | [_, _, _], _ => rfl) (fun vs H Q E h => ?_) (fun cdv A outer s H vs Q E hG hr h => ?_)
  · obtain ⟨x, D, v, pv, d, pd, rfl, _⟩ := h; rfl
  · have hu := hr.units
    have hr1 := hr.mono (show 1 ≤ 6 by decide)
    refine ⟨_, PSs.nox (pss_one (L2N.ps_try_as (i := 3) (c := .ref (He.ga K "SaidError")) (ts := tCalled K) (Wout := fun _ _ _ _ => False) rfl rfl sc__law_called.nd rfl rfl ⟨by rfl, by decide, .inl (g_SaidError T)⟩ takes_no
      (fun W pn xe tk po => pss_one (ps_ret (pe_lst (pa_cons (pe_callOD (E := fun σ cls d H => W cls d σ H) (dvs := []) (pv 0) (callO_read T) (ok_Reader_call T FC) (hr.mono (by decide)) (bind3 FC) .nil (passAtN tk) (pa_cons (pv 1) (pa_cons (pv 2) pa_nil))) pa_nil))))
      (fun a oe cls d pn hz hf => ?_))), ?_⟩
    · refine psS_any fun D σ H h' => ?_
      obtain ⟨⟨w0, w1, w2, w4, rfl⟩, x, dd, fs, res, rfl, rfl, h1, h2, h3⟩ := h'
      have hf' := hf
      obtain ⟨us, hus⟩ := hf'
      have EF := errF T h2.mem
      refine ⟨_, (pss_cons (ps_set (i := 4) sc__law_called.nd rfl (Or.inl rfl) (pe_callHG (p := (a, oe)) (E := E0) FE hG ⟨hr1.dp, hr1.un⟩ ⟨rfl, us, hus, hz.2.2 us hus⟩ (List.mem_cons_self ..) (by rfl) (g__law_kinds T) kE bE (fun _ _ _ _ _ _ _ z => z.elim) (pa_cons (pv 3) pa_nil)))
        (pss_cons (ps_if (pt_cmpR op_in_seq pe_str (pv 4) rfl) (pss_one (ps_ret (pe_op op_cat (pv 4) (pe_lst (pa_cons (pe_callB (call_reprA hG hu) (by rfl) (fr_repr T) b_repr (pa_cons (pe_xfM (C := He.ga K x) EF.xf (EF.fld "thing" (by simp)) (List.mem_cons_self ..) ⟨hz.1, hz.2.1⟩ hf (pv 3)) pa_nil)) pa_nil))))) pss_nil)
        (pss_cons (ps_if (pt_cmpR (op_eqD hu) (pv 4) (pe_lst (pa_cons pe_str pa_nil)) (nomark _)) (pss_one (ps_ret (pe_op op_cat (pv 4) (pe_lst (pa_cons (pe_callB (call_repr hG hu) (by rfl) (fr_repr T) b_repr (pa_cons (pe_xfM (C := He.ga K x) EF.xf (EF.fld "at" (by simp)) (List.mem_cons_self ..) ⟨hz.1, hz.2.1⟩ hf (pv 3)) pa_nil)) pa_nil))))) pss_nil)
        (pss_one (ps_ret (pv 4)))))), ?_⟩
      refine ⟨.ref a, rfl, x, dd, fs, rfl, ⟨hz.1, hz.2.1⟩, ⟨us, hus⟩, h1, h2.mem, fun H1 l s1 hl => ?_⟩
      cases h2 with
      | row hk =>
        have ek : kindsOf "BadRow" = [("BadRow" : Str)] := by decide +kernel
        rw [ek] at hl
        refine ⟨.ref l, rfl, l, _, rfl, .inl (SqL.of hl), rfl, flat_strs, _, rfl, ?_⟩
        rw [if_neg Bool.false_ne_true, show inV (.str "thing") ([("BadRow" : Str)].map V.str) = false from by decide +kernel]
        refine iteF ⟨.ref l, rfl, (by show 1 ≤ sizeLine; decide), fun m hm => ?_⟩
        refine ⟨_, _, dp_names [("BadRow" : Str)] (same_upd hm _ _ hl), dp_names [("BadRow" : Str)] upd_same, (by decide +kernel), (by decide +kernel), _, rfl, ?_⟩
        rw [show PyData.eqv (.list ([("BadRow" : Str)].map PyData.str)) (.list ([("BadRow" : Str)].map PyData.str)) = true from by decide +kernel]
        have hr9 := reprOk_int hk
        refine iteT ⟨.ref l, rfl, .ref a, rfl, rfl, rfl, dd, _, _, rfl, same_upd hm _ _ (s1 _ _ h1), rfl, _, _, rfl, .int _, hr9.sh, hr9.nd, hr9.dp, hr9.sz, (by show 1 ≤ sizeLine; decide), fun t ht => ⟨l, t, _, _, rfl, rfl, same_upd ht _ _ (same_upd hm _ _ hl), upd_same, (by show 2 ≤ sizeLine; decide), fun t2 ht2 => ?_⟩⟩
        exact h3 _ _ (s1.trans ((same_upd hm).trans ((same_upd ht).trans (same_upd ht2)))) upd_same
      | places rd rok =>
        have ek : kindsOf "BadPlaces" = [("thing" : Str), "BadPlaces"] := by decide +kernel
        rw [ek] at hl
        refine ⟨.ref l, rfl, l, _, rfl, .inl (SqL.of hl), rfl, flat_strs, _, rfl, ?_⟩
        rw [if_neg Bool.false_ne_true, show inV (.str "thing") ([("thing" : Str), "BadPlaces"].map V.str) = true from by decide +kernel]
        refine iteT ⟨.ref l, rfl, .ref a, rfl, rfl, rfl, dd, _, _, rfl, s1 _ _ h1, rfl, repr_pl (rd.same s1) rok ⟨(by show 1 ≤ sizeLine; decide), fun t ht => ⟨l, t, _, _, rfl, rfl, same_upd ht _ _ hl, upd_same, (by show 3 ≤ sizeLine; decide), fun t2 ht2 => ?_⟩⟩⟩
        exact h3 _ _ (s1.trans ((same_upd ht).trans (same_upd ht2))) upd_same
    · obtain ⟨x, D, v, pv, d, pd, rfl, RA, RO, rd, sm, rp, sd, rok, q⟩ := h
      have RA' := RA
      obtain ⟨dx, vm, vc, h1, _⟩ := RA'
      refine ⟨.ref x, rfl, x, dx, _, rfl, v, rfl, pv, rfl, h1, x, D, v, pv, d, pd, rfl, RA, RO, rd, sm, rp, sd, fun k hk H1 s1 d1 hd1 => ?_, fun z hz hw => ⟨fun hb H1 s1 d1 hd1 => ?_, fun hb H1 s1 => ?_⟩⟩
      · have e : calledV D d pd = [.str "BadRow", .str (PyData.int k).shown] := by unfold calledV; rw [hk]
        rw [e] at q
        exact ⟨true, said_of T 5, fun _ a2 _ => ⟨⟨_, _, _, _, rfl⟩, "BadRow", d1, _, _, rfl, rfl, upd_same, .row (wrongL_lt hk), fun H2 t2 s3 e => q H2 t2 (s1.trans ((same_upd hd1).trans s3)) e⟩, fun h => by cases h⟩
      · subst hz
        have e : calledV D (.str z) pd = [.str "thing", .str "BadPlaces", .str pd.shown] := by
          unfold calledV
          rw [hw]
          exact if_neg (by rw [show (alS (.str z)) = z from rfl, hb]; exact Bool.false_ne_true)
        rw [e] at q
        exact ⟨true, said_of T 2, fun _ a2 _ => ⟨⟨_, _, _, _, rfl⟩, "BadPlaces", d1, _, _, rfl, rfl, upd_same, .places (rp.same (s1.trans (same_upd hd1))) rok, fun H2 t2 s3 e => q H2 t2 (s1.trans ((same_upd hd1).trans s3)) e⟩, fun h => by cases h⟩
      · subst hz
        have e : calledV D (.str z) pd = [.bl (accepts D z.cps.toList (placesI pd))] := by
          unfold calledV
          rw [hw]
          exact if_pos hb
        rw [e] at q
        exact ⟨(by show 1 ≤ sizeLine; decide), fun t ht => q _ _ (s1.trans (same_upd ht)) upd_same⟩
end
end Kx
set_option Elab.async false
set_option linter.all false
set_option maxRecDepth 100000
set_option maxHeartbeats 4000000
namespace Kx
open PySem PySem.Spec PyProof.Rows L2
/-! ### what an expression gives, whatever it lays: data of a kind -/
section
variable {K : PySem.W.Frag} {a : Addr} {J : Hp → Prop} {σ : L2.St} {Pd : PyData → Prop}
def Lay (a : Addr) (J : Hp → Prop) (σ : L2.St) (te : TE) (Pd : PyData → Prop) : Prop := ∀ (G : Hp) (Q : VK), SrcAt G a → J G → (∀ v G' d, Fra a G G' → Rp (del G' a) v d → Pd d → Q v G') → te σ G Q
def LayM (a : Addr) (J : Hp → Prop) (σ : L2.St) (Pd : PyData → Prop) (ts : TA) (n : Nat) : Prop := ∀ (G : Hp) (Q : List V → Hp → Prop), SrcAt G a → J G → (∀ vs G' ds, Fra a G G' → RpL (del G' a) vs ds → ds.length = n → (∀ d ∈ ds, Pd d) → Q vs G') → ts σ G Q
/-- what stands through draws -/
def Firm (a : Addr) (J : Hp → Prop) : Prop := ∀ G G', Fra a G G' → J G → J G'
theorem LayM.nil : LayM a J σ Pd tNil 0 := fun G Q s j k => k [] G [] (Fra.refl s) .nil rfl (fun d h => by cases h)
theorem LayM.cons {te : TE} {ts : TA} {n : Nat} (hJ : Firm a J) (h : Lay a J σ te Pd) (t : LayM a J σ Pd ts n) : LayM a J σ Pd (tCons te ts) (n + 1) := fun G Q s j k =>
  h G _ s j fun v G1 d f1 r1 hd => t G1 _ f1.src (hJ _ _ f1 j) fun vs G2 ds f2 r2 hn hds => k (v :: vs) G2 (d :: ds) (f1.trans f2) (.cons (r1.same f2.sm) r2) (by rw [List.length_cons, hn]) fun x hx => by
    rcases List.mem_cons.mp hx with rfl | hx
    · exact hd
    · exact hds x hx
theorem lay_int {i : Int} (h : Pd (.int i)) : Lay a J σ (tC (.int i)) Pd := fun G Q s j k => k _ _ _ (Fra.refl s) (.int _) h
theorem lay_str {z : Str} (h : Pd (.str z)) : Lay a J σ (tC (.str z)) Pd := fun G Q s j k => k _ _ _ (Fra.refl s) (.str _) h
theorem lay_non (h : Pd .none) : Lay a J σ (tC .non) Pd := fun G Q s j k => k _ _ _ (Fra.refl s) .non h
theorem lay_bl {b : Bool} (h : Pd (.bool b)) : Lay a J σ (tC (.bl b)) Pd := fun G Q s j k => k _ _ _ (Fra.refl s) (.bl _) h
theorem lay_neg (h : Pd (.int (-1))) : Lay a J σ (tUn (rU fun i => .int (-i)) (tC (.int 1))) Pd := fun G Q s j k => ⟨1, rfl, k _ _ _ (Fra.refl s) (.int _) h⟩
theorem lay_pow (h : Pd (.int (10 ^ 50))) : Lay a J σ (tOp (rI CPow fun i j => .int (i ^ j.toNat)) (tC (.int 10)) (tC (.int 50))) Pd := fun G Q s j k => ⟨10, 50, rfl, rfl, (by unfold CPow; decide), k _ _ _ (Fra.refl s) (.int _) h⟩
theorem new_fra {t : Addr} {G : Hp} {o : HO} (s : SrcAt G a) (ht : G t = none) : Fra a G (upd G t o) ∧ del (upd G t o) a t = some o := by
  refine ⟨Fra.same s (same_upd ht), ?_⟩
  have hne : t ≠ a := fun z => by
    obtain ⟨A, S, C, e⟩ := s
    rw [z, e] at ht
    cases ht
  rw [del_ne hne]
  exact upd_same
theorem lay_tup0 (h : Pd (.tuple [])) : Lay a J σ (tTup tNil) Pd := fun G Q s j k => ⟨by show 0 ≤ sizeLine; decide, fun t ht => k _ _ _ (new_fra s ht).1 (.tup (new_fra s ht).2 .nil) h⟩
theorem lay_lst0 (h : Pd (.list [])) : Lay a J σ (tLst tNil) Pd := fun G Q s j k => ⟨by show 0 ≤ sizeLine; decide, fun t ht => k _ _ _ (new_fra s ht).1 (.lst (new_fra s ht).2 .nil) h⟩
theorem lay_dct (h : Pd (.dict [])) : Lay a J σ tDNewK Pd := fun G Q s j k t ht => k _ _ _ (new_fra s ht).1 (.dct (new_fra s ht).2) h
theorem lay_tup1 {te : TE} {Pe : PyData → Prop} (hl : Lay a J σ te Pe) (h : ∀ d, Pe d → Pd (.tuple [d])) : Lay a J σ (tTup (tCons te tNil)) Pd := fun G Q s j k =>
  hl G _ s j fun v G1 d f1 r1 hd => ⟨by show 1 ≤ sizeLine; decide, fun t ht => k _ _ _ (f1.trans (new_fra f1.src ht).1) (.tup (new_fra f1.src ht).2 (.cons (r1.same (new_fra f1.src ht).1.sm) .nil)) (h d hd)⟩
/-- [..][pick(source, n)] -/
theorem lay_menu {ts : TA} {n : Nat} {m : Int} (h : LayM a J σ Pd ts n) (hm : m = (n : Nat)) (h0 : 0 < n) (h1 : n ≤ 100) (hσ : σ[0]? = some (some (.ref a))) : Lay a J σ (tOp (rIxL K) (tLst ts) (tCall sp_law_pick [] E0 (tCons (tVar 0) (tCons (tC (.int m)) tNil)))) Pd := by
 subst hm
 exact fun G Q s j k =>
  h G _ s j fun vs G1 ds f1 r1 hn hds => ⟨by rw [r1.length, hn]; exact Nat.le_trans h1 (by decide), fun t ht => ⟨_, hσ, by
    obtain ⟨f2, e2⟩ := new_fra (o := .lst vs) f1.src ht
    refine ⟨_, _, rfl, (by omega), (by omega), f2.src, fun qA qS qC d h2 h3 => ?_⟩
    have f3 : Fra a (upd G1 t (.lst vs)) (upd (upd G1 t (.lst vs)) a (three qA qS qC)) := Fra.drawn qA qS qC
    revert f3
    generalize upd (upd G1 t (.lst vs)) a (three qA qS qC) = G3
    intro f3
    obtain ⟨p, rfl⟩ := Int.eq_ofNat_of_zero_le h2
    have hp : p < ds.length := by omega
    have hd := List.getElem?_eq_getElem hp
    have hmem := hds _ (List.getElem_mem hp)
    generalize ds[p] = y at hd hmem
    obtain ⟨v, hv⟩ : ∃ v, vs[p]? = some v := ⟨_, List.getElem?_eq_getElem (show p < vs.length by rw [r1.length]; exact hp)⟩
    obtain ⟨y', hy', ry⟩ := r1.get hv
    rw [hd] at hy'
    cases hy'
    have e3 := del_le a _ _ (f3.sm _ _ e2)
    exact rIxL_of e3 hv (k _ _ _ (f1.trans (f2.trans f3)) (ry.same (f2.sm.trans f3.sm)) hmem)⟩⟩
theorem firm_true : Firm a (fun _ => True) := fun _ _ _ _ => trivial
end
end Kx
set_option Elab.async false
set_option linter.all false
set_option maxRecDepth 100000
set_option maxHeartbeats 4000000
namespace Kx
open PySem PySem.Spec PyProof.Rows L2
/-- data of one step -/
def flatD : PyData → Bool
  | .none => true
  | .bool _ => true
  | .int _ => true
  | .str _ => true
  | _ => false
theorem Rp.flat {H H' : Hp} {v : V} {d : PyData} (h : Rp H v d) (hf : flatD d = true) : Rp H' v d := by
  cases h with
  | non => exact .non
  | bl b => exact .bl b
  | int i => exact .int i
  | str z => exact .str z
  | lst e hh => cases hf
  | tup e hh => cases hf
  | dct e => cases hf
/-- data with nothing in it -/
def bareD (d : PyData) : Prop := flatD d = true ∨ d = .dict [] ∨ d = .tuple []
theorem Rp.bare {H : Hp} {c : Addr} {xs : List V} {o : HO} {v : V} {d : PyData} (h : Rp H v d) (hb : bareD d) (hc : H c = some (.lst xs)) : Rp (upd H c o) v d := by
  rcases hb with hb | rfl | rfl
  · exact h.flat hb
  · cases h with
    | dct e => exact .dct (by rw [upd_ne (fun z => by rw [z, hc] at e; cases e)]; exact e)
  · cases h with
    | tup e hh =>
      cases hh
      exact .tup (by rw [upd_ne (fun z => by rw [z, hc] at e; cases e)]; exact e) .nil
theorem smallD_none {d : PyData} (h : itemsD d = none) : smallD d := fun ds e => by rw [h] at e; cases e
theorem smallD_bare {d : PyData} (h : bareD d) : smallD d := by
  rcases h with h | rfl | rfl
  · cases d <;> first | exact smallD_none rfl | cases h
  · exact smallD_none rfl
  · intro ds e; cases e; decide
theorem smallD_row {m : List Nat} (h : m.length ≤ 1000) : smallD (rowD m) := fun ds e => by
  cases e
  rw [List.length_map]
  omega
theorem rpl_set {H : Hp} {p : Nat} {v : V} {d : PyData} {vs : List V} {ds : List PyData} (hl : vs.length = ds.length) (hp : Rp H v d) (h : ∀ i x y, i ≠ p → vs[i]? = some x → ds[i]? = some y → Rp H x y) : RpL H (vs.set p v) (ds.set p d) := by
  refine rpl_of (by rw [List.length_set, List.length_set, hl]) fun i x y hx hy => ?_
  by_cases hi : i = p
  · subst hi
    have h1 := (List.getElem?_eq_some_iff.mp hx).1
    have h2 := (List.getElem?_eq_some_iff.mp hy).1
    rw [List.length_set] at h1 h2
    rw [List.getElem?_set_self h1] at hx
    rw [List.getElem?_set_self h2] at hy
    cases hx
    cases hy
    exact hp
  · rw [List.getElem?_set_ne (Ne.symm hi)] at hx hy
    exact h i x y hi hx hy
theorem LLAt.at {H : Hp} {c : Addr} {bs : List Addr} {mv : List (List Nat)} (h : LLAt H c bs mv) {i : Nat} {x : V} {y : PyData} (hx : (bs.map V.ref)[i]? = some x) (hy : (mv.map rowD)[i]? = some y) : ∃ b m, bs[i]? = some b ∧ mv[i]? = some m ∧ x = .ref b ∧ y = rowD m ∧ H b = some (.lst (m.map fun (k : Nat) => V.int (k : Nat))) := by
  rw [List.getElem?_map] at hx hy
  obtain ⟨b, hb, rfl⟩ := Option.map_eq_some_iff.mp hx
  obtain ⟨m, hm, rfl⟩ := Option.map_eq_some_iff.mp hy
  exact ⟨b, m, hb, hm, rfl, rfl, h.2.2.2.2 i b m hb hm⟩
/-- the rows stand, whatever becomes of the list -/
theorem LLAt.rows {H : Hp} {c : Addr} {bs : List Addr} {mv : List (List Nat)} {o : HO} (h : LLAt H c bs mv) : RpL (upd H c o) (bs.map V.ref) (mv.map rowD) :=
  rpl_of (by rw [List.length_map, List.length_map, h.2.1]) fun i x y hx hy => by
    obtain ⟨b, m, hb, hm, rfl, rfl, e⟩ := h.at hx hy
    have hbc : b ≠ c := fun z => h.2.2.2.1 (z ▸ List.mem_of_getElem? hb)
    exact .lst (by rw [upd_ne hbc]; exact e) (rpL_nats m)
/-- a row put anew -/
theorem LLAt.setRow {H : Hp} {c : Addr} {bs : List Addr} {mv : List (List Nat)} {p : Nat} {v : V} {d : PyData} {o : HO} (h : LLAt H c bs mv) (hp : Rp (upd H c o) v d) : RpL (upd H c o) ((bs.map V.ref).set p v) ((mv.map rowD).set p d) := by
  refine rpl_set (by rw [List.length_map, List.length_map, h.2.1]) hp fun i x y _ hx hy => ?_
  exact (h.rows (o := o)).get hx |>.elim fun y' ⟨hy', r⟩ => by rw [hy] at hy'; cases hy'; exact r
/-- an item of a row put anew -/
theorem LLAt.setItem {H : Hp} {c b : Addr} {bs : List Addr} {mv : List (List Nat)} {p k : Nat} {m : List Nat} {v : V} {d : PyData} (h : LLAt H c bs mv) (hb : bs[p]? = some b) (hm : mv[p]? = some m) (hv : Rp H v d) (hf : flatD d = true) :
    RpL (upd H b (.lst ((m.map fun (k : Nat) => V.int (k : Nat)).set k v))) (bs.map V.ref) ((mv.map rowD).set p (.list ((m.map fun (k : Nat) => PyData.int (k : Nat)).set k d))) := by
  refine rpl_of (by rw [List.length_set, List.length_map, List.length_map, h.2.1]) fun i x y hx hy => ?_
  by_cases hi : i = p
  · subst hi
    have h2 := (List.getElem?_eq_some_iff.mp hy).1
    rw [List.length_set] at h2
    rw [List.getElem?_set_self h2] at hy
    cases hy
    rw [List.getElem?_map, hb] at hx
    cases hx
    refine .lst upd_same (rpl_set (by rw [List.length_map, List.length_map]) (hv.flat hf) fun j x y _ hx hy => ?_)
    rw [List.getElem?_map] at hx hy
    obtain ⟨z, hz, rfl⟩ := Option.map_eq_some_iff.mp hx
    obtain ⟨z', hz', rfl⟩ := Option.map_eq_some_iff.mp hy
    rw [hz] at hz'
    cases hz'
    exact .int _
  · rw [List.getElem?_set_ne (Ne.symm hi)] at hy
    obtain ⟨b', m', hb', hm', rfl, rfl, e⟩ := h.at hx hy
    have hbb : b' ≠ b := fun z => by
      subst z
      have hi1 := (List.getElem?_eq_some_iff.mp hb').1
      have hj1 := (List.getElem?_eq_some_iff.mp hb).1
      refine hi ((List.getElem_inj (h₀ := hi1) (h₁ := hj1) h.2.2.1).mp ?_)
      rw [List.getElem?_eq_getElem hi1] at hb'
      rw [List.getElem?_eq_getElem hj1] at hb
      exact (Option.some.inj hb').trans (Option.some.inj hb).symm
    exact .lst (by rw [upd_ne hbb]; exact e) (rpL_nats m')
theorem del_upd_ne {H : Hp} {a b : Addr} {o : HO} (h : b ≠ a) : del (upd H b o) a = upd (del H a) b o := by
  funext x
  by_cases hx : x = a
  · subst hx
    unfold del
    rw [if_pos rfl, upd_ne (Ne.symm h)]
    rw [if_pos rfl]
  · rw [del_ne hx]
    by_cases hb : x = b
    · subst hb
      rw [upd_same, upd_same]
    · rw [upd_ne hb, upd_ne hb, del_ne hx]
theorem same_less {H : Hp} {D : Addr} (h : H D = none) : Same H (del H D) := fun b o e => by
  rw [del_ne (ne_of_none e h)]
  exact e
theorem smallR_list {ds : List PyData} (h : ds.length ≤ 1000) (hd : ∀ x ∈ ds, smallD x) : smallR (.list ds) := fun l e => by
  cases e
  exact ⟨by omega, hd⟩
theorem smallR_tup {ds : List PyData} (h : ds.length ≤ 1000) (hd : ∀ x ∈ ds, smallD x) : smallR (.tuple ds) := fun l e => by
  cases e
  exact ⟨by omega, hd⟩
theorem kd_list {d : PyData} (h : (kd d).is "list" = true) : ∃ ds, d = .list ds := by
  cases d <;> first | exact ⟨_, rfl⟩ | (exact Bool.noConfusion h)
section
variable {P : Program} {w : World} {K : PySem.W.Frag} {mg : Str → Option Value} {base : Heap}
def sp_law_spoilt_moves : Sp := fun vs H Q _ => ∃ (a ma : Addr) (mv : Tab), vs = [.ref a, .ref ma] ∧ SrcAt H a ∧ Rp (del H a) (.ref ma) (rowsD mv) ∧ 1 ≤ mv.length ∧ mv.length ≤ 60 ∧ (∀ m ∈ mv, 1 ≤ m.length ∧ m.length ≤ 128) ∧
  ∀ H' r d, Fra a H H' → Rp (del H' a) r d → smallR d → Q r H'
theorem sm_tail (T : Txt K mg) {cdv : Value} {A : Around} {outer : List Env} {s : Shared} {H : Hp} {E : XK} (hr : Room 2 (A.deeper (envOfC "_law_spoilt_moves" (defScope s__law_spoilt_moves) s.heap.objs.size (He.ga K "_law_spoilt_moves") cdv))) :
    ∃ tk : TS, PSs (cxOf CX0 P w K mg base N__law_spoilt_moves "_law_spoilt_moves" (defScope s__law_spoilt_moves) (He.ga K "_law_spoilt_moves") cdv A outer s H E).nox ((defBody s__law_spoilt_moves).drop 5) tk ∧
      ∀ (Dn : Ends) (G : Hp) (a c : Addr) (xs : List V) (ds : List PyData) (w1 w3 w4 w5 : Option V), SrcAt G a → del G a c = some (.lst xs) → RpL (del G a) xs ds → ds.length ≤ 200 → (∀ d ∈ ds, smallD d) →
        (∀ H' r d, Fra a G H' → Rp (del H' a) r d → smallR d → Dn.rt r H') →
        tk Dn [some (.ref a), w1, some (.ref c), w3, w4, w5, none, none] G := by
  refine ⟨_, (pss_one (ps_ret (pe_ifExp (pt_cmpR op_eq (pe_cal (ok_law_pick T) (hr.mono (by decide)) pass0 (pa_cons (pv 0) (pa_cons pe_int pa_nil))) pe_int (nomark _)) (pv 2) (pe_callTy call_tuple_of (by rfl) (fr_tuple T) b_tuple (pa_cons (pe_lc (te := tIf (tB (tCB (rIsB K) (tCons (tVar 7) (tCons (tC (.ty "list")) tNil)))) (tCB (rTupO K) (tCons (tVar 7) tNil)) (tVar 7)) (own := [("_law_one", 7)]) (g := (gName 7)) (tt := tYes) rfl sc__law_spoilt_moves.nd  (pi_list (pv 2)) (blkOk_by (N := N__law_spoilt_moves) (sc := defScope s__law_spoilt_moves) (by decide +kernel)) (fun _ _ _ _ _ => (pg_name (i := 7) sc__law_spoilt_moves.nd rfl (Or.inl rfl))) (fun _ _ _ _ _ => pts_nil) (fun _ _ _ _ _ => by
          refine pe_ifExp (pt_val (pe_callB (r := rIsB K) ?_ (by rfl) (fr_isinstance T) b_isinstance (pa_cons (pv 7) (pa_cons (pe_ty (fr_list T) b_list) pa_nil)))) (pe_callTy (r := rTupO K) ?_ (by rfl) (fr_tuple T) b_tuple (pa_cons (pv 7) pa_nil)) (pv 7)
          · exact call_isB
          · exact call_tuple_of)) pa_nil))))), ?_⟩
  intro Dn G a c xs ds w1 w3 w4 w5 hs hc hrp hl hsm q
  refine ⟨.ref a, rfl, ?_⟩
  refine ⟨_, _, rfl, (by omega), (by omega), hs, fun qA qS qC d hd0 hd1 => ?_⟩
  have f1 : Fra a G (upd G a (three qA qS qC)) := Fra.drawn qA qS qC
  revert f1
  generalize upd G a (three qA qS qC) = G1
  intro f1
  have hrp1 := hrp.same f1.sm
  have hc1 := f1.sm _ _ hc
  have hc1' := del_le a _ _ hc1
  refine ⟨rfl, _, rfl, ?_⟩
  rw [dec_int]
  by_cases h0 : d = 0
  · rw [decide_eq_true h0]
    exact iteT ⟨.ref c, rfl, q _ _ _ f1 (.lst hc1 hrp1) (smallR_list (by omega) hsm)⟩
  · rw [decide_eq_false h0]
    refine iteF ⟨.ref c, rfl, c, rfl, ⟨_, SqL.of hc1'⟩, fun D hD => ?_⟩
    have hDa : D ≠ a := f1.src.ne hD
    refine lc_it (walk_list (xs := xs)) (tt := tYes) (fun i G2 => ∃ (ys : List V) (es : List PyData), G2 D = some (.lst ys) ∧ ys.length = i ∧ RpL (del (del G2 a) D) ys es ∧ (∀ e ∈ es, smallD e) ∧ Same (del G1 a) (del (del G2 a) D) ∧ Fra a G1 G2)
      ⟨[], [], upd_same, rfl, .nil, fun e he => (by cases he), ?_, Fra.same f1.src (same_upd hD)⟩ (fun i G2 _ ⟨_, _, _, _, _, _, sG, _⟩ => SqL.of (del_le a _ _ (del_le D _ _ (sG _ _ hc1)))) ?_ ?_
    · rw [dd_same]
      exact same_less (by rw [del_ne hDa]; exact hD)
    · rintro i x G2 G3 hi ⟨ys, es, hys, hyl, hry, hes, sG, f2⟩ ⟨rfl, hx⟩
      obtain ⟨dx, hdx, rx⟩ := hrp1.get hx
      have rx2 := (rx.same sG).same ((del_le D).trans (del_le a))
      have smx := hsm dx (List.mem_of_getElem? hdx)
      refine ⟨rfl, x, rfl, x, "list", kd dx, rfl, rx2.ko, k_list _, _, rfl, ?_⟩
      have hyl' : ys.length < sizeLine := by
        rw [hyl]
        have := hrp1.length
        exact Nat.lt_of_lt_of_le (by have : i < xs.length := hi; omega : i < 201) (by decide)
      cases hk : (kd dx).is "list" with
      | false =>
        refine iteF ⟨x, rfl, ys, hys, hyl', ys ++ [x], es ++ [dx], upd_same, by rw [List.length_append, hyl]; rfl, ?_, ?_, ?_, ?_⟩
        · rw [dd_same]
          exact rpL_append hry (rx.same sG)
        · intro e he
          rcases List.mem_append.mp he with h | h
          · exact hes e h
          · rw [List.mem_singleton.mp h]; exact smx
        · rw [dd_same]
          exact sG
        · exact f2.over hD hDa
      | true =>
        obtain ⟨es0, rfl⟩ := kd_list hk
        obtain ⟨b, zs, rfl, hb, hz⟩ : ∃ b zs, x = .ref b ∧ del G1 a b = some (.lst zs) ∧ RpL (del G1 a) zs es0 := by
          cases rx with
          | lst e h => exact ⟨_, _, rfl, e, h⟩
        refine iteT ⟨.ref b, rfl, b, zs, rfl, .inl ⟨SqL.of (del_le a _ _ (del_le D _ _ (sG _ _ hb))), fun l hl2 => ?_⟩⟩
        have hlD : l ≠ D := fun z => by rw [z, hys] at hl2; cases hl2
        have hla : l ≠ a := f2.src.ne hl2
        have gl : del (del G3 a) D l = none := by rw [del_ne hlD, del_ne hla]; exact hl2
        have s3 : Same (del (del G3 a) D) (del (del (upd G3 l (.tup zs)) a) D) := dd_upd gl
        have e3 : del (del (upd G3 l (.tup zs)) a) D l = some (.tup zs) := by rw [del_ne hlD, del_ne hla]; exact upd_same
        refine ⟨ys, by rw [upd_ne (Ne.symm hlD)]; exact hys, hyl', ys ++ [.ref l], es ++ [.tuple es0], upd_same, by rw [List.length_append, hyl]; rfl, ?_, ?_, ?_, ?_⟩
        · rw [dd_same]
          exact rpL_append (hry.same s3) (.tup e3 (hz.same (sG.trans s3)))
        · intro e he
          rcases List.mem_append.mp he with h | h
          · exact hes e h
          · rw [List.mem_singleton.mp h]; exact smx
        · rw [dd_same]
          exact sG.trans s3
        · exact (f2.over (f2.none hla hl2) hla).over hD hDa
    · rintro G2 ⟨ys, es, hys, hyl, hry, hes, sG, f2⟩
      have hle : es.length ≤ 200 := by
        have h1 := hry.length
        have h2 := hrp1.length
        omega
      refine ⟨D, ys, rfl, .inl ⟨SqL.of hys, fun t ht => ?_⟩⟩
      have hta : t ≠ a := f2.src.ne ht
      have s4 : Same G2 (upd G2 t (.tup ys)) := same_upd ht
      exact q _ _ _ (f1.trans (f2.trans (Fra.same f2.src s4))) (.tup (by rw [del_ne hta]; exact upd_same) (hry.same ((del_le D).trans (same_del a s4)))) (smallR_tup (by omega) hes)
end
end Kx
set_option Elab.async false
set_option linter.all false
set_option maxRecDepth 100000
set_option maxHeartbeats 4000000
namespace Kx
open PySem PySem.Spec PyProof.Rows L2
theorem LLAt.del {a : Addr} {H : Hp} {c : Addr} {bs : List Addr} {mv : List (List Nat)} (h : LLAt H c bs mv) (hc : c ≠ a) (hb : ∀ b ∈ bs, b ≠ a) : LLAt (del H a) c bs mv :=
  ⟨by rw [del_ne hc]; exact h.1, h.2.1, h.2.2.1, h.2.2.2.1, fun i b m h1 h2 => by rw [del_ne (hb b (List.mem_of_getElem? h1))]; exact h.2.2.2.2 i b m h1 h2⟩
theorem lay_len {K : PySem.W.Frag} {a : Addr} {J : Hp → Prop} {σ : L2.St} {Pd : PyData → Prop} {i : Nat} {b : Addr} (hσ : σ[i]? = some (some (.ref b))) (hb : ∀ G, J G → ∃ xs, G b = some (.lst xs)) (h : ∀ n : Nat, Pd (.int (n : Nat))) :
    Lay a J σ (tCB (rLen K) (tCons (tVar i) tNil)) Pd := fun G Q s j k => by
  obtain ⟨xs, e⟩ := hb G j
  exact ⟨_, hσ, .ref b, _, rfl, .inl ⟨_, SqL.of e, rfl⟩, k _ _ _ (Fra.refl s) (.int _) (h _)⟩
theorem lay_int0 {a : Addr} {J : Hp → Prop} {σ : L2.St} {Pd : PyData → Prop} {i : Nat} {n : Int} (hσ : σ[i]? = some (some (.int n))) (h : Pd (.int n)) : Lay a J σ (tVar i) Pd := fun G Q s j k => ⟨_, hσ, k _ _ _ (Fra.refl s) (.int _) h⟩
theorem asg0 {te : TE} {g : TG} {D : Ends} {σ : L2.St} {H : Hp} (h : te σ H (fun x H1 => g x σ H1 D.nx)) : tAsg te g D σ H := h
theorem RpL.app {H : Hp} : ∀ {vs us : List V} {ds es : List PyData}, RpL H vs ds → RpL H us es → RpL H (vs ++ us) (ds ++ es)
  | [], _, _, _, .nil, h => h
  | _ :: _, _, _, _, .cons a b, h => .cons a (b.app h)
theorem cut_nats (m : List Nat) (lo hi : Option Int) : ∃ m' : List Nat, cutV (m.map fun (k : Nat) => V.int (k : Nat)) lo hi = (m'.map fun (k : Nat) => V.int (k : Nat)) ∧ m'.length ≤ m.length := by
  refine ⟨(m.drop (HT.sIx m.length 0 lo)).take (HT.sIx m.length m.length hi - HT.sIx m.length 0 lo), ?_, ?_⟩
  · unfold cutV
    rw [List.length_map, ← List.map_drop, ← List.map_take]
  · rw [List.length_take, List.length_drop]
    omega
theorem smallR_flat {d : PyData} (h : itemsD d = none) : smallR d := fun ds e => by rw [h] at e; cases e
theorem ix_put {n p : Nat} (h : p < n) : ixN n ((p : Nat) : Int) = some p := by
  unfold ixN
  rw [if_pos (by omega), if_pos (by omega)]
  simp
section
variable {P : Program} {w : World} {K : PySem.W.Frag} {mg : Str → Option Value} {base : Heap}
theorem ok_law_spoilt_moves (T : Txt K mg) : Cal P w K mg base CX0 3 "_law_spoilt_moves" ["_law_source_here", "_law_moves"] sp_law_spoilt_moves := by
  obtain ⟨fd, F⟩ := F__law_spoilt_moves T
  refine cal_mk F (g__law_spoilt_moves T) sc__law_spoilt_moves (fun _ _ _ _ _ _ us hl => match us, hl with | [_, _], _ => rfl) (fun vs H Q E h => ?_) (fun cdv A outer s H vs Q E hr h => ?_)
  · obtain ⟨a, ma, mv, rfl, _⟩ := h; rfl
  · obtain ⟨tk, htl, hq⟩ := sm_tail (P := P) (w := w) (base := base) (cdv := cdv) (A := A) (outer := outer) (s := s) (H := H) (E := E) T hr
    refine ⟨_, PSs.nox (pss_cons (ps_set (i := 2) sc__law_spoilt_moves.nd rfl (Or.inr rfl) (pe_lc (te := tCB (rLstO K) (tCons (tVar 6) tNil)) (own := [("_law_move", 6)]) (g := (gName 6)) (tt := tYes) rfl sc__law_spoilt_moves.nd  (pi_list (pv 1)) (blkOk_by (N := N__law_spoilt_moves) (sc := defScope s__law_spoilt_moves) (by decide +kernel)) (fun _ _ _ _ _ => (pg_name (i := 6) sc__law_spoilt_moves.nd rfl (Or.inl rfl))) (fun _ _ _ _ _ => pts_nil) (fun _ _ _ _ _ => by refine pe_callTy (r := rLstO K) ?_ (by rfl) (fr_list T) b_list (pa_cons (pv 6) pa_nil); exact call_list_of)))
        (pss_cons (ps_set (i := 3) sc__law_spoilt_moves.nd rfl (Or.inl rfl) (pe_cal (ok_law_pick T) (hr.mono (by decide)) pass0 (pa_cons (pv 0) (pa_cons pe_int pa_nil))))
        (pss_cons (ps_set (i := 4) sc__law_spoilt_moves.nd rfl (Or.inl rfl) (pe_cal (ok_law_pick T) (hr.mono (by decide)) pass0 (pa_cons (pv 0) (pa_cons (pe_callB call_len (by rfl) (fr_len T) boot_len (pa_cons (pv 2) pa_nil)) pa_nil))))
        (pss_cons (ps_set (i := 5) sc__law_spoilt_moves.nd rfl (Or.inl rfl) (pe_cal (ok_law_pick T) (hr.mono (by decide)) pass0 (pa_cons (pv 0) (pa_cons (pe_callB call_len (by rfl) (fr_len T) boot_len (pa_cons (pe_ix ix_list (pv 2) (pv 4) (fun _ _ => rfl)) pa_nil)) pa_nil))))
        (pss_cons (ps_if (pt_cmpR op_lt (pv 3) pe_int (nomark _)) (pss_one (ps_asg (pe_ix ix_list (pe_lst (pa_cons (pe_un un_neg pe_int) (pa_cons (pe_callB call_len (by rfl) (fr_len T) boot_len (pa_cons (pv 1) pa_nil)) (pa_cons pe_bl (pa_cons pe_str (pa_cons pe_non (pa_cons (pe_op op_pow pe_int pe_int) pa_nil))))))) (pe_cal (ok_law_pick T) (hr.mono (by decide)) pass0 (pa_cons (pv 0) (pa_cons pe_int pa_nil))) (fun _ _ => rfl)) (pg_sub (pe_ix ix_list (pv 2) (pv 4) (fun _ _ => rfl)) (pv 5) set_list))) (pss_one (ps_if (pt_cmpR op_eq (pv 3) pe_int (nomark _)) (pss_one (ps_asg (pe_slice sl_list (pe_ix ix_list (pv 2) (pv 4) (fun _ _ => rfl)) (po_some pe_int) po_none) (pg_sub (pv 2) (pv 4) set_list))) (pss_one (ps_if (pt_cmpR op_eq (pv 3) pe_int (nomark _)) (pss_one (ps_asg (pe_op op_cat (pe_ix ix_list (pv 2) (pv 4) (fun _ _ => rfl)) (pe_lst (pa_cons pe_int pa_nil))) (pg_sub (pv 2) (pv 4) set_list))) (pss_one (ps_if (pt_cmpR op_eq (pv 3) pe_int (nomark _)) (pss_one (ps_asg (pe_ix ix_list (pe_lst (pa_cons pe_non (pa_cons pe_str (pa_cons pe_int (pa_cons pe_dnewK (pa_cons (pe_tup pa_nil) pa_nil)))))) (pe_cal (ok_law_pick T) (hr.mono (by decide)) pass0 (pa_cons (pv 0) (pa_cons pe_int pa_nil))) (fun _ _ => rfl)) (pg_sub (pv 2) (pv 4) set_list))) (pss_one (ps_if (pt_cmpR op_eq (pv 3) pe_int (nomark _)) (pss_one (ps_ret (pe_ix ix_list (pe_lst (pa_cons (pe_lst pa_nil) (pa_cons pe_non (pa_cons pe_str (pa_cons pe_int (pa_cons pe_dnewK (pa_cons (pe_tup pa_nil) pa_nil))))))) (pe_cal (ok_law_pick T) (hr.mono (by decide)) pass0 (pa_cons (pv 0) (pa_cons pe_int pa_nil))) (fun _ _ => rfl)))) (pss_one (ps_if (pt_cmpR op_eq (pv 3) pe_int (nomark _)) (pss_one (ps_set (i := 2) sc__law_spoilt_moves.nd rfl (Or.inr rfl) (pe_op op_cat (pv 2) (pe_lc (te := tCB (rLstO K) (tCons (tOp (rIxL K) (tVar 2) (tC (.int 0))) tNil)) (own := [("_law_one", 7)]) (g := (gName 7)) (tt := tYes) rfl sc__law_spoilt_moves.nd  (pi_range1 (by rfl) (fr_range T) (pa_cons (pe_op op_sub (pe_op op_add pe_int (pe_cal (ok_law_pick T) (hr.mono (by decide)) pass0 (pa_cons (pv 0) (pa_cons pe_int pa_nil)))) (pe_callB call_len (by rfl) (fr_len T) boot_len (pa_cons (pv 2) pa_nil))) pa_nil)) (blkOk_by (N := N__law_spoilt_moves) (sc := defScope s__law_spoilt_moves) (by decide +kernel)) (fun _ _ _ _ _ => (pg_name (i := 7) sc__law_spoilt_moves.nd rfl (Or.inl rfl))) (fun _ _ _ _ _ => pts_nil) (fun _ _ _ _ _ => by refine pe_callTy (r := rLstO K) ?_ (by rfl) (fr_list T) b_list (pa_cons (pe_ix (r := rIxL K) ?_ (pv 2) pe_int (fun _ _ => rfl)) pa_nil); exact call_list_of; exact ix_list))))) (pss_one (ps_expr (pe_bm PySem.F.plainAttrs_list PySem.F.slot_list_append PySem.F.type_list_append mt_append (pv 2) (pa_cons (pe_callTy call_list_of (by rfl) (fr_list T) b_list (pa_cons (pe_ix ix_list (pv 2) (pv 4) (fun _ _ => rfl)) pa_nil)) pa_nil)))))))))))))))
        htl))))), ?_⟩
    obtain ⟨a, ma, mv, rfl, hs, hm, hl1, hl2, hrow, q⟩ := h
    refine seq_asg ?_
    refine ll_comp (σ := [some (.ref a), some (.ref ma), none, none, none, none, none, none]) (ma := ma) (iS := 1) (iM := 6) rfl (by show 6 < 8; decide) (by decide) (hm.same (del_le a)) (by omega) fun c bs G0 s0 hc0 hb0 LL => ?_
    have hca : c ≠ a := hs.ne hc0
    have hba : ∀ b ∈ bs, b ≠ a := fun b hb => hs.ne (hb0 b hb)
    have f0 : Fra a H G0 := Fra.same hs s0
    have L0 := LL.del hca hba
    refine ⟨.ref a, rfl, ?_⟩
    refine ⟨_, _, rfl, (by omega), (by omega), f0.src, fun qA qS qC way hw0 hw1 => ?_⟩
    have f1 : Fra a G0 (upd G0 a (three qA qS qC)) := Fra.drawn qA qS qC
    revert f1
    generalize upd G0 a (three qA qS qC) = G1
    intro f1
    have L1 := L0.same f1.sm
    refine ⟨.ref a, rfl, .ref c, rfl, _, _, rfl, .inl ⟨_, SqL.of (del_le a _ _ L1.1), rfl⟩, ?_⟩
    have hbl : bs.length = mv.length := L0.2.1
    rw [List.length_map]
    refine ⟨_, _, rfl, (by omega), (by omega), f1.src, fun qA qS qC p0 hp0 hp1 => ?_⟩
    have f2 : Fra a G1 (upd G1 a (three qA qS qC)) := Fra.drawn qA qS qC
    revert f2
    generalize upd G1 a (three qA qS qC) = G2
    intro f2
    obtain ⟨p, rfl⟩ := Int.eq_ofNat_of_zero_le hp0
    have hp : p < mv.length := by omega
    have L2 := L1.same f2.sm
    obtain ⟨m, hm0⟩ : ∃ m, mv[p]? = some m := ⟨_, List.getElem?_eq_getElem hp⟩
    obtain ⟨b, hb⟩ : ∃ b, bs[p]? = some b := ⟨_, List.getElem?_eq_getElem (by omega)⟩
    have hml := hrow m (List.mem_of_getElem? hm0)
    have hcb : (bs.map V.ref)[p]? = some (.ref b) := by rw [List.getElem?_map, hb]; rfl
    have hbm2 := L2.2.2.2.2 p b m hb hm0
    refine ⟨.ref a, rfl, .ref c, rfl, .int (p : Nat), rfl, rIxL_of (del_le a _ _ L2.1) hcb ⟨_, _, rfl, .inl ⟨_, SqL.of (del_le a _ _ hbm2), rfl⟩, ?_⟩⟩
    rw [List.length_map]
    refine ⟨_, _, rfl, (by omega), (by omega), f2.src, fun qA qS qC k0 hk0 hk1 => ?_⟩
    have f3 : Fra a G2 (upd G2 a (three qA qS qC)) := Fra.drawn qA qS qC
    revert f3
    generalize upd G2 a (three qA qS qC) = G3
    intro f3
    obtain ⟨k, rfl⟩ := Int.eq_ofNat_of_zero_le hk0
    have hk : k < m.length := by omega
    have L3 := L2.same f3.sm
    have f03 : Fra a H G3 := f0.trans (f1.trans (f2.trans f3))
    have hma3 : ∃ xs, del G3 a ma = some (.lst xs) := by
      cases hm with
      | lst e _ => exact ⟨_, f03.sm _ _ e⟩
    clear hm
    have hs3 := f03.src
    -- the rows' data
    have small0 : ∀ d ∈ mv.map rowD, smallD d := fun d hd => by
      obtain ⟨m', hm', rfl⟩ := List.mem_map.mp hd
      exact smallD_row (by have := hrow m' hm'; omega)
    have len0 : (mv.map rowD).length ≤ 60 := by rw [List.length_map]; exact hl2
    have smset : ∀ d, smallD d → ∀ x ∈ (mv.map rowD).set p d, smallD x := fun d hd x hx => by
      rcases List.mem_or_eq_of_mem_set hx with h | h
      · exact small0 x h
      · rw [h]; exact hd
    have lenset : ∀ d, ((mv.map rowD).set p d).length ≤ 200 := fun d => by rw [List.length_set]; omega
    -- told[p] = v
    have putRow : ∀ (G : Hp) (v : V) (d : PyData), Fra a G3 G → LLAt (del G a) c bs mv → Rp (upd (del G a) c (.lst ((bs.map V.ref).set p v))) v d → smallD d →
        tk { nx := fun _ H' => Q .non H', rt := Q } [some (.ref a), some (.ref ma), some (.ref c), some (.int way), some (.int (p : Nat)), some (.int (k : Nat)), none, none] (upd G c (.lst ((bs.map V.ref).set p v))) := fun G v d fG LG rv sd => by
      have e := del_upd_ne (H := G) (o := .lst ((bs.map V.ref).set p v)) hca
      have fU : Fra a H (upd G c (.lst ((bs.map V.ref).set p v))) := (f03.trans fG).over hc0 hca
      refine hq _ _ a c ((bs.map V.ref).set p v) ((mv.map rowD).set p d) _ _ _ _ fU.src ?_ ?_ (lenset d) (smset d sd) fun H' r d' f' => q H' r d' (fU.trans f')
      · rw [e]; exact upd_same
      · rw [e]; exact LG.setRow rv
    have setNew : ∀ (G : Hp) (n : Addr) (m' : List Nat), Fra a G3 G → G n = some (.lst (m'.map fun (k : Nat) => V.int (k : Nat))) → n ≠ a → n ≠ c → m'.length ≤ 1000 → rSetL (.ref c) (.int (p : Nat)) (.ref n) G
        (fun H' => tk { nx := fun _ H' => Q .non H', rt := Q } [some (.ref a), some (.ref ma), some (.ref c), some (.int way), some (.int (p : Nat)), some (.int (k : Nat)), none, none] H') := fun G n m' fG hn hna hnc hl => by
      have LG := L3.same fG.sm
      refine ⟨c, _, _, p, rfl, rfl, del_le a _ _ LG.1, ix_put (by rw [List.length_map]; omega), ?_⟩
      exact putRow G (.ref n) (rowD m') fG LG (.lst (by rw [upd_ne hnc, del_ne hna]; exact hn) (rpL_nats m')) (smallD_row hl)
    have hc3 := del_le a _ _ L3.1
    have num : ∀ (i : Int) (b : Bool), decide (way = i) = b → decide (V.int way = V.int i) = b := fun i b h => by rw [dec_int]; exact h
    have hJ : Firm a (fun G => ∃ xs, del G a ma = some (.lst xs)) := fun G G' f ⟨xs, e⟩ => ⟨xs, f.sm _ _ e⟩
    have hJm : ∀ G, (∃ xs, del G a ma = some (.lst xs)) → ∃ xs, G ma = some (.lst xs) := fun G ⟨xs, e⟩ => ⟨xs, del_le a _ _ e⟩
    have fix : ∀ {n : Nat}, Same (del G3 a) (del G3 a) := fun {_} => Same.refl _
    have hw : way < 4 ∨ way = 4 ∨ way = 5 ∨ way = 6 ∨ way = 7 ∨ way = 8 ∨ way = 9 := by omega
    rcases hw with hw | rfl | rfl | rfl | rfl | rfl | rfl
    · refine ⟨.int way, rfl, way, 4, rfl, rfl, _, rfl, ?_⟩
      rw [decide_eq_true hw]
      refine iteT ?_
      refine asg0 ?_
      refine lay_menu (Pd := fun d => flatD d = true) (n := 6) (J := fun G => ∃ xs, del G a ma = some (.lst xs)) (LayM.cons hJ (lay_neg rfl) (LayM.cons hJ (lay_len rfl hJm fun _ => rfl) (LayM.cons hJ (lay_bl rfl) (LayM.cons hJ (lay_str rfl) (LayM.cons hJ (lay_non rfl) (LayM.cons hJ (lay_pow rfl) LayM.nil)))))) rfl (by decide) (by decide) rfl G3 _ hs3 hma3 fun v G4 d f4 rv hv => ?_
      have L4 := L3.same f4.sm
      have hb4 := L4.2.2.2.2 p b m hb hm0
      have hbn := hba b (List.mem_of_getElem? hb)
      refine ⟨.ref c, rfl, .int (p : Nat), rfl, rIxL_of (del_le a _ _ L4.1) hcb ⟨.int (k : Nat), rfl, b, _, _, k, rfl, rfl, del_le a _ _ hb4, ix_put (by rw [List.length_map]; exact hk), ?_⟩⟩
      have e := del_upd_ne (H := G4) (o := .lst ((m.map fun (k : Nat) => V.int (k : Nat)).set k v)) hbn
      have fU : Fra a H (upd G4 b (.lst ((m.map fun (k : Nat) => V.int (k : Nat)).set k v))) := (f03.trans f4).over (hb0 b (List.mem_of_getElem? hb)) hbn
      refine hq _ _ a c (bs.map V.ref) ((mv.map rowD).set p (.list ((m.map fun (k : Nat) => PyData.int (k : Nat)).set k d))) _ _ _ _ fU.src ?_ ?_ (lenset _) (smset _ ?_) fun H' r d' f' => q H' r d' (fU.trans f')
      · have hcb2 : c ≠ b := fun z => L4.2.2.2.1 (z ▸ List.mem_of_getElem? hb)
        rw [e, upd_ne hcb2]
        exact L4.1
      · rw [e]; exact L4.setItem hb hm0 rv hv
      · intro ds e; cases e; rw [List.length_set, List.length_map]; omega
    · refine ⟨.int 4, rfl, 4, 4, rfl, rfl, _, rfl, iteF ⟨.int 4, rfl, rfl, _, rfl, iteT ?_⟩⟩
      refine asg0 ?_
      refine ⟨.ref c, rfl, .int (p : Nat), rfl, rIxL_of (del_le a _ _ L3.1) hcb ?_⟩
      have hb3 := L3.2.2.2.2 p b m hb hm0
      refine ⟨_, rfl, b, _, rfl, SqL.of (del_le a _ _ hb3), fun n hn => ?_⟩
      obtain ⟨m', em, hm'⟩ := cut_nats m (some 1) none
      rw [em]
      exact ⟨.ref c, rfl, .int (p : Nat), rfl, setNew _ n m' (Fra.same hs3 (same_upd hn)) upd_same (hs3.ne hn) (fun z => by rw [z, hc3] at hn; cases hn) (by omega)⟩
    · refine ⟨.int 5, rfl, 5, 4, rfl, rfl, _, rfl, iteF ⟨.int 5, rfl, rfl, _, rfl, iteF ⟨.int 5, rfl, rfl, _, rfl, iteT ?_⟩⟩⟩
      refine asg0 ?_
      have hb3 := L3.2.2.2.2 p b m hb hm0
      refine ⟨.ref c, rfl, .int (p : Nat), rfl, rIxL_of (del_le a _ _ L3.1) hcb ⟨(by show 1 ≤ sizeLine; decide), fun u hu => ⟨b, u, _, _, rfl, rfl, same_upd hu _ _ (del_le a _ _ hb3), upd_same, ?_, fun n hn => ?_⟩⟩⟩
      · rw [List.length_map]
        exact Nat.le_trans (by show m.length + 1 ≤ 200; omega) (by decide)
      have sm := (same_upd (o := .lst [.int 0]) hu).trans (same_upd (o := .lst ((m.map fun (k : Nat) => V.int (k : Nat)) ++ [.int 0])) hn)
      have hn3 : G3 n = none := none_of (same_upd hu) hn
      exact ⟨.ref c, rfl, .int (p : Nat), rfl, setNew _ n (m ++ [0]) (Fra.same hs3 sm) (by rw [upd_same, List.map_append]; rfl) (hs3.ne hn3) (fun z => by rw [z, hc3] at hn3; cases hn3) (by rw [List.length_append]; show m.length + 1 ≤ 1000; omega)⟩
    · refine ⟨.int 6, rfl, 6, 4, rfl, rfl, _, rfl, iteF ⟨.int 6, rfl, rfl, _, rfl, iteF ⟨.int 6, rfl, rfl, _, rfl, iteF ⟨.int 6, rfl, rfl, _, rfl, iteT ?_⟩⟩⟩⟩
      refine asg0 ?_
      refine lay_menu (Pd := bareD) (n := 5) (J := fun _ => True) (LayM.cons firm_true (lay_non (.inl rfl)) (LayM.cons firm_true (lay_str (.inl rfl)) (LayM.cons firm_true (lay_int (.inl rfl)) (LayM.cons firm_true (lay_dct (.inr (.inl rfl))) (LayM.cons firm_true (lay_tup0 (.inr (.inr rfl))) LayM.nil))))) rfl (by decide) (by decide) rfl G3 _ hs3 trivial fun v G4 d f4 rv hv => ?_
      have L4 := L3.same f4.sm
      refine ⟨.ref c, rfl, .int (p : Nat), rfl, c, _, _, p, rfl, rfl, del_le a _ _ L4.1, ix_put (by rw [List.length_map]; omega), ?_⟩
      exact putRow G4 v d f4 L4 (rv.bare hv L4.1) (smallD_bare hv)
    · refine ⟨.int 7, rfl, 7, 4, rfl, rfl, _, rfl, iteF ⟨.int 7, rfl, rfl, _, rfl, iteF ⟨.int 7, rfl, rfl, _, rfl, iteF ⟨.int 7, rfl, rfl, _, rfl, iteF ⟨.int 7, rfl, rfl, _, rfl, iteT ?_⟩⟩⟩⟩⟩
      have h0 : smallR (.list []) := smallR_list (by decide) (fun x hx => by cases hx)
      have h1 : smallR (.tuple []) := smallR_tup (by decide) (fun x hx => by cases hx)
      exact lay_menu (Pd := smallR) (n := 6) (J := fun _ => True) (LayM.cons firm_true (lay_lst0 h0) (LayM.cons firm_true (lay_non (smallR_flat rfl)) (LayM.cons firm_true (lay_str (smallR_flat rfl)) (LayM.cons firm_true (lay_int (smallR_flat rfl)) (LayM.cons firm_true (lay_dct (smallR_flat rfl)) (LayM.cons firm_true (lay_tup0 h1) LayM.nil)))))) rfl (by decide) (by decide) rfl G3 _ hs3 trivial fun v G4 d f4 rv hv => q _ _ _ (f03.trans f4) rv hv
    · refine ⟨.int 8, rfl, 8, 4, rfl, rfl, _, rfl, iteF ⟨.int 8, rfl, rfl, _, rfl, iteF ⟨.int 8, rfl, rfl, _, rfl, iteF ⟨.int 8, rfl, rfl, _, rfl, iteF ⟨.int 8, rfl, rfl, _, rfl, iteF ⟨.int 8, rfl, rfl, _, rfl, iteT ?_⟩⟩⟩⟩⟩⟩
      refine asg0 ⟨.ref c, rfl, .ref a, rfl, ?_⟩
      refine ⟨_, _, rfl, (by omega), (by omega), hs3, fun qA qS qC d4 hd40 hd41 => ?_⟩
      have f4 : Fra a G3 (upd G3 a (three qA qS qC)) := Fra.drawn qA qS qC
      revert f4
      generalize upd G3 a (three qA qS qC) = G4
      intro f4
      have L4 := L3.same f4.sm
      have hc4 := del_le a _ _ L4.1
      refine ⟨60, d4, rfl, rfl, .ref c, rfl, .ref c, _, rfl, .inl ⟨_, SqL.of hc4, rfl⟩, _, _, rfl, rfl, ?_⟩
      rw [List.length_map]
      refine ⟨_, rfl, (by omega), (by omega), fun D hD => ?_⟩
      have hN : (60 + d4 - ((bs.length : Nat) : Int)).toNat ≤ 61 := by omega
      generalize (60 + d4 - ((bs.length : Nat) : Int)).toNat = N at hN
      have hDa : D ≠ a := f4.src.ne hD
      obtain ⟨m0, hm00⟩ : ∃ m0, mv[0]? = some m0 := ⟨_, List.getElem?_eq_getElem (by omega)⟩
      obtain ⟨b0, hb00⟩ : ∃ b0, bs[0]? = some b0 := ⟨_, List.getElem?_eq_getElem (by omega)⟩
      have hcb0 : (bs.map V.ref)[0]? = some (.ref b0) := by rw [List.getElem?_map, hb00]; rfl
      have sm0 : smallD (rowD m0) := smallD_row (by have := hrow m0 (List.mem_of_getElem? hm00); omega)
      refine lc_it (walk_range (n := N)) (tt := tYes) (fun i G5 => ∃ (ys : List V) (es : List PyData), G5 D = some (.lst ys) ∧ ys.length = i ∧ RpL (del (del G5 a) D) ys es ∧ (∀ e ∈ es, smallD e) ∧ Same (del G4 a) (del (del G5 a) D) ∧ Fra a G4 G5)
        ⟨[], [], upd_same, rfl, .nil, fun e he => (by cases he), ?_, Fra.same f4.src (same_upd hD)⟩ (fun _ _ _ _ => trivial) ?_ ?_
      · rw [dd_same]
        exact same_less (by rw [del_ne hDa]; exact hD)
      · rintro i x G5 G6 hi ⟨ys, es, hys, hyl, hry, hes, sG, f5⟩ ⟨eH, ex0⟩
        replace eH := eH.symm
        subst eH
        have L5 := L4.same sG
        have lift := (del_le D (H := del G5 a)).trans (del_le a)
        refine ⟨rfl, .ref c, rfl, rIxL_of (i := 0) (lift _ _ L5.1) hcb0 ⟨b0, _, rfl, .inl (SqL.of (lift _ _ (L5.2.2.2.2 0 b0 m0 hb00 hm00))), fun l hl => ?_⟩⟩
        have hlD : l ≠ D := fun z => by rw [z, hys] at hl; cases hl
        have hla : l ≠ a := f5.src.ne hl
        have gl : del (del G5 a) D l = none := by rw [del_ne hlD, del_ne hla]; exact hl
        have s3 : Same (del (del G5 a) D) (del (del (upd G5 l (.lst (m0.map fun (k : Nat) => V.int (k : Nat)))) a) D) := dd_upd gl
        refine ⟨ys, by rw [upd_ne (Ne.symm hlD)]; exact hys, ?_, ys ++ [.ref l], es ++ [rowD m0], upd_same, by rw [List.length_append, hyl]; rfl, ?_, ?_, ?_, ?_⟩
        · rw [hyl]
          exact Nat.lt_of_lt_of_le (by have : i < N := hi; omega : i < 100) (by decide)
        · rw [dd_same]
          exact rpL_append (hry.same s3) (.lst (by rw [del_ne hlD, del_ne hla]; exact upd_same) (rpL_nats m0))
        · intro e he
          rcases List.mem_append.mp he with h | h
          · exact hes e h
          · rw [List.mem_singleton.mp h]; exact sm0
        · rw [dd_same]
          exact sG.trans s3
        · exact (f5.over (f5.none hla hl) hla).over hD hDa
      · rintro G5 ⟨ys, es, hys, hyl, hry, hes, sG, f5⟩
        have L5 := L4.same sG
        have lift := (del_le D (H := del G5 a)).trans (del_le a)
        have hle : es.length ≤ 61 := by
          have := hry.length
          omega
        refine ⟨c, D, _, ys, rfl, rfl, lift _ _ L5.1, hys, ?_, fun r hr9 => ?_⟩
        · rw [List.length_map, hyl]
          exact Nat.le_trans (by omega : bs.length + N ≤ 200) (by decide)
        have hra : r ≠ a := f5.src.ne hr9
        have f6 := (f03.trans (f4.trans f5)).trans (Fra.same f5.src (same_upd (o := .lst (bs.map V.ref ++ ys)) hr9))
        refine hq _ _ a r (bs.map V.ref ++ ys) (mv.map rowD ++ es) _ _ _ _ f6.src (by rw [del_ne hra]; exact upd_same) ?_ (by rw [List.length_append]; omega) (fun d hd => ?_) fun H' r' d' f' => q H' r' d' (f6.trans f')
        · have s7 : Same (del G5 a) (del (upd G5 r (.lst (bs.map V.ref ++ ys))) a) := same_del a (same_upd hr9)
          have h1 : RpL (del (del G5 a) D) (bs.map V.ref) (mv.map rowD) := rpl_of (by rw [List.length_map, List.length_map, L5.2.1]) fun i x y hx hy => by
            obtain ⟨b', m', _, _, rfl, rfl, e⟩ := L5.at hx hy
            exact .lst e (rpL_nats m')
          exact ((h1.app hry).same (del_le D)).same s7
        · rcases List.mem_append.mp hd with h | h
          · exact small0 d h
          · exact hes d h
    · refine ⟨.int 9, rfl, 9, 4, rfl, rfl, _, rfl, iteF ⟨.int 9, rfl, rfl, _, rfl, iteF ⟨.int 9, rfl, rfl, _, rfl, iteF ⟨.int 9, rfl, rfl, _, rfl, iteF ⟨.int 9, rfl, rfl, _, rfl, iteF ⟨.int 9, rfl, rfl, _, rfl, iteF ?_⟩⟩⟩⟩⟩⟩
      have hb3 := del_le a _ _ (L3.2.2.2.2 p b m hb hm0)
      refine ⟨.ref c, rfl, .inl ⟨rfl, _, SqL.of hc3⟩, .ref c, rfl, .int (p : Nat), rfl, rIxL_of hc3 hcb ⟨b, _, rfl, .inl (SqL.of hb3), fun n hn => ?_⟩⟩
      have hna := hs3.ne hn
      have hnc : n ≠ c := fun z => by rw [z, hc3] at hn; cases hn
      have sn := same_upd (o := .lst (m.map fun (k : Nat) => V.int (k : Nat))) hn
      have f4 := Fra.same hs3 sn
      have L4 := L3.same f4.sm
      refine ⟨c, _, _, rfl, rfl, sn _ _ hc3, ?_, ?_⟩
      · rw [List.length_map]
        exact Nat.lt_of_lt_of_le (by omega : bs.length < 100) (by decide)
      have fU := (f03.trans f4).over (o := .lst (bs.map V.ref ++ [.ref n])) hc0 hca
      have e := del_upd_ne (H := upd G3 n (.lst (m.map fun (k : Nat) => V.int (k : Nat)))) (o := .lst (bs.map V.ref ++ [.ref n])) hca
      refine hq _ _ a c (bs.map V.ref ++ [.ref n]) (mv.map rowD ++ [rowD m]) _ _ _ _ fU.src ?_ ?_ (by rw [List.length_append]; show _ + 1 ≤ _; omega) (fun d hd => ?_) fun H' r' d' f' => q H' r' d' (fU.trans f')
      · rw [e]; exact upd_same
      · rw [e]
        exact rpL_append L4.rows (.lst (by rw [upd_ne hnc, del_ne hna]; exact upd_same) (rpL_nats m))
      · rcases List.mem_append.mp hd with h | h
        · exact small0 d h
        · rw [List.mem_singleton.mp h]; exact smallD_row (by omega)
end
end Kx
set_option Elab.async false
set_option linter.all false
set_option maxRecDepth 100000
set_option maxHeartbeats 4000000
namespace Kx
open PySem PySem.Spec PyProof.Rows L2
theorem smallL_flat {d : PyData} (h : itemsD d = none) : smallL d := fun ds e => by rw [h] at e; cases e
theorem smallL_list {ds : List PyData} (h : ds.length ≤ 1000) : smallL (.list ds) := fun l e => by
  cases e
  omega
theorem smallL_tup {ds : List PyData} (h : ds.length ≤ 1000) : smallL (.tuple ds) := fun l e => by
  cases e
  omega
section
variable {P : Program} {w : World} {K : PySem.W.Frag} {mg : Str → Option Value} {base : Heap}
def sp_law_spoilt_accepted : Sp := fun vs H Q _ => ∃ (a ca : Addr) (n : Nat) (ac : List Nat), vs = [.ref a, .int (n : Nat), .ref ca] ∧ SrcAt H a ∧ Rp (del H a) (.ref ca) (rowD ac) ∧ n ≤ 60 ∧ ac.length ≤ 60 ∧
  ∀ H' r d, Fra a H H' → Rp (del H' a) r d → smallL d → Q r H'
theorem sa_tail (T : Txt K mg) {cdv : Value} {A : Around} {outer : List Env} {s : Shared} {H : Hp} {E : XK} (hr : Room 2 (A.deeper (envOfC "_law_spoilt_accepted" (defScope s__law_spoilt_accepted) s.heap.objs.size (He.ga K "_law_spoilt_accepted") cdv))) :
    ∃ tk : TS, PSs (cxOf CX0 P w K mg base N__law_spoilt_accepted "_law_spoilt_accepted" (defScope s__law_spoilt_accepted) (He.ga K "_law_spoilt_accepted") cdv A outer s H E).nox ((defBody s__law_spoilt_accepted).drop 3) tk ∧
      ∀ (Dn : Ends) (G : Hp) (a c : Addr) (xs : List V) (ds : List PyData) (w1 w2 w4 w5 : Option V), SrcAt G a → del G a c = some (.lst xs) → RpL (del G a) xs ds → ds.length ≤ 200 →
        (∀ H' r d, Fra a G H' → Rp (del H' a) r d → smallL d → Dn.rt r H') →
        tk Dn [some (.ref a), w1, w2, some (.ref c), w4, w5] G := by
  refine ⟨_, (pss_one (ps_ret (pe_ifExp (pt_cmpR op_eq (pe_cal (ok_law_pick T) (hr.mono (by decide)) pass0 (pa_cons (pv 0) (pa_cons pe_int pa_nil))) pe_int (nomark _)) (pv 3) (pe_callTy call_tuple_of (by rfl) (fr_tuple T) b_tuple (pa_cons (pv 3) pa_nil))))), ?_⟩
  intro Dn G a c xs ds w1 w2 w4 w5 hs hc hrp hl q
  refine ⟨.ref a, rfl, ?_⟩
  refine ⟨_, _, rfl, (by omega), (by omega), hs, fun qA qS qC d hd0 hd1 => ?_⟩
  have f1 : Fra a G (upd G a (three qA qS qC)) := Fra.drawn qA qS qC
  revert f1
  generalize upd G a (three qA qS qC) = G1
  intro f1
  have hrp1 := hrp.same f1.sm
  have hc1 := f1.sm _ _ hc
  refine ⟨rfl, _, rfl, ?_⟩
  rw [dec_int]
  by_cases h0 : d = 0
  · rw [decide_eq_true h0]
    exact iteT ⟨.ref c, rfl, q _ _ _ f1 (.lst hc1 hrp1) (smallL_list (by omega))⟩
  · rw [decide_eq_false h0]
    refine iteF ⟨.ref c, rfl, c, xs, rfl, .inl ⟨SqL.of (del_le a _ _ hc1), fun t ht => ?_⟩⟩
    have hta : t ≠ a := f1.src.ne ht
    have s4 : Same G1 (upd G1 t (.tup xs)) := same_upd ht
    exact q _ _ _ (f1.trans (Fra.same f1.src s4)) (.tup (by rw [del_ne hta]; exact upd_same) (hrp1.same (same_del a s4))) (smallL_tup (by omega))
theorem ok_law_spoilt_accepted (T : Txt K mg) : Cal P w K mg base CX0 3 "_law_spoilt_accepted" ["_law_source_here", "_law_size", "_law_accepted"] sp_law_spoilt_accepted := by
  obtain ⟨fd, F⟩ := F__law_spoilt_accepted T
  refine cal_mk F (g__law_spoilt_accepted T) sc__law_spoilt_accepted (fun _ _ _ _ _ _ us hl => match us, hl with | [_, _, _], _ => rfl) (fun vs H Q E h => ?_) (fun cdv A outer s H vs Q E hr h => ?_)
  · obtain ⟨a, ca, n, ac, rfl, _⟩ := h; rfl
  · obtain ⟨tk, htl, hq⟩ := sa_tail (P := P) (w := w) (base := base) (cdv := cdv) (A := A) (outer := outer) (s := s) (H := H) (E := E) T hr
    refine ⟨_, PSs.nox (pss_cons (ps_set (i := 3) sc__law_spoilt_accepted.nd rfl (Or.inl rfl) (pe_callTy call_list_of (by rfl) (fr_list T) b_list (pa_cons (pv 2) pa_nil)))
        (pss_cons (ps_set (i := 4) sc__law_spoilt_accepted.nd rfl (Or.inl rfl) (pe_cal (ok_law_pick T) (hr.mono (by decide)) pass0 (pa_cons (pv 0) (pa_cons pe_int pa_nil))))
        (pss_cons (ps_if (pt_cmpR op_lt (pv 4) pe_int (nomark _)) (pss_one (ps_expr (pe_bm PySem.F.plainAttrs_list PySem.F.slot_list_insert PySem.F.type_list_insert mt_insert (pv 3) (pa_cons (pe_cal (ok_law_pick T) (hr.mono (by decide)) pass0 (pa_cons (pv 0) (pa_cons (pe_op op_add (pe_callB call_len (by rfl) (fr_len T) boot_len (pa_cons (pv 3) pa_nil)) pe_int) pa_nil))) (pa_cons (pe_ix ix_list (pe_lst (pa_cons (pe_un un_neg pe_int) (pa_cons (pv 1) (pa_cons pe_bl (pa_cons pe_non (pa_cons pe_str (pa_cons (pe_op op_pow pe_int pe_int) pa_nil))))))) (pe_cal (ok_law_pick T) (hr.mono (by decide)) pass0 (pa_cons (pv 0) (pa_cons pe_int pa_nil))) (fun _ _ => rfl)) pa_nil))))) (pss_one (ps_if (pt_cmpR op_eq (pv 4) pe_int (nomark _)) (pss_one (ps_set (i := 3) sc__law_spoilt_accepted.nd rfl (Or.inl rfl) (pe_op op_cat (pv 3) (pe_slice sl_list (pv 3) (po_some (pe_op op_sub (pe_callB call_len (by rfl) (fr_len T) boot_len (pa_cons (pv 3) pa_nil)) pe_int)) po_none)))) (pss_one (ps_if (pt_cmpR op_eq (pv 4) pe_int (nomark _)) (pss_one (ps_set (i := 3) sc__law_spoilt_accepted.nd rfl (Or.inl rfl) (pe_lstRev rfl (by rfl) (fr_list T) (by rfl) (fr_reversed T) (pe_callTy call_list_of (by rfl) (fr_list T) b_list (pa_cons (pv 3) pa_nil))))) (pss_one (ps_if (pt_cmpR op_eq (pv 4) pe_int (nomark _)) (pss_one (ps_ret (pe_ix ix_list (pe_lst (pa_cons pe_non (pa_cons pe_str (pa_cons pe_int (pa_cons pe_dnewK (pa_cons pe_bl pa_nil)))))) (pe_cal (ok_law_pick T) (hr.mono (by decide)) pass0 (pa_cons (pv 0) (pa_cons pe_int pa_nil))) (fun _ _ => rfl)))) (pss_one (ps_setLc (i := 3) (te := tVar 5) (own := [("_law_p", 5)]) (g := (gName 5)) (tt := tTest (tOp (rIn K true) (tVar 5) (tVar 2))) rfl sc__law_spoilt_accepted.nd rfl rfl (sw_true rfl rfl rfl (by decide +kernel)) (pi_range1 (by rfl) (fr_range T) (pa_cons (pv 1) pa_nil)) (blkOk_by (N := N__law_spoilt_accepted) (sc := defScope s__law_spoilt_accepted) (by decide +kernel)) (fun _ _ _ _ _ => (pg_name (i := 5) sc__law_spoilt_accepted.nd rfl (Or.inl rfl))) (fun _ _ _ _ _ => (pts_one (pt_cmpR op_notIn_seq (pv 5) (pv 2) rfl))) (fun _ _ _ _ _ => (pv 5)))))))))))
        htl))), ?_⟩
    obtain ⟨a, ca, n, ac, rfl, hs, hm, hn, hl, q⟩ := h
    obtain ⟨ca', e, hca⟩ := rp_row hm
    cases e
    refine ⟨.ref ca, rfl, ca, _, rfl, .inl (SqL.of (del_le a _ _ hca)), fun c hc => ?_⟩
    have hna : c ≠ a := hs.ne hc
    have f0 : Fra a H (upd H c (.lst (ac.map fun (k : Nat) => V.int (k : Nat)))) := Fra.same hs (same_upd hc)
    have hc0 : del (upd H c (.lst (ac.map fun (k : Nat) => V.int (k : Nat)))) a c = some (.lst (ac.map fun (k : Nat) => V.int (k : Nat))) := by rw [del_ne hna]; exact upd_same
    revert f0 hc0
    generalize upd H c (.lst (ac.map fun (k : Nat) => V.int (k : Nat))) = G0
    intro f0 hc0
    refine ⟨.ref a, rfl, ?_⟩
    refine ⟨_, _, rfl, (by omega), (by omega), f0.src, fun qA qS qC way hw0 hw1 => ?_⟩
    have f1 : Fra a G0 (upd G0 a (three qA qS qC)) := Fra.drawn qA qS qC
    revert f1
    generalize upd G0 a (three qA qS qC) = G1
    intro f1
    have hc1 := f1.sm _ _ hc0
    have hc1' := del_le a _ _ hc1
    have f01 := f0.trans f1
    have hw : way < 3 ∨ way = 3 ∨ way = 4 ∨ way = 5 ∨ 6 ≤ way := by omega
    -- told is a new list of numbers
    have nums : ∀ (G : Hp) (c' : Addr) (m : List Nat) (w5 : Option V), Fra a G1 G → G c' = some (.lst (m.map fun (k : Nat) => V.int (k : Nat))) → c' ≠ a → m.length ≤ 200 →
        tk { nx := fun _ H' => Q .non H', rt := Q } [some (.ref a), some (.int (n : Nat)), some (.ref ca), some (.ref c'), some (.int way), w5] G := fun G c' m w5 fG h hc' hml =>
      hq _ G a c' _ (m.map fun (k : Nat) => PyData.int (k : Nat)) _ _ _ _ fG.src (by rw [del_ne hc']; exact h) (rpL_nats m) (by rw [List.length_map]; exact hml) fun H' r d f' => q H' r d (f01.trans (fG.trans f'))
    have hcmp : ∀ H2 : Hp, Fra a G1 H2 → ∀ (D : Addr), H2 D = none → True := fun _ _ _ _ => trivial
    rcases hw with hw | rfl | rfl | rfl | hw
    · refine ⟨.int way, rfl, way, 3, rfl, rfl, _, rfl, ?_⟩
      rw [decide_eq_true hw]
      refine iteT ⟨.ref c, rfl, .inl ⟨rfl, _, SqL.of hc1'⟩, .ref a, rfl, .ref c, rfl, .ref c, _, rfl, .inl ⟨_, SqL.of hc1', rfl⟩, _, 1, rfl, rfl, ?_⟩
      rw [List.length_map]
      refine ⟨_, _, rfl, (by omega), (by omega), f1.src, fun qA qS qC i hi0 hi1 => ?_⟩
      have f2 : Fra a G1 (upd G1 a (three qA qS qC)) := Fra.drawn qA qS qC
      revert f2
      generalize upd G1 a (three qA qS qC) = G2
      intro f2
      refine lay_menu (Pd := fun d => flatD d = true) (n := 6) (J := fun _ => True) (LayM.cons firm_true (lay_neg rfl) (LayM.cons firm_true (lay_int0 rfl rfl) (LayM.cons firm_true (lay_bl rfl) (LayM.cons firm_true (lay_non rfl) (LayM.cons firm_true (lay_str rfl) (LayM.cons firm_true (lay_pow rfl) LayM.nil)))))) rfl (by decide) (by decide) rfl G2 _ f2.src trivial fun v G3 d f3 rv hv => ?_
      have f03 := f01.trans (f2.trans f3)
      have hc3 := f3.sm _ _ (f2.sm _ _ hc1)
      refine ⟨c, _, i, v, rfl, rfl, del_le a _ _ hc3, ?_, hi0, by omega, ?_⟩
      · rw [List.length_map]
        exact Nat.lt_of_le_of_lt hl (by decide)
      generalize i.toNat = j
      have fU := f03.over (o := .lst ((ac.map fun (k : Nat) => V.int (k : Nat)).take j ++ [v] ++ (ac.map fun (k : Nat) => V.int (k : Nat)).drop j)) hc hna
      refine hq _ _ a c _ (((ac.take j).map fun (k : Nat) => PyData.int (k : Nat)) ++ [d] ++ ((ac.drop j).map fun (k : Nat) => PyData.int (k : Nat))) _ _ _ _ fU.src (by rw [del_ne hna]; exact upd_same) ?_ ?_ fun H' r d' f' => q H' r d' (fU.trans f')
      · rw [← List.map_take, ← List.map_drop]
        exact ((rpL_nats _).app (.cons (rv.flat hv) .nil)).app (rpL_nats _)
      · rw [List.length_append, List.length_append, List.length_map, List.length_map, List.length_take, List.length_drop]
        show _ + 1 + _ ≤ 200
        omega
    · refine ⟨.int 3, rfl, 3, 3, rfl, rfl, _, rfl, iteF ⟨.int 3, rfl, rfl, _, rfl, iteT ?_⟩⟩
      refine asg0 ⟨.ref c, rfl, .ref c, rfl, .ref c, rfl, .ref c, _, rfl, .inl ⟨_, SqL.of hc1', rfl⟩, _, 1, rfl, rfl, _, rfl, c, _, rfl, SqL.of hc1', fun u hu => ?_⟩
      obtain ⟨m', em, hm'⟩ := cut_nats ac (some (((ac.map fun (k : Nat) => V.int (k : Nat)).length : Int) - 1)) none
      rw [em]
      refine ⟨c, u, _, _, rfl, rfl, same_upd hu _ _ hc1', upd_same, ?_, fun r hr9 => ?_⟩
      · rw [List.length_map, List.length_map]
        exact Nat.le_trans (by omega : ac.length + m'.length ≤ 200) (by decide)
      have sU := (same_upd (o := .lst (m'.map fun (k : Nat) => V.int (k : Nat))) hu).trans (same_upd (o := .lst ((ac.map fun (k : Nat) => V.int (k : Nat)) ++ (m'.map fun (k : Nat) => V.int (k : Nat)))) hr9)
      refine nums _ r (ac ++ m') _ (Fra.same f1.src sU) (by rw [upd_same, List.map_append]) (f1.src.ne (none_of (same_upd hu) hr9)) (by rw [List.length_append]; omega)
    · refine ⟨.int 4, rfl, 4, 3, rfl, rfl, _, rfl, iteF ⟨.int 4, rfl, rfl, _, rfl, iteF ⟨.int 4, rfl, rfl, _, rfl, iteT ?_⟩⟩⟩
      refine asg0 ⟨.ref c, rfl, c, _, rfl, .inl (SqL.of hc1'), fun u hu => ⟨u, _, rfl, SqL.of upd_same, fun r hr9 => ?_⟩⟩
      have sU := (same_upd (o := .lst (ac.map fun (k : Nat) => V.int (k : Nat))) hu).trans (same_upd (o := .lst (ac.map fun (k : Nat) => V.int (k : Nat)).reverse) hr9)
      exact nums _ r ac.reverse _ (Fra.same f1.src sU) (by rw [upd_same, List.map_reverse]) (f1.src.ne (none_of (same_upd hu) hr9)) (by rw [List.length_reverse]; omega)
    · refine ⟨.int 5, rfl, 5, 3, rfl, rfl, _, rfl, iteF ⟨.int 5, rfl, rfl, _, rfl, iteF ⟨.int 5, rfl, rfl, _, rfl, iteF ⟨.int 5, rfl, rfl, _, rfl, iteT ?_⟩⟩⟩⟩
      exact lay_menu (Pd := smallL) (n := 5) (J := fun _ => True) (LayM.cons firm_true (lay_non (smallL_flat rfl)) (LayM.cons firm_true (lay_str (smallL_flat rfl)) (LayM.cons firm_true (lay_int (smallL_flat rfl)) (LayM.cons firm_true (lay_dct (smallL_flat rfl)) (LayM.cons firm_true (lay_bl (smallL_flat rfl)) LayM.nil))))) rfl (by decide) (by decide) rfl G1 _ f1.src trivial fun v G4 d f4 rv hv => q _ _ _ (f01.trans f4) rv hv
    · refine ⟨.int way, rfl, way, 3, rfl, rfl, _, rfl, ?_⟩
      rw [decide_eq_false (by omega)]
      refine iteF ⟨.int way, rfl, rfl, _, rfl, ?_⟩
      rw [dec_int, decide_eq_false (by omega)]
      refine iteF ⟨.int way, rfl, rfl, _, rfl, ?_⟩
      rw [dec_int, decide_eq_false (by omega)]
      refine iteF ⟨.int way, rfl, rfl, _, rfl, ?_⟩
      rw [dec_int, decide_eq_false (by omega)]
      refine iteF (asg0 ⟨_, rfl, _, rfl, (by omega), (by omega), fun D hD => ?_⟩)
      rw [show (((n : Nat) : Int)).toNat = n by omega]
      have hca1 := del_le a _ _ (f01.sm _ _ hca)
      refine lc_it (walk_range (n := n)) (tt := tTest (tOp (rIn K true) (tVar 5) (tVar 2))) (fun i G2 => ∃ l : List Nat, G2 D = some (.lst (l.map fun (k : Nat) => V.int (k : Nat))) ∧ l.length ≤ i ∧ Same G1 G2)
        ⟨[], upd_same, Nat.le_refl _, same_upd hD⟩ (fun _ _ _ _ => trivial) ?_ ?_
      · rintro i x G2 G3 hi ⟨l, hlD, hll, s2⟩ ⟨eH, ex0⟩
        replace eH := eH.symm
        subst eH
        replace ex0 : x = .int (i : Nat) := ex0.trans (congrArg V.int (Int.zero_add _))
        subst ex0
        refine ⟨rfl, .int (i : Nat), rfl, .ref ca, rfl, ca, _, rfl, .inl (SqL.of (s2 _ _ hca1)), rfl, flat_nats _, _, rfl, ?_⟩
        rw [if_pos rfl]
        have hi' : i < n := hi
        cases (!inV (.int (i : Nat)) (ac.map fun (k : Nat) => V.int (k : Nat))) with
        | false => exact iteF ⟨l, hlD, by omega, s2⟩
        | true =>
          refine iteT ⟨_, rfl, _, hlD, ?_, l ++ [i], ?_, ?_, same_over s2 hD⟩
          · rw [List.length_map]
            exact Nat.lt_of_le_of_lt (by omega : l.length ≤ 100) (by decide)
          · rw [upd_same, List.map_append]; rfl
          · rw [List.length_append]; show _ + 1 ≤ _; omega
      · rintro G2 ⟨l, hlD, hll, s2⟩
        exact nums _ D l _ (Fra.same f1.src s2) hlD (f1.src.ne hD) (by omega)
end
end Kx
set_option Elab.async false
set_option linter.all false
set_option maxRecDepth 100000
set_option maxHeartbeats 4000000
namespace Kx
open PySem PySem.Spec PyProof.Rows L2
def lettersD (z : Str) : List PyData := z.cps.toList.map fun c => .str ⟨#[c]⟩
theorem rpL_letters {H : Hp} (z : Str) : RpL H (lettersV z) (lettersD z) := by
  unfold lettersV lettersD
  generalize z.cps.toList = l
  induction l with
  | nil => exact .nil
  | cons c l ih => exact .cons (.str _) ih
def smallTB : PyData → Bool
  | .str z => decide (z.length ≤ 100000)
  | _ => true
theorem smallTB_ok {d : PyData} (h : smallTB d = true) : smallT d := fun z e => by subst e; exact of_decide_eq_true h
def altB (d : PyData) : Bool := d.showable && (!d.hasDict && (decide (d.depth ≤ 60) && (decide (d.shown.length ≤ 1000) && (smallTB d && PyData.strOk d.shown))))
structure AltOk (d : PyData) : Prop where
  r : ReprOk d
  s : smallT d
  o : PyData.strOk d.shown = true
theorem altB_ok {d : PyData} (h1 : altB d = true) : AltOk d := by
  unfold altB at h1
  simp only [Bool.and_eq_true, decide_eq_true_eq, Bool.not_eq_true'] at h1
  obtain ⟨h1, h2, h3, h4, h5, h6⟩ := h1
  exact ⟨⟨h1, h2, h3, .inr (Nat.le_trans h4 (by decide))⟩, smallTB_ok h5, h6⟩
theorem strOk_of (s : String) : PyData.strOk (Str.ofString s) = true := by
  rw [PySem.Str.ofString_eq_toList]
  unfold PyData.strOk
  rw [← Array.all_toList, List.all_eq_true]
  intro c hc
  obtain ⟨d, _, rfl⟩ := List.mem_map.mp hc
  refine decide_eq_true ?_
  rcases d.valid with h | ⟨_, h⟩
  · exact Nat.lt_trans h (by decide)
  · exact h
theorem strOk_shown (k : Int) : PyData.strOk (PyData.int k).shown = true := by
  have : (PyData.int k).shown = Str.ofString (toString k) := by simp [PyData.shown]
  rw [this]
  exact strOk_of _
def oddA (z : Str) : List PyData := [.str z, .str "", .str (z ++ cutS z none (some 1)), .str (cutS z none (some 1) ++ "i"), .str "B", .none, .list (lettersD z), .str "abcdefghi", .str "ba", .int 3, .str (cutS "efgh" none (some ((z.length : Nat) : Int))), .str "a b", .str (z ++ "h")]
def oddN (z : Str) : List PyData := [.str z, .str "yx", .str "xx", .str "a", .str "uvwxy", .none, .list (lettersD z), .tuple [.str "x"], .str "X", .str " ", .str (z ++ "z"), .str (cutS "vwyz" none (some ((z.length : Nat) : Int))), .int 0]
theorem oddA_ok {z : Str} (hz : z ∈ menuB) {d : PyData} (i : Nat) (h : (oddA z)[i]? = some d) : AltOk d := by
  have hh : (menuB.all fun z => (oddA z).all altB) = true := by decide +kernel
  exact altB_ok (List.all_eq_true.mp (List.all_eq_true.mp hh z hz) d (List.mem_of_getElem? h))
theorem oddN_ok {z : Str} (hz : z ∈ menuN) {d : PyData} (i : Nat) (h : (oddN z)[i]? = some d) : AltOk d := by
  have hh : (menuN.all fun z => (oddN z).all altB) = true := by decide +kernel
  exact altB_ok (List.all_eq_true.mp (List.all_eq_true.mp hh z hz) d (List.mem_of_getElem? h))
/-! ### texts of an expression -/
section
variable {K : PySem.W.Frag} {a : Addr} {J : Hp → Prop} {σ : L2.St} {Pd : PyData → Prop} {z y : Str} {i : Nat}
theorem lay_cut1 (hσ : σ[i]? = some (some (.str z))) (hz : z.length ≤ sizeLine) (h : Pd (.str (cutS z none (some 1)))) : Lay a J σ (tSl rSlS (tVar i) tNoPart (tPart (tC (.int 1)))) Pd :=
  fun G Q s j k => ⟨_, hσ, _, rfl, z, rfl, hz, k _ _ _ (Fra.refl s) (.str _) h⟩
theorem lay_cutn (hσ : σ[i]? = some (some (.str z))) (hz : z.length ≤ sizeLine) (hy : y.length ≤ sizeLine) (h : Pd (.str (cutS y none (some ((z.length : Nat) : Int))))) : Lay a J σ (tSl rSlS (tC (.str y)) tNoPart (tPart (tCB (rLen K) (tCons (tVar i) tNil)))) Pd :=
  fun G Q s j k => ⟨_, hσ, .str z, _, rfl, ⟨hz, rfl⟩, _, rfl, y, rfl, hy, k _ _ _ (Fra.refl s) (.str _) h⟩
theorem lay_dbl (hσ : σ[i]? = some (some (.str z))) (hz : z.length ≤ 100) (h : Pd (.str (z ++ cutS z none (some 1)))) : Lay a J σ (tOp (fun x y H Q => ∃ i j, x = V.str i ∧ y = V.str j ∧ i.length + j.length ≤ sizeLine ∧ Q (V.str (i ++ j)) H) (tVar i) (tSl rSlS (tVar i) tNoPart (tPart (tC (.int 1))))) Pd :=
  fun G Q s j k => ⟨_, hσ, _, hσ, _, rfl, z, rfl, Nat.le_trans hz (by decide), _, _, rfl, rfl, Nat.le_trans (Nat.add_le_add hz (Nat.le_trans (cutS_length _ _ _) hz)) (by decide), k _ _ _ (Fra.refl s) (.str _) h⟩
theorem lay_cutadd (hσ : σ[i]? = some (some (.str z))) (hz : z.length ≤ 100) (hy : y.length ≤ 100) (h : Pd (.str (cutS z none (some 1) ++ y))) : Lay a J σ (tOp (fun x y H Q => ∃ i j, x = V.str i ∧ y = V.str j ∧ i.length + j.length ≤ sizeLine ∧ Q (V.str (i ++ j)) H) (tSl rSlS (tVar i) tNoPart (tPart (tC (.int 1)))) (tC (.str y))) Pd :=
  fun G Q s j k => ⟨_, hσ, _, rfl, z, rfl, Nat.le_trans hz (by decide), _, _, rfl, rfl, Nat.le_trans (Nat.add_le_add (Nat.le_trans (cutS_length _ _ _) hz) hy) (by decide), k _ _ _ (Fra.refl s) (.str _) h⟩
theorem lay_add (hσ : σ[i]? = some (some (.str z))) (hz : z.length ≤ 100) (hy : y.length ≤ 100) (h : Pd (.str (z ++ y))) : Lay a J σ (tOp (fun x y H Q => ∃ i j, x = V.str i ∧ y = V.str j ∧ i.length + j.length ≤ sizeLine ∧ Q (V.str (i ++ j)) H) (tVar i) (tC (.str y))) Pd :=
  fun G Q s j k => ⟨_, hσ, _, _, rfl, rfl, Nat.le_trans (Nat.add_le_add hz hy) (by decide), k _ _ _ (Fra.refl s) (.str _) h⟩
theorem lay_list (hσ : σ[i]? = some (some (.str z))) (hz : z.length ≤ 100) (h : Pd (.list (lettersD z))) : Lay a J σ (tCB (fun xs H Q => ∃ z : Str, xs = [.str z] ∧ z.length ≤ sizeLine ∧ ∀ l, H l = none → Q (.ref l) (upd H l (.lst (lettersV z)))) (tCons (tVar i) tNil)) Pd :=
  fun G Q s j k => ⟨_, hσ, z, rfl, Nat.le_trans hz (by decide), fun l hl => k _ _ _ (new_fra s hl).1 (.lst (new_fra s hl).2 (rpL_letters z)) h⟩
end
end Kx
set_option Elab.async false
set_option linter.all false
set_option maxRecDepth 100000
set_option maxHeartbeats 4000000
namespace Kx
open PySem PySem.Spec PyProof.Rows L2
theorem pure_strs {zs : List Str} (h : ∀ z ∈ zs, PyData.strOk z = true) : pureD (.list (zs.map PyData.str)) = true := by
  simp only [pureD]
  exact pureL_map fun z hz => h z hz
theorem shaped_strs {zs : List Str} (h : ∀ z ∈ zs, PyData.strOk z = true) : SeqAt.shaped (.list (zs.map PyData.str)) = true := by
  refine shaped_of (pure_strs h) ?_
  have h : PyData.depthAll (zs.map PyData.str) ≤ 0 := depthAll_map fun _ _ => by simp [PyData.depth]
  simp only [PyData.depth]
  omega
theorem eqv_strs {zs : List Str} (h : ∀ z ∈ zs, PyData.strOk z = true) : PyData.eqv (.list (zs.map PyData.str)) (.list (zs.map PyData.str)) = true := (eqv_pure (pure_strs h) (pure_strs h)).mpr rfl
theorem optl_eq {K : PySem.W.Frag} {H1 H2 : Hp} {r1 r2 : V} {o : Option (List Str)} {Q : VK} (h1 : OptL H1 r1 o) (s : Same H1 H2) (h2 : OptL H2 r2 o) (hs : ∀ zs, o = some zs → ∀ z ∈ zs, PyData.strOk z = true) (q : Q (.bl true) H2) : rEqD K r1 r2 H2 Q := by
  cases o with
  | none =>
    obtain rfl : r1 = .non := h1
    obtain rfl : r2 = .non := h2
    refine ⟨_, _, .non, .non, (by decide +kernel), (by decide +kernel), ?_⟩
    rw [show PyData.eqv .none .none = true from by decide +kernel]
    exact q
  | some zs =>
    obtain ⟨l1, rfl, e1⟩ := h1
    obtain ⟨l2, rfl, e2⟩ := h2
    have h := hs zs rfl
    refine ⟨_, _, dp_names zs (s _ _ e1), dp_names zs e2, shaped_strs h, shaped_strs h, ?_⟩
    rw [eqv_strs h]
    exact q
structure RefS (a : Addr) (G : Hp) (va vn vm vc : V) (A N M C : PyData) : Prop where
  src : SrcAt G a
  ra : Rp (del G a) va A
  rn : Rp (del G a) vn N
  rm : Rp (del G a) vm M
  rc : Rp (del G a) vc C
  oa : AltOk A
  on : AltOk N
  sm : smallR M
  sc : smallL C
theorem RefS.fra {a : Addr} {G G' : Hp} {va vn vm vc : V} {A N M C : PyData} (h : RefS a G va vn vm vc A N M C) (f : Fra a G G') : RefS a G' va vn vm vc A N M C := ⟨f.src, h.ra.same f.sm, h.rn.same f.sm, h.rm.same f.sm, h.rc.same f.sm, h.oa, h.on, h.sm, h.sc⟩
structure WorldS (a t : Addr) (G : Hp) (D : RdD) (ma ca : Addr) : Prop where
  src : SrcAt G a
  tup : del G a t = some (.tup [.str D.al, .str D.ns, .ref ma, .ref ca])
  rm : Rp (del G a) (.ref ma) (rowsD D.mv)
  rc : Rp (del G a) (.ref ca) (rowD D.ac)
theorem WorldS.fra {a t : Addr} {G G' : Hp} {D : RdD} {ma ca : Addr} (h : WorldS a t G D ma ca) (f : Fra a G G') : WorldS a t G' D ma ca := ⟨f.src, f.sm _ _ h.tup, h.rm.same f.sm, h.rc.same f.sm⟩
theorem ac_len {D : RdD} (WO : WOk D) : D.ac.length ≤ 60 := by
  have h3 := (WO.asc.imp fun h => Nat.ne_of_lt h : D.ac.Nodup)
  have h4 := nat_nodup_len D.ac (List.range D.mv.length) h3 fun x hx => List.mem_range.mpr (WO.ac x hx)
  rw [List.length_range] at h4
  exact Nat.le_trans h4 WO.mv.le
section
variable {P : Program} {w : World} {K : PySem.W.Frag} {mg : Str → Option Value} {base : Heap}
theorem rf_tail6 (T : Txt K mg) {cdv : Value} {A : Around} {outer : List Env} {s : Shared} {H : Hp} {E : XK} (hG : A.guards = some []) (hr : Room 7 (A.deeper (envOfC "_law_refused" (defScope s__law_refused) s.heap.objs.size (He.ga K "_law_refused") cdv))) :
    ∃ tk : TS, PSs (cxOf CX0 P w K mg base N__law_refused "_law_refused" (defScope s__law_refused) (He.ga K "_law_refused") cdv A outer s H E).nox ((defBody s__law_refused).drop 6) tk ∧
      ∀ (Dn : Ends) (G : Hp) (a : Addr) (va vn vm vc : V) (A N M C : PyData) (w1 w6 w7 : Option V), RefS a G va vn vm vc A N M C → (∀ H', Fra a G H' → Dn.rt (.bl true) H') →
        tk Dn [some (.ref a), w1, some va, some vn, some vm, some vc, w6, w7] G := by
  refine ⟨_, (pss_one (ps_ret (pe_cmpR (op_eqD (hu64 hr)) (pe_calG (ok_law_made T) hG (hr.mono (by decide)) pass0 (pa_cons (pv 2) (pa_cons (pv 3) (pa_cons (pv 4) (pa_cons (pv 5) pa_nil))))) (pe_calG (ok_law_due T) hG (hr.mono (by decide)) pass0 (pa_cons (pv 2) (pa_cons (pv 3) (pa_cons (pv 4) (pa_cons (pv 5) pa_nil))))) (nomark _)))), ?_⟩
  intro Dn G a va vn vm vc A N M C w1 w6 w7 R q
  have ra := R.ra.same (del_le a)
  have rn := R.rn.same (del_le a)
  have rm := R.rm.same (del_le a)
  have rc := R.rc.same (del_le a)
  refine ⟨va, rfl, vn, rfl, vm, rfl, vc, rfl, va, vn, vm, vc, A, N, M, C, rfl, ra, rn, rm, rc, ⟨R.oa.s, R.on.s, R.sm, R.sc⟩, R.oa.r, R.on.r, fun H1 r1 s1 e1 => ?_⟩
  refine ⟨va, rfl, vn, rfl, vm, rfl, vc, rfl, va, vn, vm, vc, A, N, M, C, rfl, ra.same s1, rn.same s1, rm.same s1, rc.same s1, ⟨R.oa.s, R.on.s, R.sm, R.sc⟩, R.oa.r, R.on.r, fun H2 r2 s2 e2 => ?_⟩
  refine optl_eq e1 s2 e2 (fun zs hz z hm => ?_) (q _ (Fra.same R.src (s1.trans s2)))
  generalize readDue A N M C = due at hz
  have lit := strOk_of
  cases due with
  | alph =>
    cases hz
    simp only [List.mem_cons, List.not_mem_nil, or_false] at hm
    rcases hm with rfl | rfl | rfl
    · exact strOk_of _
    · exact strOk_of _
    · exact R.oa.o
  | names =>
    cases hz
    simp only [List.mem_cons, List.not_mem_nil, or_false] at hm
    rcases hm with rfl | rfl | rfl
    · exact strOk_of _
    · exact strOk_of _
    · exact R.on.o
  | move k =>
    cases hz
    simp only [List.mem_cons, List.not_mem_nil, or_false] at hm
    rcases hm with rfl | rfl | rfl
    · exact strOk_of _
    · exact strOk_of _
    · exact strOk_shown _
  | acc k =>
    cases hz
    simp only [List.mem_cons, List.not_mem_nil, or_false] at hm
    rcases hm with rfl | rfl | rfl
    · exact strOk_of _
    · exact strOk_of _
    · exact strOk_shown _
  | ok => cases hz
theorem rf_tail5 (T : Txt K mg) {cdv : Value} {A : Around} {outer : List Env} {s : Shared} {H : Hp} {E : XK} (hG : A.guards = some []) (hr : Room 7 (A.deeper (envOfC "_law_refused" (defScope s__law_refused) s.heap.objs.size (He.ga K "_law_refused") cdv))) :
    ∃ tk : TS, PSs (cxOf CX0 P w K mg base N__law_refused "_law_refused" (defScope s__law_refused) (He.ga K "_law_refused") cdv A outer s H E).nox ((defBody s__law_refused).drop 5) tk ∧
      ∀ (Dn : Ends) (G : Hp) (a t ma ca : Addr) (D : RdD) (va vn vm : V) (A N M C : PyData) (way : Int) (w7 : Option V), 0 ≤ way → way < 6 → WOk D → WorldS a t G D ma ca → RefS a G va vn vm (.ref ca) A N M C → (∀ H', Fra a G H' → Dn.rt (.bl true) H') →
        tk Dn [some (.ref a), some (.ref t), some va, some vn, some vm, some (.ref ca), some (.int way), w7] G := by
  obtain ⟨tk, htl, hq⟩ := rf_tail6 (P := P) (w := w) (base := base) (cdv := cdv) (A := A) (outer := outer) (s := s) (H := H) (E := E) T hG hr
  refine ⟨_, (pss_cons (ps_if (PW.pt (pw_and (pt_cmpR op_ne (pv 6) pe_int (nomark _)) (pw_and1 (pt_cmpR op_ne (pv 6) pe_int (nomark _))))) (pss_one (ps_set (i := 5) sc__law_refused.nd rfl (Or.inl rfl) (pe_cal (ok_law_spoilt_accepted T) (hr.mono (by decide)) pass0 (pa_cons (pv 0) (pa_cons (pe_callB call_len (by rfl) (fr_len T) boot_len (pa_cons (pe_ix ix_tup (pv 1) pe_int (fun _ _ => rfl)) pa_nil)) (pa_cons (pv 5) pa_nil)))))) pss_nil)
        htl), ?_⟩
  intro Dn G a t ma ca D va vn vm A N M C way w7 hw0 hw1 WO W R q
  have out := hq Dn G a va vn vm (.ref ca) A N M C (some (.ref t)) (some (.int way)) w7 R q
  obtain ⟨_, bs0, e, hma, hbl, _⟩ := rp_list W.rm
  cases e
  have spoil : sp_law_spoilt_accepted [.ref a, .int ((bs0.length : Nat) : Int), .ref ca] G (fun x H' => tk Dn [some (.ref a), some (.ref t), some va, some vn, some vm, some x, some (.int way), w7] H') E0 :=
    ⟨a, ca, bs0.length, D.ac, rfl, W.src, W.rc, by rw [hbl]; exact WO.mv.le, ac_len WO, fun H' r d f rd sd => hq Dn H' a va vn vm r A N M d _ _ _ ⟨f.src, R.ra.same f.sm, R.rn.same f.sm, R.rm.same f.sm, rd, R.oa, R.on, R.sm, sd⟩ fun H2 f2 => q H2 (f.trans f2)⟩
  have hw : way = 0 ∨ way = 1 ∨ (way ≠ 0 ∧ way ≠ 1) := by omega
  rcases hw with rfl | rfl | ⟨h0, h1⟩
  · exact ⟨.int 0, rfl, rfl, _, rfl, iteF out⟩
  · exact ⟨.int 1, rfl, rfl, _, rfl, iteT ⟨.int 1, rfl, rfl, _, rfl, iteF out⟩⟩
  · refine ⟨.int way, rfl, rfl, _, rfl, ?_⟩
    rw [show (!decide (V.int way = V.int 0)) = true by rw [dec_int, decide_eq_false h0]; rfl]
    refine iteT ⟨.int way, rfl, rfl, _, rfl, ?_⟩
    rw [show (!decide (V.int way = V.int 1)) = true by rw [dec_int, decide_eq_false h1]; rfl]
    refine iteT (asg0 ⟨.ref a, rfl, .ref t, rfl, t, _, 2, .ref ma, rfl, rfl, SqT.of (del_le a _ _ W.tup), rfl, .ref ma, _, rfl, .inl ⟨_, SqL.of (del_le a _ _ hma), rfl⟩, .ref ca, rfl, spoil⟩)
theorem rf_tail4 (T : Txt K mg) {cdv : Value} {A : Around} {outer : List Env} {s : Shared} {H : Hp} {E : XK} (hG : A.guards = some []) (hr : Room 7 (A.deeper (envOfC "_law_refused" (defScope s__law_refused) s.heap.objs.size (He.ga K "_law_refused") cdv))) :
    ∃ tk : TS, PSs (cxOf CX0 P w K mg base N__law_refused "_law_refused" (defScope s__law_refused) (He.ga K "_law_refused") cdv A outer s H E).nox ((defBody s__law_refused).drop 4) tk ∧
      ∀ (Dn : Ends) (G : Hp) (a t ma ca : Addr) (D : RdD) (va vn : V) (A N : PyData) (way : Int) (w7 : Option V), 0 ≤ way → way < 6 → WOk D → WorldS a t G D ma ca → RefS a G va vn (.ref ma) (.ref ca) A N (rowsD D.mv) (rowD D.ac) → (∀ H', Fra a G H' → Dn.rt (.bl true) H') →
        tk Dn [some (.ref a), some (.ref t), some va, some vn, some (.ref ma), some (.ref ca), some (.int way), w7] G := by
  obtain ⟨tk, htl, hq⟩ := rf_tail5 (P := P) (w := w) (base := base) (cdv := cdv) (A := A) (outer := outer) (s := s) (H := H) (E := E) T hG hr
  refine ⟨_, (pss_cons (ps_if (PW.pt (pw_or (pt_cmpR op_eq (pv 6) pe_int (nomark _)) (pw_or1 (pt_cmpR op_eq (pv 6) pe_int (nomark _))))) (pss_one (ps_set (i := 4) sc__law_refused.nd rfl (Or.inl rfl) (pe_cal (ok_law_spoilt_moves T) (hr.mono (by decide)) pass0 (pa_cons (pv 0) (pa_cons (pv 4) pa_nil))))) pss_nil)
        htl), ?_⟩
  intro Dn G a t ma ca D va vn A N way w7 hw0 hw1 WO W R q
  have out := hq Dn G a t ma ca D va vn (.ref ma) A N (rowsD D.mv) (rowD D.ac) way w7 hw0 hw1 WO W R q
  have hrow : ∀ m ∈ D.mv, 1 ≤ m.length ∧ m.length ≤ 128 := fun m hm => by
    rw [WO.mv.row m hm]
    obtain ⟨t1, t2⟩ := two_le WO.rd.ns4
    exact ⟨Nat.mul_pos WO.rd.al8.1 t1, Nat.le_trans (Nat.mul_le_mul WO.rd.al8.2 t2) (by decide)⟩
  have spoil : sp_law_spoilt_moves [.ref a, .ref ma] G (fun x H' => tk Dn [some (.ref a), some (.ref t), some va, some vn, some x, some (.ref ca), some (.int way), w7] H') E0 :=
    ⟨a, ma, D.mv, rfl, W.src, W.rm, WO.mv.pos, WO.mv.le, hrow, fun H' r d f rd sd => hq Dn H' a t ma ca D va vn r A N d _ way _ hw0 hw1 WO (W.fra f) ⟨f.src, R.ra.same f.sm, R.rn.same f.sm, rd, R.rc.same f.sm, R.oa, R.on, sd, R.sc⟩ fun H2 f2 => q H2 (f.trans f2)⟩
  have hw : way = 0 ∨ way = 1 ∨ way = 2 ∨ way = 3 ∨ way = 4 ∨ way = 5 := by omega
  rcases hw with rfl | rfl | rfl | rfl | rfl | rfl
  · exact ⟨.int 0, rfl, rfl, _, rfl, iteF ⟨.int 0, rfl, rfl, _, rfl, iteF out⟩⟩
  · exact ⟨.int 1, rfl, rfl, _, rfl, iteF ⟨.int 1, rfl, rfl, _, rfl, iteF out⟩⟩
  · exact ⟨.int 2, rfl, rfl, _, rfl, iteT (iteT (asg0 ⟨.ref a, rfl, .ref ma, rfl, spoil⟩))⟩
  · exact ⟨.int 3, rfl, rfl, _, rfl, iteF ⟨.int 3, rfl, rfl, _, rfl, iteF out⟩⟩
  · exact ⟨.int 4, rfl, rfl, _, rfl, iteF ⟨.int 4, rfl, rfl, _, rfl, iteF out⟩⟩
  · exact ⟨.int 5, rfl, rfl, _, rfl, iteF ⟨.int 5, rfl, rfl, _, rfl, iteT (asg0 ⟨.ref a, rfl, .ref ma, rfl, spoil⟩)⟩⟩
end
end Kx
set_option Elab.async false
set_option linter.all false
set_option maxRecDepth 100000
set_option maxHeartbeats 4000000
namespace Kx
open PySem PySem.Spec PyProof.Rows L2
section
variable {K : PySem.W.Frag} {a : Addr} {J : Hp → Prop} {σ : L2.St} {Pd : PyData → Prop}
theorem menu_lst {ts : TA} {n : Nat} {G : Hp} {Q : VK} (h : LayM a J σ Pd ts n) (h1 : n ≤ 100) (s : SrcAt G a) (j : J G) (k : ∀ b G1 vs ds, Fra a G G1 → del G1 a b = some (.lst vs) → RpL (del G1 a) vs ds → ds.length = n → (∀ d ∈ ds, Pd d) → Q (.ref b) G1) : tLst ts σ G Q :=
  h G _ s j fun vs G1 ds f1 r1 hn hds => ⟨by rw [r1.length, hn]; exact Nat.le_trans h1 (by decide), fun t ht => by
    obtain ⟨f2, e2⟩ := new_fra (o := .lst vs) f1.src ht
    exact k t _ vs ds (f1.trans f2) e2 (r1.same f2.sm) hn hds⟩
theorem pick_from {b : Addr} {G : Hp} {vs : List V} {ds : List PyData} {Q : VK} (s : SrcAt G a) (hb : del G a b = some (.lst vs)) (r1 : RpL (del G a) vs ds) (h0 : 0 < ds.length) (h1 : ds.length ≤ 100) (k : ∀ v G' d, Fra a G G' → Rp (del G' a) v d → d ∈ ds → Q v G') :
    sp_law_pick [.ref a, .int (vs.length : Nat)] G (fun y H2 => rIxL K (.ref b) y H2 Q) E0 := by
  have hl := r1.length
  refine ⟨_, _, rfl, (by omega), (by omega), s, fun qA qS qC d h2 h3 => ?_⟩
  have f3 : Fra a G (upd G a (three qA qS qC)) := Fra.drawn qA qS qC
  revert f3
  generalize upd G a (three qA qS qC) = G3
  intro f3
  obtain ⟨p, rfl⟩ := Int.eq_ofNat_of_zero_le h2
  have hp : p < ds.length := by omega
  obtain ⟨v, hv⟩ : ∃ v, vs[p]? = some v := ⟨_, List.getElem?_eq_getElem (by omega)⟩
  obtain ⟨y, hy, ry⟩ := r1.get hv
  exact rIxL_of (del_le a _ _ (f3.sm _ _ hb)) hv (k _ _ _ f3 (ry.same f3.sm) (List.mem_of_getElem? hy))
end
section
variable {P : Program} {w : World} {K : PySem.W.Frag} {mg : Str → Option Value} {base : Heap}
theorem rf_tail3 (T : Txt K mg) {cdv : Value} {A : Around} {outer : List Env} {s : Shared} {H : Hp} {E : XK} (hG : A.guards = some []) (hr : Room 7 (A.deeper (envOfC "_law_refused" (defScope s__law_refused) s.heap.objs.size (He.ga K "_law_refused") cdv))) :
    ∃ tk : TS, PSs (cxOf CX0 P w K mg base N__law_refused "_law_refused" (defScope s__law_refused) (He.ga K "_law_refused") cdv A outer s H E).nox ((defBody s__law_refused).drop 3) tk ∧
      ∀ (Dn : Ends) (G : Hp) (a t ma ca : Addr) (D : RdD) (va : V) (A : PyData) (way : Int) (w7 : Option V), 0 ≤ way → way < 6 → WOk D → D.ns ∈ menuN → WorldS a t G D ma ca → RefS a G va (.str D.ns) (.ref ma) (.ref ca) A (.str D.ns) (rowsD D.mv) (rowD D.ac) → (∀ H', Fra a G H' → Dn.rt (.bl true) H') →
        tk Dn [some (.ref a), some (.ref t), some va, some (.str D.ns), some (.ref ma), some (.ref ca), some (.int way), w7] G := by
  obtain ⟨tk, htl, hq⟩ := rf_tail4 (P := P) (w := w) (base := base) (cdv := cdv) (A := A) (outer := outer) (s := s) (H := H) (E := E) T hG hr
  refine ⟨_, (pss_cons (ps_if (PW.pt (pw_or (pt_cmpR op_eq (pv 6) pe_int (nomark _)) (pw_or (pt_cmpR op_eq (pv 6) pe_int (nomark _)) (pw_or1 (pt_cmpR op_eq (pv 6) pe_int (nomark _)))))) (pss_cons (ps_set (i := 7) sc__law_refused.nd rfl (Or.inl rfl) (pe_lst (pa_cons pe_str (pa_cons pe_str (pa_cons pe_str (pa_cons pe_str (pa_cons pe_non (pa_cons (pe_callTy (call_listX rfl) (by rfl) (fr_list T) b_list (pa_cons (pv 3) pa_nil)) (pa_cons (pe_tup (pa_cons pe_str pa_nil)) (pa_cons pe_str (pa_cons pe_str (pa_cons (pe_op op_add_str (pv 3) pe_str) (pa_cons (pe_slice sl_str pe_str po_none (po_some (pe_callB call_len (by rfl) (fr_len T) boot_len (pa_cons (pv 3) pa_nil)))) (pa_cons pe_int pa_nil))))))))))))))
        (pss_one (ps_set (i := 3) sc__law_refused.nd rfl (Or.inl rfl) (pe_ix ix_list (pv 7) (pe_cal (ok_law_pick T) (hr.mono (by decide)) pass0 (pa_cons (pv 0) (pa_cons (pe_callB call_len (by rfl) (fr_len T) boot_len (pa_cons (pv 7) pa_nil)) pa_nil))) (fun _ _ => rfl))))) pss_nil)
        htl), ?_⟩
  intro Dn G a t ma ca D va A way w7 hw0 hw1 WO hns W R q
  have out := hq Dn G a t ma ca D va (.str D.ns) A (.str D.ns) way w7 hw0 hw1 WO W R q
  have hn4 : D.ns.length ≤ 100 := Nat.le_trans WO.rd.ns4 (by decide)
  have PN := @oddN_ok D.ns hns
  have lm : ∀ w6 : Option V, LayM a (fun _ => True) [some (.ref a), some (.ref t), some va, some (.str D.ns), some (.ref ma), some (.ref ca), w6, w7] AltOk _ 12 := fun w6 =>
    LayM.cons firm_true (lay_str (z := "yx") (PN 1 rfl)) (LayM.cons firm_true (lay_str (z := "xx") (PN 2 rfl)) (LayM.cons firm_true (lay_str (z := "a") (PN 3 rfl)) (LayM.cons firm_true (lay_str (z := "uvwxy") (PN 4 rfl)) (LayM.cons firm_true (lay_non (PN 5 rfl)) (LayM.cons firm_true (lay_list (i := 3) (z := D.ns) rfl hn4 (PN 6 rfl))
      (LayM.cons firm_true (lay_tup1 (lay_str (z := "x") (Pd := fun d => d = .str "x") rfl) (fun d e => by subst e; exact PN 7 rfl)) (LayM.cons firm_true (lay_str (z := "X") (PN 8 rfl)) (LayM.cons firm_true (lay_str (z := " ") (PN 9 rfl)) (LayM.cons firm_true (lay_add (i := 3) (z := D.ns) (y := "z") rfl hn4 (by decide) (PN 10 rfl)) (LayM.cons firm_true (lay_cutn (K := K) (i := 3) (z := D.ns) (y := "vwyz") rfl (Nat.le_trans hn4 (by decide)) (by decide) (PN 11 rfl)) (LayM.cons firm_true (lay_int (i := 0) (PN 12 rfl)) LayM.nil)))))))))))
  have hw : way = 0 ∨ way = 1 ∨ way = 2 ∨ way = 3 ∨ way = 4 ∨ way = 5 := by omega
  have fin : ∀ (b : Addr) (G1 : Hp) (v : V) (d : PyData), Fra a G G1 → Rp (del G1 a) v d → AltOk d → tk Dn [some (.ref a), some (.ref t), some va, some v, some (.ref ma), some (.ref ca), some (.int way), some (.ref b)] G1 := fun b G1 v d f rv ok =>
    hq Dn G1 a t ma ca D va v A d way _ hw0 hw1 WO (W.fra f) ⟨f.src, R.ra.same f.sm, rv, R.rm.same f.sm, R.rc.same f.sm, R.oa, ok, R.sm, R.sc⟩ fun H2 f2 => q H2 (f.trans f2)
  rcases hw with rfl | rfl | rfl | rfl | rfl | rfl
  · exact ⟨.int 0, rfl, rfl, _, rfl, iteF ⟨.int 0, rfl, rfl, _, rfl, iteF ⟨.int 0, rfl, rfl, _, rfl, iteF out⟩⟩⟩
  · refine ⟨.int 1, rfl, rfl, _, rfl, iteT (iteT (seq_asg (menu_lst (lm (some (.int 1))) (by decide) W.src trivial fun b G1 vs ds f1 hb hv hn hd => ?_)))⟩
    refine asg0 ⟨.ref b, rfl, .ref a, rfl, .ref b, rfl, .ref b, _, rfl, .inl ⟨_, SqL.of (del_le a _ _ hb), rfl⟩, ?_⟩
    exact pick_from f1.src hb hv (by omega) (by omega) fun v G2 d f2 rv hm => fin b G2 v d (f1.trans f2) rv (hd d hm)
  · exact ⟨.int 2, rfl, rfl, _, rfl, iteF ⟨.int 2, rfl, rfl, _, rfl, iteF ⟨.int 2, rfl, rfl, _, rfl, iteF out⟩⟩⟩
  · exact ⟨.int 3, rfl, rfl, _, rfl, iteF ⟨.int 3, rfl, rfl, _, rfl, iteF ⟨.int 3, rfl, rfl, _, rfl, iteF out⟩⟩⟩
  · refine ⟨.int 4, rfl, rfl, _, rfl, iteF ⟨.int 4, rfl, rfl, _, rfl, iteT (iteT (seq_asg (menu_lst (lm (some (.int 4))) (by decide) W.src trivial fun b G1 vs ds f1 hb hv hn hd => ?_)))⟩⟩
    refine asg0 ⟨.ref b, rfl, .ref a, rfl, .ref b, rfl, .ref b, _, rfl, .inl ⟨_, SqL.of (del_le a _ _ hb), rfl⟩, ?_⟩
    exact pick_from f1.src hb hv (by omega) (by omega) fun v G2 d f2 rv hm => fin b G2 v d (f1.trans f2) rv (hd d hm)
  · refine ⟨.int 5, rfl, rfl, _, rfl, iteF ⟨.int 5, rfl, rfl, _, rfl, iteF ⟨.int 5, rfl, rfl, _, rfl, iteT (seq_asg (menu_lst (lm (some (.int 5))) (by decide) W.src trivial fun b G1 vs ds f1 hb hv hn hd => ?_))⟩⟩⟩
    refine asg0 ⟨.ref b, rfl, .ref a, rfl, .ref b, rfl, .ref b, _, rfl, .inl ⟨_, SqL.of (del_le a _ _ hb), rfl⟩, ?_⟩
    exact pick_from f1.src hb hv (by omega) (by omega) fun v G2 d f2 rv hm => fin b G2 v d (f1.trans f2) rv (hd d hm)
end
end Kx
set_option Elab.async false
set_option linter.all false
set_option maxRecDepth 100000
set_option maxHeartbeats 4000000
namespace Kx
open PySem PySem.Spec PyProof.Rows L2
section
variable {P : Program} {w : World} {K : PySem.W.Frag} {mg : Str → Option Value} {base : Heap}
def sp_law_refused : Sp := fun vs H Q _ => ∃ (a : Addr) (v : V) (D : RdD), vs = [.ref a, v] ∧ SrcAt H a ∧ WAt (del H a) v D ∧ WOk D ∧ D.al ∈ menuB ∧ D.ns ∈ menuN ∧ ∀ H', Fra a H H' → Q (.bl true) H'
theorem row_ref {H : Hp} {v : V} {m : List Nat} (h : Rp H v (rowD m)) : ∃ c, v = .ref c := by
  cases h with
  | lst e _ => exact ⟨_, rfl⟩
theorem ok_law_refused (T : Txt K mg) : CalG P w K mg base CX0 8 "_law_refused" ["_law_source_here", "_law_world_here"] sp_law_refused := by
  obtain ⟨fd, F⟩ := F__law_refused T
  refine calG_mk F (g__law_refused T) sc__law_refused (fun _ _ _ _ _ _ us hl => match us, hl with | [_, _], _ => rfl) (fun vs H Q E h => ?_) (fun cdv A outer s H vs Q E hG hr h => ?_)
  · obtain ⟨a, v, D, rfl, _⟩ := h; rfl
  · obtain ⟨tk, htl, hq⟩ := rf_tail3 (P := P) (w := w) (base := base) (cdv := cdv) (A := A) (outer := outer) (s := s) (H := H) (E := E) T hG hr
    refine ⟨_, PSs.nox (pss_cons (ps_asg (pv 1) (pg_tup rfl (pgs_cons (pg_name (i := 2) sc__law_refused.nd rfl (Or.inl rfl)) (pgs_cons (pg_name (i := 3) sc__law_refused.nd rfl (Or.inl rfl)) (pgs_cons (pg_name (i := 4) sc__law_refused.nd rfl (Or.inl rfl)) (pgs_cons (pg_name (i := 5) sc__law_refused.nd rfl (Or.inl rfl)) pgs_nil))))))
        (pss_cons (ps_set (i := 6) sc__law_refused.nd rfl (Or.inl rfl) (pe_cal (ok_law_pick T) (hr.mono (by decide)) pass0 (pa_cons (pv 0) (pa_cons pe_int pa_nil))))
        (pss_cons (ps_if (PW.pt (pw_or (pt_cmpR op_eq (pv 6) pe_int (nomark _)) (pw_or1 (pt_cmpR op_eq (pv 6) pe_int (nomark _))))) (pss_cons (ps_set (i := 7) sc__law_refused.nd rfl (Or.inl rfl) (pe_lst (pa_cons pe_str (pa_cons (pe_op op_add_str (pv 2) (pe_slice sl_str (pv 2) po_none (po_some pe_int))) (pa_cons (pe_op op_add_str (pe_slice sl_str (pv 2) po_none (po_some pe_int)) pe_str) (pa_cons pe_str (pa_cons pe_non (pa_cons (pe_callTy (call_listX rfl) (by rfl) (fr_list T) b_list (pa_cons (pv 2) pa_nil)) (pa_cons pe_str (pa_cons pe_str (pa_cons pe_int (pa_cons (pe_slice sl_str pe_str po_none (po_some (pe_callB call_len (by rfl) (fr_len T) boot_len (pa_cons (pv 2) pa_nil)))) (pa_cons pe_str (pa_cons (pe_op op_add_str (pv 2) pe_str) pa_nil))))))))))))))
        (pss_one (ps_set (i := 2) sc__law_refused.nd rfl (Or.inl rfl) (pe_ix ix_list (pv 7) (pe_cal (ok_law_pick T) (hr.mono (by decide)) pass0 (pa_cons (pv 0) (pa_cons (pe_callB call_len (by rfl) (fr_len T) boot_len (pa_cons (pv 7) pa_nil)) pa_nil))) (fun _ _ => rfl))))) pss_nil)
        htl))), ?_⟩
    obtain ⟨a, v, D, rfl, hs, WA, WO, hal, hns, q⟩ := h
    obtain ⟨t, vm, vc, rfl, h1, h2, h3⟩ := WA
    obtain ⟨ma, bs0, rfl, hma, _, _⟩ := rp_list h2
    obtain ⟨ca, rfl⟩ := row_ref h3
    have W0 : WorldS a t H D ma ca := ⟨hs, h1, h2, h3⟩
    refine ⟨.ref t, rfl, t, _, rfl, SqT.of (del_le a _ _ h1), rfl, _, _, rfl, _, _, rfl, _, _, rfl, _, _, rfl, rfl, ?_⟩
    refine ⟨.ref a, rfl, ?_⟩
    refine ⟨_, _, rfl, (by omega), (by omega), hs, fun qA qS qC way hw0 hw1 => ?_⟩
    have f1 : Fra a H (upd H a (three qA qS qC)) := Fra.drawn qA qS qC
    revert f1
    generalize upd H a (three qA qS qC) = G
    intro f1
    have W := W0.fra f1
    have hrow : ∀ m ∈ D.mv, 1 ≤ m.length ∧ m.length ≤ 128 := fun m hm => by
      rw [WO.mv.row m hm]
      obtain ⟨t1, t2⟩ := two_le WO.rd.ns4
      exact ⟨Nat.mul_pos WO.rd.al8.1 t1, Nat.le_trans (Nat.mul_le_mul WO.rd.al8.2 t2) (by decide)⟩
    have smM : smallR (rowsD D.mv) := smallR_list (by rw [List.length_map]; exact Nat.le_trans WO.mv.le (by decide)) fun x hx => by
      obtain ⟨m, hm, rfl⟩ := List.mem_map.mp hx
      exact smallD_row (by have := hrow m hm; omega)
    have smC : smallL (rowD D.ac) := smallL_list (by rw [List.length_map]; exact Nat.le_trans (ac_len WO) (by decide))
    have PA := @oddA_ok D.al hal
    have okN : AltOk (.str D.ns) := oddN_ok hns 0 rfl
    have hal8 : D.al.length ≤ 100 := Nat.le_trans WO.rd.al8.2 (by decide)
    let Dn : Ends := { nx := fun _ H' => Q .non H', rt := Q }
    have fin : ∀ (G1 : Hp) (v : V) (d : PyData) (w7 : Option V), Fra a G G1 → Rp (del G1 a) v d → AltOk d → tk Dn [some (.ref a), some (.ref t), some v, some (.str D.ns), some (.ref ma), some (.ref ca), some (.int way), w7] G1 := fun G1 v d w7 f rv ok =>
      hq Dn G1 a t ma ca D v d way w7 hw0 hw1 WO hns (W.fra f) ⟨f.src, rv, .str _, W.rm.same f.sm, W.rc.same f.sm, ok, okN, smM, smC⟩ fun H2 f2 => q H2 (f1.trans (f.trans f2))
    have out := fin G (.str D.al) (.str D.al) none (Fra.refl f1.src) (.str _) (PA 0 rfl)
    have lm : LayM a (fun _ => True) [some (.ref a), some (.ref t), some (.str D.al), some (.str D.ns), some (.ref ma), some (.ref ca), some (.int way), none] AltOk _ 12 :=
      LayM.cons firm_true (lay_str (z := "") (PA 1 rfl)) (LayM.cons firm_true (lay_dbl (i := 2) (z := D.al) rfl hal8 (PA 2 rfl)) (LayM.cons firm_true (lay_cutadd (i := 2) (z := D.al) (y := "i") rfl hal8 (by decide) (PA 3 rfl)) (LayM.cons firm_true (lay_str (z := "B") (PA 4 rfl)) (LayM.cons firm_true (lay_non (PA 5 rfl)) (LayM.cons firm_true (lay_list (i := 2) (z := D.al) rfl hal8 (PA 6 rfl))
        (LayM.cons firm_true (lay_str (z := "abcdefghi") (PA 7 rfl)) (LayM.cons firm_true (lay_str (z := "ba") (PA 8 rfl)) (LayM.cons firm_true (lay_int (i := 3) (PA 9 rfl)) (LayM.cons firm_true (lay_cutn (K := K) (i := 2) (z := D.al) (y := "efgh") rfl (Nat.le_trans hal8 (by decide)) (by decide) (PA 10 rfl)) (LayM.cons firm_true (lay_str (z := "a b") (PA 11 rfl)) (LayM.cons firm_true (lay_add (i := 2) (z := D.al) (y := "h") rfl hal8 (by decide) (PA 12 rfl)) LayM.nil)))))))))))
    have hw : way = 0 ∨ way = 1 ∨ way = 2 ∨ way = 3 ∨ way = 4 ∨ way = 5 := by omega
    rcases hw with rfl | rfl | rfl | rfl | rfl | rfl
    · refine ⟨.int 0, rfl, rfl, _, rfl, iteT (iteT (seq_asg (menu_lst lm (by decide) f1.src trivial fun b G1 vs ds f2 hb hv hn hd => ?_)))⟩
      refine asg0 ⟨.ref b, rfl, .ref a, rfl, .ref b, rfl, .ref b, _, rfl, .inl ⟨_, SqL.of (del_le a _ _ hb), rfl⟩, ?_⟩
      exact pick_from f2.src hb hv (by omega) (by omega) fun v G2 d f3 rv hm => fin G2 v d _ (f2.trans f3) rv (hd d hm)
    · exact ⟨.int 1, rfl, rfl, _, rfl, iteF ⟨.int 1, rfl, rfl, _, rfl, iteF out⟩⟩
    · exact ⟨.int 2, rfl, rfl, _, rfl, iteF ⟨.int 2, rfl, rfl, _, rfl, iteF out⟩⟩
    · exact ⟨.int 3, rfl, rfl, _, rfl, iteF ⟨.int 3, rfl, rfl, _, rfl, iteF out⟩⟩
    · refine ⟨.int 4, rfl, rfl, _, rfl, iteF ⟨.int 4, rfl, rfl, _, rfl, iteT (seq_asg (menu_lst lm (by decide) f1.src trivial fun b G1 vs ds f2 hb hv hn hd => ?_))⟩⟩
      refine asg0 ⟨.ref b, rfl, .ref a, rfl, .ref b, rfl, .ref b, _, rfl, .inl ⟨_, SqL.of (del_le a _ _ hb), rfl⟩, ?_⟩
      exact pick_from f2.src hb hv (by omega) (by omega) fun v G2 d f3 rv hm => fin G2 v d _ (f2.trans f3) rv (hd d hm)
    · exact ⟨.int 5, rfl, rfl, _, rfl, iteF ⟨.int 5, rfl, rfl, _, rfl, iteF out⟩⟩
end
end Kx
set_option Elab.async false
set_option linter.all false
set_option maxRecDepth 100000
set_option maxHeartbeats 4000000
namespace Kx
open PySem PySem.Spec PyProof.Rows L2
theorem ints_of {H : Hp} {m : Int} : ∀ {xs : List V} {ds : List PyData}, RpL H xs ds → ds.all (belowD m) = true → xs = (ds.map intD).map V.int
  | _, _, .nil, _ => rfl
  | _, _, .cons (d := d) h t, hb => by
    rw [List.all_cons, Bool.and_eq_true] at hb
    cases d with
    | int i =>
      cases h
      rw [List.map_cons, List.map_cons, ← ints_of t hb.2]
      rfl
    | _ => exact Bool.noConfusion hb.1
theorem shown_m1 : (PyData.int (-1)).shown = ("-1" : Str) := by decide +kernel
def restV (D : RdD) (z : Str) (pd : PyData) : List V := if moveD D.ns.length z.length pd = true then [.bl (accepts D z.cps.toList (placesI pd))] else [.str "thing", .str "BadPlaces", .str pd.shown]
section
variable {P : Program} {w : World} {K : PySem.W.Frag} {mg : Str → Option Value} {base : Heap}
def sp_law_call_due : Sp := fun vs H Q _ => ∃ (v rv pv : V) (D : RdD) (d pd : PyData), vs = [v, rv, pv] ∧ WAt H v D ∧ WOk D ∧ Rp H rv d ∧ smallT d ∧ Rp H pv pd ∧ smallD pd ∧ ReprPl pd ∧
  ∀ H' t, Same H H' → H' t = some (.lst (calledV D d pd)) → Q (.ref t) H'
theorem cd_tail (T : Txt K mg) {cdv : Value} {A : Around} {outer : List Env} {s : Shared} {H : Hp} {E : XK} (hG : A.guards = some []) (hr : Room 3 (A.deeper (envOfC "_law_call_due" (defScope s__law_call_due) s.heap.objs.size (He.ga K "_law_call_due") cdv))) :
    ∃ tk : TS, PSs (cxOf CX0 P w K mg base N__law_call_due "_law_call_due" (defScope s__law_call_due) (He.ga K "_law_call_due") cdv A outer s H E).nox ((defBody s__law_call_due).drop 2) tk ∧
      ∀ (Dn : Ends) (G : Hp) (t : Addr) (D : RdD) (z : Str) (pv : V) (pd : PyData) (w3 : Option V), WAt G (.ref t) D → WOk D → z.length ≤ 200 → (∀ c ∈ z.cps.toList, c ∈ D.al.cps.toList) → Rp G pv pd → smallD pd → ReprPl pd →
        (∀ H' r, Same G H' → H' r = some (.lst (restV D z pd)) → Dn.rt (.ref r) H') →
        tk Dn [some (.ref t), some (.str z), some pv, w3, none] G := by
  refine ⟨_, (pss_cons (ps_if (PW.pt (pw_or (pt_not (pt_val (pe_cal (ok_law_listed T) (hr.mono (by decide)) pass0 (pa_cons (pv 2) pa_nil)))) (pw_or1 (pt_cmpR op_ne (pe_callB call_len (by rfl) (fr_len T) boot_len (pa_cons (pv 2) pa_nil)) (pe_callB call_len (by rfl) (fr_len T) boot_len (pa_cons (pe_ix ix_tup (pv 0) pe_int (fun _ _ => rfl)) pa_nil)) (nomark _))))) (pss_one (ps_ret (pe_lst (pa_cons pe_str (pa_cons pe_str (pa_cons (pe_callB (call_reprA hG (hu64 hr)) (by rfl) (fr_repr T) b_repr (pa_cons (pv 2) pa_nil)) pa_nil)))))) pss_nil)
        (pss_cons (ps_if (pt_not (pt_val (pe_callB (cr_all rfl) (by rfl) (fr_all T) b_all (pa_cons (pe_lc (te := tCall (sp_law_is_number K) [] E0 (tCons (tVar 4) (tCons (tC (.int 0)) (tCons (tOp (rI0 fun i j => .int (i - j)) (tCB (rLen K) (tCons (tVar 1) tNil)) (tC (.int 1))) tNil)))) (own := [("_law_place", 4)]) (g := (gName 4)) (tt := tYes) rfl sc__law_call_due.nd  (pi_seq (pv 2)) (blkOk_by (N := N__law_call_due) (sc := defScope s__law_call_due) (by decide +kernel)) (fun _ _ _ _ _ => (pg_name (i := 4) sc__law_call_due.nd rfl (Or.inl rfl))) (fun _ _ _ _ _ => pts_nil) (fun _ _ _ _ _ => by refine pe_cal (ok_law_is_number T) (hr.mono (by decide)) pass0 (pa_cons (pv 4) (pa_cons pe_int (pa_cons (pe_op op_sub ?_ pe_int) pa_nil))); exact pe_callB call_len (by rfl) (fr_len T) boot_len (pa_cons (pv 1) pa_nil))) pa_nil)))) (pss_one (ps_ret (pe_lst (pa_cons pe_str (pa_cons pe_str (pa_cons (pe_callB (call_reprA hG (hu64 hr)) (by rfl) (fr_repr T) b_repr (pa_cons (pv 2) pa_nil)) pa_nil)))))) pss_nil)
        (pss_one (ps_ret (pe_lst (pa_cons (pe_cal (ok_law_reads T) (hr.mono (by decide)) pass0 (pa_cons (pv 0) (pa_cons (pv 1) (pa_cons (pv 2) pa_nil)))) pa_nil)))))), ?_⟩
  intro Dn G t D z pv pd w3 WA WO hz hal rp smd rok q
  have WA' := WA
  obtain ⟨t', vm, vc, e, h1, _, _⟩ := WA'
  cases e
  have hn4 := WO.rd.ns4
  have bad : moveD D.ns.length z.length pd = false → ∀ G', Same G G' → rReprA K [pv] G' (fun y H2 => 3 ≤ sizeLine ∧ ∀ t, H2 t = none → Dn.rt (.ref t) (upd H2 t (.lst [.str "thing", .str "BadPlaces", y]))) := fun hb G' sG => by
    refine repr_pl (.inl (rp.same sG)) rok ⟨by decide, fun t ht => q _ _ (sG.trans (same_upd ht)) ?_⟩
    rw [upd_same]
    unfold restV
    rw [if_neg (by rw [hb]; exact Bool.false_ne_true)]
  refine ⟨pv, rfl, pv, kd pd, rfl, rp.ko, _, rfl, ?_⟩
  cases hb : (kd pd == Kd.lst || kd pd == Kd.tup) with
  | false =>
    have e : moveD D.ns.length z.length pd = false := by unfold moveD; rw [itemsD_none hb]
    exact iteT (iteT ⟨pv, rfl, bad e G (Same.refl _)⟩)
  | true =>
    obtain ⟨ds, hds⟩ := itemsD_kd hb
    obtain ⟨b, xs, rfl, hxs, hsq⟩ := rp_seq rp hds
    have hl : xs.length = ds.length := hxs.length
    have hdl := smd ds hds
    have em : moveD D.ns.length z.length pd = (decide ((ds.length : Int) = ((D.ns.length : Nat) : Int)) && ds.all (belowD z.length)) := by unfold moveD; rw [hds]
    refine iteF ⟨_, rfl, _, _, rfl, lenV_seq hsq, .ref t, rfl, t, _, 1, .str D.ns, rfl, rfl, SqT.of h1, rfl, .str D.ns, _, rfl, lenV_str (by omega), rfl, _, rfl, ?_⟩
    rw [show decide (V.int ((xs.length : Nat) : Int) = V.int ((D.ns.length : Nat) : Int)) = decide (((ds.length : Nat) : Int) = ((D.ns.length : Nat) : Int)) from by rw [dec_int, hl]]
    by_cases hlm : ((ds.length : Nat) : Int) = ((D.ns.length : Nat) : Int)
    · rw [decide_eq_true hlm]
      rw [decide_eq_true hlm, Bool.true_and] at em
      refine iteF ⟨.ref b, rfl, b, xs, rfl, ?_⟩
      have hsq' := hsq
      rcases hsq' with h | h
      case' inl => refine Or.inl ⟨SqL.of h, fun J WJ DD hD => ?_⟩
      case' inr => refine Or.inr ⟨SqT.of h, fun J WJ DD hD => ?_⟩
      all_goals
        refine lc_new WJ hD (by rw [hl]; exact Nat.le_trans hdl (by decide)) (fun (i : Nat) _ v => ∀ x, ds[i]? = some x → v = V.bl (belowD z.length x)) (fun _ _ _ _ _ h => h) (fun G3 s => by first | exact SqL.of (s _ _ h) | exact SqT.of (s _ _ h))
          (fun k x G3 G4 Qk hk sH hy2 hkk => ?_) (fun G3 acc s4 hD4 hla hacc => ?_)
        · obtain ⟨rfl, hx3⟩ := hy2
          obtain ⟨dx, hdx, rx⟩ := hxs.get hx3
          have rx2 := rx.same sH
          refine ⟨rfl, x, rfl, .str z, rfl, _, _, rfl, lenV_str (by omega), _, 1, rfl, rfl, x, 0, _, _, rfl, rx2.ko, hkk _ _ (Same.refl _) fun y hy => ?_⟩
          rw [hdx] at hy
          cases hy
          rw [rp_num rx2, num_below]
        · have ea : acc = (ds.map fun x => belowD z.length x).map V.bl := by
            refine bls_of (by rw [List.length_map, hla, hl]) fun i v hv b hb => ?_
            rw [List.getElem?_map] at hb
            obtain ⟨x, hx, rfl⟩ := Option.map_eq_some_iff.mp hb
            exact hacc i v hv x hx
          refine ⟨DD, _, rfl, SqL.of (by rw [hD4, ea]), ?_⟩
          have e2 : (ds.map fun x => belowD z.length x).all id = ds.all (belowD z.length) := by
            rw [List.all_map]
            rfl
          refine ⟨_, rfl, ?_⟩
          rw [e2]
          cases hb2 : ds.all (belowD z.length) with
          | false =>
            rw [hb2] at em
            exact iteT ⟨.ref b, rfl, bad em _ s4⟩
          | true =>
            rw [hb2] at em
            have ex := ints_of hxs hb2
            have eps : placesI pd = ds.map intD := by unfold placesI; rw [hds]; rfl
            refine iteF ⟨.ref t, rfl, .str z, rfl, .ref b, rfl, .ref t, .ref b, D, z, ds.map intD, rfl, WA.same s4, WO, hz, hal, ⟨b, rfl, by rw [ex] at hsq; exact hsq.imp (fun z => s4 _ _ z) (fun z => s4 _ _ z)⟩, by rw [List.length_map]; omega, fun H5 s5 => ⟨by show 1 ≤ sizeLine; decide, fun r hr9 => q _ _ (s4.trans (s5.trans (same_upd hr9))) ?_⟩⟩
            rw [upd_same]
            unfold restV
            rw [if_pos em, eps]
    · rw [decide_eq_false hlm]
      rw [decide_eq_false hlm, Bool.false_and] at em
      exact iteT ⟨.ref b, rfl, bad em G (Same.refl _)⟩
end
end Kx
set_option Elab.async false
set_option linter.all false
set_option maxRecDepth 100000
set_option maxHeartbeats 4000000
namespace Kx
open PySem PySem.Spec PyProof.Rows L2
section
variable {P : Program} {w : World} {K : PySem.W.Frag} {mg : Str → Option Value} {base : Heap}
theorem ok_law_call_due (T : Txt K mg) : CalG P w K mg base CX0 4 "_law_call_due" ["_law_world_here", "_law_row", "_law_places"] sp_law_call_due := by
  obtain ⟨fd, F⟩ := F__law_call_due T
  refine calG_mk F (g__law_call_due T) sc__law_call_due (fun _ _ _ _ _ _ us hl => match us, hl with | [_, _, _], _ => rfl) (fun vs H Q E h => ?_) (fun cdv A outer s H vs Q E hG hr h => ?_)
  · obtain ⟨v, rv, pv, D, d, pd, rfl, _⟩ := h; rfl
  · obtain ⟨tk, htl, hq⟩ := cd_tail (P := P) (w := w) (base := base) (cdv := cdv) (A := A) (outer := outer) (s := s) (H := H) (E := E) T hG hr
    refine ⟨_, PSs.nox (pss_cons (ps_if (PW.pt (pw_or (pt_not (pt_val (pe_callB call_isB (by rfl) (fr_isinstance T) b_isinstance (pa_cons (pv 1) (pa_cons (pe_ty (fr_str T) b_str) pa_nil))))) (pw_or1 (pt_cmpR op_gt (pe_callB call_len (by rfl) (fr_len T) boot_len (pa_cons (pv 1) pa_nil)) pe_int (nomark _))))) (pss_one (ps_ret (pe_lst (pa_cons pe_str (pa_cons pe_str pa_nil))))) pss_nil)
        (pss_cons (ps_for PassesOwn.never rfl (pi_range1 (by rfl) (fr_range T) (pa_cons (pe_callB call_len (by rfl) (fr_len T) boot_len (pa_cons (pv 1) pa_nil)) pa_nil)) (pg_name (i := 3) sc__law_call_due.nd rfl (Or.inl rfl)) (pss_one (ps_if (pt_cmpR op_notIn_sign (pe_ix ix_seq (pv 1) (pv 3) (fun _ _ => rfl)) (pe_ix ix_tup (pv 0) pe_int (fun _ _ => rfl)) rfl) (pss_one (ps_ret (pe_lst (pa_cons pe_str (pa_cons (pe_callB (call_repr hG (hu64 hr)) (by rfl) (fr_repr T) b_repr (pa_cons (pv 3) pa_nil)) pa_nil))))) pss_nil)))
        htl)), ?_⟩
    obtain ⟨v, rv, pv, D, d, pd, rfl, WA, WO, rd, smt, rp, smd, rok, q⟩ := h
    have WA' := WA
    obtain ⟨t, vm, vc, rfl, h1, _, _⟩ := WA'
    have none1 : wrongL D.al.cps.toList d = some (-1) → (2 ≤ sizeLine ∧ ∀ l, H l = none → Q (.ref l) (upd H l (.lst [.str "BadRow", .str "-1"]))) := fun hw => by
      refine ⟨by decide, fun l hl => q _ _ (same_upd hl) ?_⟩
      rw [upd_same]
      unfold calledV
      rw [hw]
      show some (HO.lst [V.str "BadRow", V.str "-1"]) = some (HO.lst [V.str "BadRow", V.str (PyData.int (-1)).shown])
      rw [shown_m1]
    refine ⟨rv, rfl, rv, "str", kd d, rfl, rd.ko, k_str _, _, rfl, ?_⟩
    cases hk : (kd d).is "str" with
    | false =>
      have hw : wrongL D.al.cps.toList d = some (-1) := by
        cases d <;> first | rfl | (exact Bool.noConfusion hk)
      exact iteT (iteT (none1 hw))
    | true =>
      obtain ⟨z, rfl⟩ := kd_str hk
      have erv : rv = .str z := by cases rd; rfl
      subst erv
      have hzs := smt z rfl
      refine iteF ⟨.str z, rfl, .str z, _, rfl, lenV_str hzs, _, 200, rfl, rfl, _, rfl, ?_⟩
      by_cases hz : (200 : Int) < ((z.length : Nat) : Int)
      · rw [decide_eq_true hz]
        have hw : wrongL D.al.cps.toList (.str z) = some (-1) := by
          show (if z.length ≤ 200 then _ else some (-1)) = some (-1)
          rw [if_neg (by omega)]
        exact iteT (none1 hw)
      · rw [decide_eq_false hz]
        have hz' : z.length ≤ 200 := by omega
        have ewl : wrongL D.al.cps.toList (.str z) = firstNot D.al.cps.toList z.cps.toList 0 := by
          show (if z.length ≤ 200 then _ else some (-1)) = _
          rw [if_pos hz']
        have hzl : z.cps.toList.length = z.length := Array.length_toList
        refine iteF ⟨.str z, rfl, .str z, _, rfl, lenV_str hzs, _, rfl, (by omega), (by omega), ?_⟩
        rw [show (((z.length : Nat) : Int)).toNat = z.length by omega]
        refine for_it walk_range (fun i σ G => ∃ (v3 : Option V), σ = [some (.ref t), some (.str z), some pv, v3, none] ∧ Same H G ∧ ∀ (j : Nat) x, j < i → z.cps.toList[j]? = some x → x ∈ D.al.cps.toList)
          ⟨none, rfl, Same.refl _, fun j x hj => absurd hj (Nat.not_lt_zero _)⟩ (fun _ _ _ _ _ => trivial) ?_ ?_
        · rintro i x σ Gx G hi ⟨v3, rfl, sG, hall⟩ ⟨eH, ex0⟩
          replace eH := eH.symm
          subst eH
          replace ex0 : x = .int (i : Nat) := ex0.trans (congrArg V.int (Int.zero_add _))
          subst ex0
          have hi' : i < z.length := hi
          obtain ⟨c, hc⟩ : ∃ c, z.cps.toList[i]? = some c := ⟨_, List.getElem?_eq_getElem (by omega)⟩
          refine ⟨_, rfl, .int (i : Nat), rfl, rIx_str hzs hc ⟨.ref t, rfl, t, _, 0, .str D.al, rfl, rfl, SqT.of (sG _ _ h1), rfl, c, D.al, rfl, rfl, _, rfl, ?_⟩⟩
          by_cases hm : c ∈ D.al.cps.toList
          · rw [decide_eq_true hm]
            refine iteF ⟨_, rfl, sG, fun j x hj hx => ?_⟩
            by_cases hji : j < i
            · exact hall j x hji hx
            · have : j = i := by omega
              subst this
              rw [hc] at hx
              cases hx
              exact hm
          · rw [decide_eq_false hm]
            have hw : wrongL D.al.cps.toList (.str z) = some ((i : Nat) : Int) := by
              rw [ewl, firstNot_at hc hall hm, Nat.zero_add]
            have ok := reprOk_int (wrongL_lt hw)
            refine iteT ⟨_, rfl, _, _, rfl, .int _, ok.sh, ok.nd, ok.dp, ok.sz, (by show 2 ≤ sizeLine; decide), fun l hl => q _ _ (sG.trans (same_upd hl)) ?_⟩
            rw [upd_same]
            unfold calledV
            rw [hw]
        · rintro σ G ⟨v3, rfl, sG, hall⟩
          have hal : ∀ c ∈ z.cps.toList, c ∈ D.al.cps.toList := fun c hc => by
            obtain ⟨j, hj⟩ := mem_get hc
            have := (List.getElem?_eq_some_iff.mp hj).1
            exact hall j c (by omega) hj
          refine hq _ G t D z pv pd v3 (WA.same sG) WO hz' hal (rp.same sG) smd rok fun H' r s' e => q H' r (sG.trans s') ?_
          rw [e]
          unfold calledV
          rw [wrongL_ok hz' hal]
          rfl
end
end Kx
set_option Elab.async false
set_option linter.all false
set_option maxRecDepth 100000
set_option maxHeartbeats 4000000
namespace Kx
open PySem PySem.Spec PyProof.Rows L2
theorem strOk_app {x y : Str} (hx : PyData.strOk x = true) (hy : PyData.strOk y = true) : PyData.strOk (x ++ y) = true := by
  unfold PyData.strOk at *
  show (x.cps ++ y.cps).all _ = true
  rw [← Array.all_toList, List.all_eq_true] at *
  intro c hc
  rw [Array.toList_append] at hc
  rcases List.mem_append.mp hc with h | h
  · exact hx c h
  · exact hy c h
theorem len_appS (x y : Str) : (x ++ y).length = x.length + y.length := PySem.strLen_append x y
theorem from_len : ∀ (ts : List Str) (k : Nat) (acc : Str), (∀ t ∈ ts, t.length ≤ 60) → (textFrom k acc ts).length ≤ acc.length + 62 * ts.length
  | [], _, _, _ => Nat.le_refl _
  | t :: r, k, acc, h => by
    have ih := from_len r (k + 1) (acc ++ (if k > 0 then ", " else "" : String) ++ t) fun x hx => h x (List.mem_cons_of_mem _ hx)
    have e : (acc ++ (if k > 0 then ", " else "" : String) ++ t).length ≤ acc.length + 2 + t.length := by
      rw [len_appS, len_appS]
      have : (Str.ofString (if k > 0 then ", " else "" : String)).length ≤ 2 := by
        split <;> decide
      omega
    have ht := h t (List.mem_cons_self ..)
    show (textFrom (k + 1) (acc ++ (if k > 0 then ", " else "" : String) ++ t) r).length ≤ _
    rw [List.length_cons]
    omega
theorem from_ok : ∀ (ts : List Str) (k : Nat) (acc : Str), PyData.strOk acc = true → (∀ t ∈ ts, PyData.strOk t = true) → PyData.strOk (textFrom k acc ts) = true
  | [], _, _, ha, _ => ha
  | t :: r, k, acc, ha, h => from_ok r (k + 1) (acc ++ (if k > 0 then ", " else "" : String) ++ t) (strOk_app (strOk_app ha (by split <;> exact strOk_of _)) (h t (List.mem_cons_self ..))) fun x hx => h x (List.mem_cons_of_mem _ hx)
theorem joinT_len : ∀ (ts : List Str), (∀ t ∈ ts, t.length ≤ 60) → (Str.join ", " ts).length ≤ 62 * ts.length
  | [], _ => Nat.zero_le _
  | [x], h => by
    have := h x (List.mem_cons_self ..)
    show x.length ≤ _
    simp only [List.length_cons, List.length_nil]
    omega
  | x :: y :: r, h => by
    have ih := joinT_len (y :: r) fun z hz => h z (List.mem_cons_of_mem _ hz)
    have hx := h x (List.mem_cons_self ..)
    show (x ++ ", " ++ Str.join ", " (y :: r)).length ≤ _
    rw [len_appS, len_appS]
    have e2 : ((", " : String) : Str).length = 2 := rfl
    rw [List.length_cons]
    omega
theorem join_ok : ∀ (ts : List Str), (∀ t ∈ ts, PyData.strOk t = true) → PyData.strOk (Str.join ", " ts) = true
  | [], _ => by decide +kernel
  | [x], h => h x (List.mem_cons_self ..)
  | x :: y :: r, h => strOk_app (strOk_app (h x (List.mem_cons_self ..)) (strOk_of _)) (join_ok (y :: r) fun z hz => h z (List.mem_cons_of_mem _ hz))
/-- a plain thing -/
def atomB (d : PyData) : Bool := d.showable && (!d.hasDict && (decide (d.depth = 0) && (decide (d.shown.length ≤ 60) && PyData.strOk d.shown)))
structure ShowOk (d : PyData) : Prop where
  r : ReprPl d
  o : PyData.strOk d.shown = true
theorem showableAll_of : ∀ {ds : List PyData}, (∀ d ∈ ds, atomB d = true) → PyData.showableAll ds = true ∧ PyData.hasDictAll ds = false ∧ PyData.depthAll ds = 0 ∧ (∀ t ∈ PyData.shownAll ds, t.length ≤ 60 ∧ PyData.strOk t = true) ∧ (PyData.shownAll ds).length = ds.length
  | [], _ => by
    refine ⟨by simp only [PyData.showableAll], by simp only [PyData.hasDictAll], by simp only [PyData.depthAll], ?_, by simp only [PyData.shownAll]; rfl⟩
    intro t ht
    simp only [PyData.shownAll] at ht
    cases ht
  | d :: ds, h => by
    obtain ⟨h1, h2, h3, h4, h5⟩ := showableAll_of fun x hx => h x (List.mem_cons_of_mem _ hx)
    have hd := h d (List.mem_cons_self ..)
    unfold atomB at hd
    simp only [Bool.and_eq_true, decide_eq_true_eq, Bool.not_eq_true'] at hd
    obtain ⟨d1, d2, d3, d4, d5⟩ := hd
    refine ⟨by simp only [PyData.showableAll, d1, h1, Bool.and_true], by simp only [PyData.hasDictAll, d2, h2, Bool.or_false], by simp only [PyData.depthAll, d3, h3, Nat.max_self], fun t ht => ?_, by simp only [PyData.shownAll, List.length_cons, h5]⟩
    simp only [PyData.shownAll] at ht
    rcases List.mem_cons.mp ht with rfl | ht
    · exact ⟨d4, d5⟩
    · exact h4 t ht
theorem show_list {ds : List PyData} (hl : ds.length ≤ 20) (h : ∀ d ∈ ds, atomB d = true) : ShowOk (.list ds) := by
  obtain ⟨h1, h2, h3, h4, h5⟩ := showableAll_of h
  have hlen : (listText (PyData.shownAll ds)).length ≤ 2000 := by
    unfold listText
    rw [len_appS]
    have := from_len (PyData.shownAll ds) 0 "[" fun t ht => (h4 t ht).1
    have e1 : ((("[" : String) : Str)).length = 1 := rfl
    have e2 : ((("]" : String) : Str)).length = 1 := rfl
    omega
  refine ⟨.inr ⟨by simp only [PyData.showable, h1], by simp only [PyData.hasDict, h2], by simp only [PyData.depth, h3]; omega, .inr ?_⟩, ?_⟩
  · simp only [PyData.shown]
    exact Nat.le_trans hlen (by decide)
  · simp only [PyData.shown]
    exact strOk_app (from_ok _ _ _ (strOk_of _) fun t ht => (h4 t ht).2) (strOk_of _)
theorem show_tup {ds : List PyData} (hl : ds.length ≤ 20) (h : ∀ d ∈ ds, atomB d = true) : ShowOk (.tuple ds) := by
  obtain ⟨h1, h2, h3, h4, h5⟩ := showableAll_of h
  have hlen : (tupleText (PyData.shownAll ds)).length ≤ 2000 := by
    unfold tupleText
    rw [len_appS, len_appS]
    have := joinT_len (PyData.shownAll ds) fun t ht => (h4 t ht).1
    have e1 : ((("(" : String) : Str)).length = 1 := rfl
    have e2 : (Str.ofString (if (PyData.shownAll ds).length == 1 then ",)" else ")" : String)).length ≤ 2 := by
      split <;> decide
    omega
  refine ⟨.inr ⟨by simp only [PyData.showable, h1], by simp only [PyData.hasDict, h2], by simp only [PyData.depth, h3]; omega, .inr ?_⟩, ?_⟩
  · simp only [PyData.shown]
    exact Nat.le_trans hlen (by decide)
  · simp only [PyData.shown]
    unfold tupleText
    exact strOk_app (strOk_app (strOk_of _) (join_ok _ fun t ht => (h4 t ht).2)) (by split <;> exact strOk_of _)
/-- data handed as places -/
def PlcOk (d : PyData) : Prop := smallD d ∧ ShowOk d
theorem atom_int {i : Int} (h0 : 0 ≤ i) (h1 : i < 200) : atomB (.int i) = true := by
  have h : ∀ n : Fin 200, atomB (.int ((n.val : Nat) : Int)) = true := by decide +kernel
  obtain ⟨n, rfl⟩ := Int.eq_ofNat_of_zero_le h0
  exact h ⟨n, by omega⟩
theorem atom_ok {d : PyData} (h : atomB d = true) : ReprOk d ∧ PyData.strOk d.shown = true := by
  unfold atomB at h
  simp only [Bool.and_eq_true, decide_eq_true_eq, Bool.not_eq_true'] at h
  obtain ⟨d1, d2, d3, d4, d5⟩ := h
  exact ⟨⟨d1, d2, by omega, .inr (Nat.le_trans d4 (by decide))⟩, d5⟩
/-- what the law hands as places -/
def HandD (d : PyData) : Prop := (∃ ds, d = .list ds ∧ ds.length ≤ 20 ∧ ∀ x ∈ ds, atomB x = true) ∨ d = .none ∨ d = .str "0" ∨ d = .int 0 ∨ d = .dict [] ∨ d = .tuple []
theorem HandD.ok {d : PyData} (h : HandD d) : PlcOk d := by
  rcases h with ⟨ds, rfl, hl, ha⟩ | rfl | rfl | rfl | rfl | rfl
  · exact ⟨fun l e => by cases e; omega, show_list hl ha⟩
  · exact ⟨smallD_none rfl, ⟨.inr (atom_ok (by decide +kernel)).1, by decide +kernel⟩⟩
  · exact ⟨smallD_none rfl, ⟨.inr (atom_ok (by decide +kernel)).1, by decide +kernel⟩⟩
  · exact ⟨smallD_none rfl, ⟨.inr (atom_ok (by decide +kernel)).1, by decide +kernel⟩⟩
  · exact ⟨smallD_none rfl, ⟨.inl rfl, by decide +kernel⟩⟩
  · exact ⟨fun l e => by cases e; decide, show_tup (by decide) (fun x hx => by cases hx)⟩
theorem tup_ok {ds : List PyData} (hl : ds.length ≤ 20) (ha : ∀ x ∈ ds, atomB x = true) : PlcOk (.tuple ds) := ⟨fun l e => by cases e; omega, show_tup hl ha⟩
theorem op_repE {X : Cx} : OpR X (binaryOp .Mult) (fun x y H Q => ∃ (z : Str) (n : Nat), x = .str z ∧ y = .int (n : Nat) ∧ 2 ≤ n ∧ n ≤ 1000 ∧ z.length ≤ 1000 ∧ Q (.str (Txt.mul z (n : Nat))) H) := by
  intro pins s σ H x y v u Q I rx ry h
  obtain ⟨z, n, rfl, rfl, h0, h1, hz2, q⟩ := h
  obtain ⟨t, rfl⟩ := rx
  obtain ⟨t2, rfl⟩ := ry
  refine PySem.SB.mul ?_ fun t' k => ⟨.str _, H, I.tok _, ⟨_, rfl⟩, q⟩
  refine ⟨?_, fun h1 _ => ?_, fun h1 _ => ?_⟩
  · rw [Bool.or_eq_false_iff]
    exact ⟨decide_eq_false (by omega), decide_eq_false (by omega)⟩
  · intro hc
    have h2 : (z.length : Int) ≤ (2 ^ 63 - 1) / (n : Int) := by
      rw [Int.le_ediv_iff_mul_le (by omega)]
      have h3 : z.length * n ≤ 1000 * 1000 := Nat.mul_le_mul hz2 (by omega)
      have h4 : ((z.length : Nat) : Int) * (n : Nat) = ((z.length * n : Nat) : Int) := by rw [Int.natCast_mul]
      rw [h4]
      omega
    omega
  · refine decide_eq_false ?_
    have h9 : (1000000 : Nat) ≤ sizeLine := by decide
    have h3 : z.length * n ≤ 1000 * 1000 := Nat.mul_le_mul hz2 (by omega)
    have h5 : n * z.length ≤ 1000 * 1000 := Nat.mul_le_mul (by omega) hz2
    first
      | omega
      | (intro hc; simp at hc; omega)
theorem mul_le {z : Str} {n : Nat} (h2 : 2 ≤ n) : (Txt.mul z (n : Int)).length ≤ n * z.length := by
  by_cases hz : 1 ≤ z.length
  · exact Nat.le_of_eq (mul_len h2 hz)
  · unfold Txt.mul
    rw [if_neg (by omega), if_pos (by simp; omega)]
    exact Nat.le_mul_of_pos_left _ (by omega)
end Kx
set_option Elab.async false
set_option linter.all false
set_option maxRecDepth 100000
set_option maxHeartbeats 4000000
namespace Kx
open PySem PySem.Spec PyProof.Rows L2
theorem rIxL_0 {K : PySem.W.Frag} {H : Hp} {a : Addr} {xs : List V} {v : V} {Q : VK} (h : H a = some (.lst xs)) (e : xs[0]? = some v) (q : Q v H) : rIxL K (.ref a) (.int 0) H Q := rIxL_of (i := 0) h e q
def calledD (D : RdD) (d pd : PyData) : PyData := match wrongL D.al.cps.toList d with
  | some k => .list [.str "BadRow", .str (PyData.int k).shown]
  | none => if moveD D.ns.length (alS d).length pd = true then .list [.bool (accepts D (alS d).cps.toList (placesI pd))] else .list [.str "thing", .str "BadPlaces", .str pd.shown]
theorem called_dp {K : PySem.W.Frag} {H : Hp} {l : Addr} {D : RdD} {d pd : PyData} (h : H l = some (.lst (calledV D d pd))) : Dp K H (.ref l) (calledD D d pd) := by
  unfold calledV at h
  unfold calledD
  cases hw : wrongL D.al.cps.toList d with
  | some k =>
    rw [hw] at h
    exact .lst (SqL.of h) (.cons (.str _) (.cons (.str _) .nil))
  | none =>
    rw [hw] at h
    dsimp only at h ⊢
    by_cases hm : moveD D.ns.length (alS d).length pd = true
    · rw [if_pos hm] at h ⊢
      exact .lst (SqL.of h) (.cons (.bl _) .nil)
    · rw [if_neg hm] at h ⊢
      exact .lst (SqL.of h) (.cons (.str _) (.cons (.str _) (.cons (.str _) .nil)))
theorem called_ok {D : RdD} {d pd : PyData} (o : PyData.strOk pd.shown = true) : SeqAt.shaped (calledD D d pd) = true ∧ PyData.eqv (calledD D d pd) (calledD D d pd) = true := by
  have hstr : ∀ zs : List Str, (∀ z ∈ zs, PyData.strOk z = true) → SeqAt.shaped (.list (zs.map PyData.str)) = true ∧ PyData.eqv (.list (zs.map PyData.str)) (.list (zs.map PyData.str)) = true := fun zs h => ⟨shaped_strs h, eqv_strs h⟩
  unfold calledD
  cases hw : wrongL D.al.cps.toList d with
  | some k =>
    refine hstr ["BadRow", (PyData.int k).shown] fun z hz => ?_
    simp only [List.mem_cons, List.not_mem_nil, or_false] at hz
    rcases hz with rfl | rfl
    · exact strOk_of _
    · exact strOk_shown _
  | none =>
    dsimp only
    by_cases hm : moveD D.ns.length (alS d).length pd = true
    · rw [if_pos hm]
      cases accepts D (alS d).cps.toList (placesI pd) <;> decide +kernel
    · rw [if_neg hm]
      refine hstr ["thing", "BadPlaces", pd.shown] fun z hz => ?_
      simp only [List.mem_cons, List.not_mem_nil, or_false] at hz
      rcases hz with rfl | rfl | rfl
      · exact strOk_of _
      · exact strOk_of _
      · exact o
section
variable {P : Program} {w : World} {K : PySem.W.Frag} {mg : Str → Option Value} {base : Heap}
theorem cr_tail6 (T : Txt K mg) {cdv : Value} {A : Around} {outer : List Env} {s : Shared} {H : Hp} {E : XK} (hG : A.guards = some []) (hr : Room 7 (A.deeper (envOfC "_law_call_refused" (defScope s__law_call_refused) s.heap.objs.size (He.ga K "_law_call_refused") cdv))) :
    ∃ tk : TS, PSs (cxOf CX0 P w K mg base N__law_call_refused "_law_call_refused" (defScope s__law_call_refused) (He.ga K "_law_call_refused") cdv A outer s H E).nox ((defBody s__law_call_refused).drop 6) tk ∧
      ∀ (Dn : Ends) (G : Hp) (x t : Addr) (D : RdD) (rv pv : V) (d pd : PyData) (w0 w4 w5 w6 : Option V), RdAt K G x D → WAt G (.ref t) D → WOk D → Rp G rv d → smallT d → Rp G pv pd → PlcOk pd → (∀ H', Same G H' → Dn.rt (.bl true) H') →
        tk Dn [w0, some (.ref x), some (.ref t), some rv, w4, w5, w6, some pv, none, none, none] G := by
  refine ⟨_, (pss_cons (ps_set (i := 8) sc__law_call_refused.nd rfl (Or.inl rfl) (pe_calG (ok_law_called T) hG (hr.mono (by decide)) pass0 (pa_cons (pv 1) (pa_cons (pv 3) (pa_cons (pv 7) pa_nil)))))
        (pss_cons (ps_set (i := 9) sc__law_call_refused.nd rfl (Or.inl rfl) (pe_calG (ok_law_call_due T) hG (hr.mono (by decide)) pass0 (pa_cons (pv 2) (pa_cons (pv 3) (pa_cons (pv 7) pa_nil)))))
        (pss_cons (ps_if (PW.pt (pw_or (pt_cmpR op_ne (pe_callB call_len (by rfl) (fr_len T) boot_len (pa_cons (pv 8) pa_nil)) (pe_callB call_len (by rfl) (fr_len T) boot_len (pa_cons (pv 9) pa_nil)) (nomark _)) (pw_or1 (pt_cmpR (op_neD (hu64 hr)) (pv 8) (pv 9) (nomark _))))) (pss_one (ps_ret pe_bl)) pss_nil)
        (pss_one (ps_ret (pe_or (pe_cmpR op_ne (pe_callB call_len (by rfl) (fr_len T) boot_len (pa_cons (pv 9) pa_nil)) pe_int (nomark _)) (pe_or (pe_cmpR op_isBl (pe_ix ix_list (pv 8) pe_int (fun _ _ => rfl)) pe_bl (nomark _)) (pe_one (pe_cmpR op_isBl (pe_ix ix_list (pv 8) pe_int (fun _ _ => rfl)) pe_bl (nomark _)))))))))), ?_⟩
  intro Dn G x t D rv pv d pd w0 w4 w5 w6 RA WA WO rd smt rp pok q
  refine ⟨.ref x, rfl, rv, rfl, pv, rfl, x, D, rv, pv, d, pd, rfl, RA, WO.rd, rd, smt, .inl rp, pok.1, pok.2.r, fun H1 l1 s1 e1 => ?_⟩
  refine ⟨.ref t, rfl, rv, rfl, pv, rfl, .ref t, rv, pv, D, d, pd, rfl, WA.same s1, WO, rd.same s1, smt, rp.same s1, pok.1, pok.2.r, fun H2 l2 s2 e2 => ?_⟩
  have e12 := s2 _ _ e1
  obtain ⟨sh, eqs⟩ := called_ok (D := D) (d := d) pok.2.o
  refine ⟨.ref l1, rfl, .ref l1, _, rfl, lenV_seq (.inl e12), .ref l2, rfl, .ref l2, _, rfl, lenV_seq (.inl e2), rfl, _, rfl, ?_⟩
  rw [show decide (V.int ((calledV D d pd).length : Nat) = V.int ((calledV D d pd).length : Nat)) = true from by simp]
  refine iteF ⟨.ref l1, rfl, .ref l2, rfl, _, _, called_dp e12, called_dp e2, sh, sh, _, rfl, ?_⟩
  rw [eqs]
  refine iteF ?_
  have q2 := q _ (s1.trans s2)
  have hv : (calledV D d pd).length ≠ 1 ∨ ∃ b, calledV D d pd = [.bl b] := by
    unfold calledV
    cases wrongL D.al.cps.toList d with
    | some k => exact .inl (by show 2 ≠ 1; decide)
    | none =>
      dsimp only
      by_cases hm : moveD D.ns.length (alS d).length pd = true
      · rw [if_pos hm]; exact .inr ⟨_, rfl⟩
      · rw [if_neg hm]; exact .inl (by show 3 ≠ 1; decide)
  rcases hv with hv | ⟨b, hv⟩
  · refine ⟨.ref l2, rfl, .ref l2, _, rfl, lenV_seq (.inl e2), rfl, _, rfl, ?_⟩
    rw [show (!decide (V.int ((calledV D d pd).length : Nat) = V.int 1)) = true from by rw [dec_int, decide_eq_false (by omega)]; rfl]
    exact iteT q2
  · rw [hv] at e12 e2
    have one : Dn.rt (.bl true) H2 := q2
    refine ⟨.ref l2, rfl, .ref l2, 1, rfl, lenV_seq (.inl e2), rfl, _, rfl, iteF ⟨.ref l1, rfl, l1, _, 0, .bl b, rfl, rfl, SqL.of e12, atI_nat (j := 0) rfl, b, true, rfl, rfl, _, rfl, ?_⟩⟩
    cases b with
    | true => exact iteT q2
    | false => exact iteF ⟨.ref l1, rfl, l1, _, 0, .bl false, rfl, rfl, SqL.of e12, atI_nat (j := 0) rfl, false, false, rfl, rfl, q2⟩
theorem cr_tail5 (T : Txt K mg) {cdv : Value} {A : Around} {outer : List Env} {s : Shared} {H : Hp} {E : XK} (hG : A.guards = some []) (hr : Room 7 (A.deeper (envOfC "_law_call_refused" (defScope s__law_call_refused) s.heap.objs.size (He.ga K "_law_call_refused") cdv))) :
    ∃ tk : TS, PSs (cxOf CX0 P w K mg base N__law_call_refused "_law_call_refused" (defScope s__law_call_refused) (He.ga K "_law_call_refused") cdv A outer s H E).nox ((defBody s__law_call_refused).drop 5) tk ∧
      ∀ (Dn : Ends) (G : Hp) (a x t : Addr) (D : RdD) (rv pv : V) (d pd : PyData) (w5 w6 : Option V), SrcAt G a → RdAt K (del G a) x D → WAt (del G a) (.ref t) D → WOk D → Rp (del G a) rv d → smallT d → Rp (del G a) pv pd → HandD pd → (∀ H', Fra a G H' → Dn.rt (.bl true) H') →
        tk Dn [some (.ref a), some (.ref x), some (.ref t), some rv, some pv, w5, w6, none, none, none, none] G := by
  obtain ⟨tk, htl, hq⟩ := cr_tail6 (P := P) (w := w) (base := base) (cdv := cdv) (A := A) (outer := outer) (s := s) (H := H) (E := E) T hG hr
  refine ⟨_, (pss_cons (ps_set (i := 7) sc__law_call_refused.nd rfl (Or.inl rfl) (pe_ifExp (PW.pt (pw_and (pt_val (pe_callB call_isB (by rfl) (fr_isinstance T) b_isinstance (pa_cons (pv 4) (pa_cons (pe_ty (fr_list T) b_list) pa_nil)))) (pw_and1 (pt_cmpR op_eq (pe_cal (ok_law_pick T) (hr.mono (by decide)) pass0 (pa_cons (pv 0) (pa_cons pe_int pa_nil))) pe_int (nomark _))))) (pe_callTy call_tuple_of (by rfl) (fr_tuple T) b_tuple (pa_cons (pv 4) pa_nil)) (pv 4)))
        htl), ?_⟩
  intro Dn G a x t D rv pv d pd w5 w6 hs RA WA WO rd smt rp hand q
  have out : ∀ (G' : Hp) (pv' : V) (pd' : PyData), Fra a G G' → Rp (del G' a) pv' pd' → PlcOk pd' → tk Dn [some (.ref a), some (.ref x), some (.ref t), some rv, some pv, w5, w6, some pv', none, none, none] G' := fun G' pv' pd' f rp' ok =>
    hq Dn G' x t D rv pv' d pd' _ _ _ _ ((fra_rd f RA).same (del_le a)) ((fra_w f WA).same (del_le a)) WO ((rd.same f.sm).same (del_le a)) smt (rp'.same (del_le a)) ok fun H' s' => q H' (f.trans (Fra.same f.src s'))
  have rp0 := rp.same (del_le a)
  refine ⟨pv, rfl, pv, "list", kd pd, rfl, rp0.ko, k_list _, _, rfl, ?_⟩
  cases hk : (kd pd).is "list" with
  | false => exact iteF ⟨pv, rfl, out G pv pd (Fra.refl hs) rp hand.ok⟩
  | true =>
    obtain ⟨ds, rfl⟩ := kd_list hk
    obtain ⟨hl, ha⟩ : ds.length ≤ 20 ∧ ∀ x ∈ ds, atomB x = true := by
      rcases hand with ⟨ds', e, h1, h2⟩ | h | h | h | h | h
      · cases e; exact ⟨h1, h2⟩
      · cases h
      · cases h
      · cases h
      · cases h
      · cases h
    obtain ⟨c, zs, rfl, hc, hz⟩ : ∃ c zs, pv = .ref c ∧ del G a c = some (.lst zs) ∧ RpL (del G a) zs ds := by
      cases rp with
      | lst e h => exact ⟨_, _, rfl, e, h⟩
    refine iteT ⟨.ref a, rfl, ?_⟩
    refine ⟨_, _, rfl, (by omega), (by omega), hs, fun qA qS qC k hd0 hd1 => ?_⟩
    have f1 : Fra a G (upd G a (three qA qS qC)) := Fra.drawn qA qS qC
    revert f1
    generalize upd G a (three qA qS qC) = G1
    intro f1
    refine ⟨rfl, _, rfl, ?_⟩
    rw [dec_int]
    by_cases h0 : k = 0
    · rw [decide_eq_true h0]
      refine iteT ⟨.ref c, rfl, c, zs, rfl, .inl ⟨SqL.of (del_le a _ _ (f1.sm _ _ hc)), fun u hu => ?_⟩⟩
      obtain ⟨f2, e2⟩ := new_fra (o := .tup zs) f1.src hu
      exact out _ (.ref u) (.tuple ds) (f1.trans f2) (.tup e2 (hz.same (f1.sm.trans f2.sm))) (tup_ok hl ha)
    · rw [decide_eq_false h0]
      exact iteF ⟨.ref c, rfl, out G1 (.ref c) (.list ds) f1 (rp.same f1.sm) (HandD.ok hand)⟩
end
end Kx
set_option Elab.async false
set_option linter.all false
set_option maxRecDepth 100000
set_option maxHeartbeats 4000000
namespace Kx
open PySem PySem.Spec PyProof.Rows L2
def plainD (d : PyData) : Prop := flatD d = true ∧ atomB d = true
theorem RpL.flats {H H' : Hp} : ∀ {vs : List V} {ds : List PyData}, RpL H vs ds → (∀ d ∈ ds, flatD d = true) → RpL H' vs ds
  | _, _, .nil, _ => .nil
  | _, _, .cons h t, hf => .cons (h.flat (hf _ (List.mem_cons_self ..))) (t.flats fun d hd => hf d (List.mem_cons_of_mem _ hd))
theorem RpL.drop {H : Hp} : ∀ {vs : List V} {ds : List PyData} (n : Nat), RpL H vs ds → RpL H (vs.drop n) (ds.drop n)
  | _, _, 0, h => h
  | _, _, _ + 1, .nil => .nil
  | _, _, n + 1, .cons _ t => t.drop n
theorem RpL.take {H : Hp} : ∀ {vs : List V} {ds : List PyData} (n : Nat), RpL H vs ds → RpL H (vs.take n) (ds.take n)
  | _, _, 0, _ => .nil
  | _, _, _ + 1, .nil => .nil
  | _, _, n + 1, .cons h t => .cons h (t.take n)
theorem rpl_cut {H : Hp} {vs : List V} {ds : List PyData} (h : RpL H vs ds) (lo hi : Option Int) : ∃ es, RpL H (cutV vs lo hi) es ∧ es.length ≤ ds.length ∧ ∀ e ∈ es, e ∈ ds := by
  refine ⟨_, (h.drop (HT.sIx vs.length 0 lo)).take (HT.sIx vs.length vs.length hi - HT.sIx vs.length 0 lo), ?_, fun e he => List.mem_of_mem_drop (List.mem_of_mem_take he)⟩
  rw [List.length_take, List.length_drop]
  omega
/-- data in the place of a row -/
def RowD (way : Int) (d : PyData) : Prop := (∃ z, d = .str z) ∨ (way = 3 ∧ (d = .none ∨ (∃ i, d = .int i) ∨ (∃ z, d = .list (lettersD z)) ∨ ∃ z, d = .tuple [.str z]))
theorem row_str {H H' : Hp} {way : Int} {v : V} {d : PyData} (h : RowD way d) (hw : way ≠ 3) (r : Rp H v d) : Rp H' v d := by
  rcases h with ⟨z, rfl⟩ | ⟨h, _⟩
  · exact r.flat rfl
  · exact absurd h hw
theorem row_put {H : Hp} {way : Int} {v : V} {d : PyData} {c : Addr} {o : HO} {ys : List V} {es : List PyData} (h : RowD way d) (r : Rp H v d) (hc : H c = some (.lst ys)) (hy : RpL H ys es) (he : ∀ e ∈ es, ∃ i, e = .int i) (hne : es ≠ []) : Rp (upd H c o) v d := by
  rcases h with ⟨z, rfl⟩ | ⟨_, rfl | ⟨i, rfl⟩ | ⟨z, rfl⟩ | ⟨z, rfl⟩⟩
  · exact r.flat rfl
  · exact r.flat rfl
  · exact r.flat rfl
  · cases r with
    | lst e hh =>
      rename_i b xs
      have hbc : b ≠ c := fun heq => by
        subst heq
        rw [hc] at e
        cases e
        cases es with
        | nil => exact hne rfl
        | cons e1 es =>
          obtain ⟨i, rfl⟩ := he e1 (List.mem_cons_self ..)
          cases hy with
          | cons h1 _ =>
            cases h1
            unfold lettersD at hh
            cases hz : z.cps.toList with
            | nil => rw [hz] at hh; cases hh
            | cons c0 cs =>
              rw [hz, List.map_cons] at hh
              cases hh with
              | cons h2 _ => cases h2
      refine .lst (by rw [upd_ne hbc]; exact e) (hh.flats fun d hd => ?_)
      obtain ⟨c0, _, rfl⟩ := List.mem_map.mp hd
      rfl
  · cases r with
    | tup e hh =>
      rename_i b xs
      have hbc : b ≠ c := fun heq => by
        subst heq
        rw [hc] at e
        cases e
      refine .tup (by rw [upd_ne hbc]; exact e) (hh.flats fun d hd => ?_)
      rw [List.mem_singleton.mp hd]
      rfl
theorem lay_sl {K : PySem.W.Frag} {a c : Addr} {σ : L2.St} {Pd : PyData → Prop} {i : Nat} {ys : List V} {es : List PyData} (hσ : σ[i]? = some (some (.ref c))) (hy : ∀ H, RpL H ys es) (h : ∀ fs : List PyData, fs.length ≤ es.length → (∀ f ∈ fs, f ∈ es) → Pd (.list fs)) :
    Lay a (fun G => del G a c = some (.lst ys)) σ (tSl (rSlL K) (tVar i) (tPart (tC (.int 1))) tNoPart) Pd := fun G Q s j k => by
  refine ⟨_, hσ, _, rfl, c, _, rfl, SqL.of (del_le a _ _ j), fun u hu => ?_⟩
  obtain ⟨f2, e2⟩ := new_fra (o := .lst (cutV ys (some 1) none)) s hu
  obtain ⟨fs, r, hl, hm⟩ := rpl_cut (hy (del (upd G u (.lst (cutV ys (some 1) none))) a)) (some 1) none
  exact k _ _ _ f2 (.lst e2 r) (h fs hl hm)
section
variable {P : Program} {w : World} {K : PySem.W.Frag} {mg : Str → Option Value} {base : Heap}
theorem cr_tail4 (T : Txt K mg) {cdv : Value} {A : Around} {outer : List Env} {s : Shared} {H : Hp} {E : XK} (hG : A.guards = some []) (hr : Room 7 (A.deeper (envOfC "_law_call_refused" (defScope s__law_call_refused) s.heap.objs.size (He.ga K "_law_call_refused") cdv))) :
    ∃ tk : TS, PSs (cxOf CX0 P w K mg base N__law_call_refused "_law_call_refused" (defScope s__law_call_refused) (He.ga K "_law_call_refused") cdv A outer s H E).nox ((defBody s__law_call_refused).drop 4) tk ∧
      ∀ (Dn : Ends) (H0 G : Hp) (a x t c : Addr) (D : RdD) (rv : V) (d : PyData) (ps : List Int) (way : Int) (w6 : Option V), 0 ≤ way → way < 8 → Fra a H0 G → H0 c = none → c ≠ a → RdAt K (del H0 a) x D → WAt (del H0 a) (.ref t) D → WOk D → Rp (del G a) rv d → smallT d → RowD way d →
        del G a c = some (.lst (ps.map V.int)) → ps.length ≤ 4 → (∀ p ∈ ps, 0 ≤ p ∧ p < 200) → (∀ H', Fra a H0 H' → Dn.rt (.bl true) H') →
        tk Dn [some (.ref a), some (.ref x), some (.ref t), some rv, some (.ref c), some (.int way), w6, none, none, none, none] G := by
  obtain ⟨tk, htl, hq⟩ := cr_tail5 (P := P) (w := w) (base := base) (cdv := cdv) (A := A) (outer := outer) (s := s) (H := H) (E := E) T hG hr
  refine ⟨_, (pss_cons (ps_if (PW.pt (pw_and (pt_cmpR op_gt (pv 5) pe_int (nomark _)) (pw_and (pt_cmpR op_lt (pv 5) pe_int (nomark _)) (pw_and1 (pt_cmpR op_gt (pe_callB call_len (by rfl) (fr_len T) boot_len (pa_cons (pv 4) pa_nil)) pe_int (nomark _)))))) (pss_one (ps_asg (pe_ix ix_list (pe_lst (pa_cons (pe_un un_neg pe_int) (pa_cons pe_int (pa_cons pe_bl (pa_cons pe_non (pa_cons pe_str (pa_cons (pe_op op_pow pe_int pe_int) pa_nil))))))) (pe_cal (ok_law_pick T) (hr.mono (by decide)) pass0 (pa_cons (pv 0) (pa_cons pe_int pa_nil))) (fun _ _ => rfl)) (pg_sub (pv 4) (pe_cal (ok_law_pick T) (hr.mono (by decide)) pass0 (pa_cons (pv 0) (pa_cons (pe_callB call_len (by rfl) (fr_len T) boot_len (pa_cons (pv 4) pa_nil)) pa_nil))) set_list))) (pss_one (ps_if (pt_cmpR op_eq (pv 5) pe_int (nomark _)) (pss_one (ps_expr (pe_bm PySem.F.plainAttrs_list PySem.F.slot_list_append PySem.F.type_list_append mt_append (pv 4) (pa_cons pe_int pa_nil)))) (pss_one (ps_if (pt_cmpR op_eq (pv 5) pe_int (nomark _)) (pss_one (ps_set (i := 4) sc__law_call_refused.nd rfl (Or.inl rfl) (pe_ix ix_list (pe_lst (pa_cons pe_non (pa_cons pe_str (pa_cons pe_int (pa_cons pe_dnewK (pa_cons (pe_slice sl_list (pv 4) (po_some pe_int) po_none) (pa_cons (pe_tup pa_nil) pa_nil))))))) (pe_cal (ok_law_pick T) (hr.mono (by decide)) pass0 (pa_cons (pv 0) (pa_cons pe_int pa_nil))) (fun _ _ => rfl)))) pss_nil)))))
        htl), ?_⟩
  intro Dn H0 G a x t c D rv d ps way w6 hw0 hw1 f0 hc0 hca RA WA WO rd smt hrow hc hpl hpr q
  have hs := f0.src
  have hc' := del_le a _ _ hc
  have at0 : ∀ i ∈ ps.map PyData.int, plainD i := fun i hi => by
    obtain ⟨p, hp, rfl⟩ := List.mem_map.mp hi
    exact ⟨rfl, atom_int (hpr p hp).1 (hpr p hp).2⟩
  have rpI : ∀ H', RpL H' (ps.map V.int) (ps.map PyData.int) := fun H' => by
    clear at0 hpr hpl hc hc'
    induction ps with
    | nil => exact .nil
    | cons p ps ih => exact .cons (.int p) ih
  have go : ∀ (G' : Hp) (pv' : V) (pd' : PyData), Fra a H0 G' → Rp (del G' a) rv d → Rp (del G' a) pv' pd' → HandD pd' → tk Dn [some (.ref a), some (.ref x), some (.ref t), some rv, some pv', some (.int way), w6, none, none, none, none] G' := fun G' pv' pd' f rd' rp' ok =>
    hq Dn G' a x t D rv pv' d pd' _ _ f.src (fra_rd f RA) (fra_w f WA) WO rd' smt rp' ok fun H' f' => q H' (f.trans f')
  have stay : tk Dn [some (.ref a), some (.ref x), some (.ref t), some rv, some (.ref c), some (.int way), w6, none, none, none, none] G :=
    go G (.ref c) (.list (ps.map PyData.int)) f0 rd (.lst hc (rpI _)) (.inl ⟨_, rfl, by rw [List.length_map]; omega, fun i hi => (at0 i hi).2⟩)
  have hw : way = 0 ∨ (0 < way ∧ way < 5) ∨ way = 5 ∨ way = 6 ∨ way = 7 := by omega
  rcases hw with rfl | ⟨h0, h5⟩ | rfl | rfl | rfl
  · exact ⟨.int 0, rfl, 0, 0, rfl, rfl, _, rfl, iteF ⟨.int 0, rfl, rfl, _, rfl, iteF ⟨.int 0, rfl, rfl, _, rfl, iteF stay⟩⟩⟩
  · refine ⟨.int way, rfl, way, 0, rfl, rfl, _, rfl, ?_⟩
    rw [decide_eq_true h0]
    refine iteT ⟨.int way, rfl, way, 5, rfl, rfl, _, rfl, ?_⟩
    rw [decide_eq_true h5]
    refine iteT ⟨.ref c, rfl, .ref c, _, rfl, lenV_seq (.inl hc'), _, 0, rfl, rfl, _, rfl, ?_⟩
    rw [List.length_map]
    by_cases hl : (0 : Int) < ((ps.length : Nat) : Int)
    · rw [decide_eq_true hl]
      refine iteT (asg0 ?_)
      refine lay_menu (Pd := plainD) (n := 6) (J := fun _ => True) (LayM.cons firm_true (lay_neg ⟨rfl, by decide +kernel⟩) (LayM.cons firm_true (lay_int ⟨rfl, by decide +kernel⟩) (LayM.cons firm_true (lay_bl ⟨rfl, by decide +kernel⟩) (LayM.cons firm_true (lay_non ⟨rfl, by decide +kernel⟩) (LayM.cons firm_true (lay_str ⟨rfl, by decide +kernel⟩) (LayM.cons firm_true (lay_pow ⟨rfl, by decide +kernel⟩) LayM.nil)))))) rfl (by decide) (by decide) rfl G _ hs trivial fun v G1 dv f1 rv1 hv => ?_
      have hc1 := f1.sm _ _ hc
      refine ⟨.ref c, rfl, .ref a, rfl, .ref c, rfl, .ref c, _, rfl, lenV_seq (.inl (del_le a _ _ hc1)), ?_⟩
      rw [List.length_map]
      refine ⟨_, _, rfl, (by omega), (by omega), f1.src, fun qA qS qC i hi0 hi1 => ?_⟩
      have f2 : Fra a G1 (upd G1 a (three qA qS qC)) := Fra.drawn qA qS qC
      revert f2
      generalize upd G1 a (three qA qS qC) = G2
      intro f2
      obtain ⟨j, rfl⟩ := Int.eq_ofNat_of_zero_le hi0
      have hc2 := f2.sm _ _ hc1
      have f02 := f0.trans (f1.trans f2)
      refine ⟨c, _, _, j, rfl, rfl, del_le a _ _ hc2, ix_put (by rw [List.length_map]; omega), ?_⟩
      have fU := f02.over (o := .lst ((ps.map V.int).set j v)) hc0 hca
      have e := del_upd_ne (H := G2) (o := .lst ((ps.map V.int).set j v)) hca
      refine go _ (.ref c) (.list ((ps.map PyData.int).set j dv)) fU ?_ (.lst (by rw [e]; exact upd_same) ?_) (.inl ⟨_, rfl, by rw [List.length_set, List.length_map]; omega, fun z hz => ?_⟩)
      · rw [e]
        refine row_put hrow (rd.same (f1.trans f2).sm) hc2 (rpI _) (fun e he => ?_) ?_
        · obtain ⟨p, _, rfl⟩ := List.mem_map.mp he
          exact ⟨p, rfl⟩
        · intro h
          rw [List.map_eq_nil_iff] at h
          rw [h] at hl
          simp at hl
      · refine rpl_set (by rw [List.length_map, List.length_map]) (rv1.flat hv.1) fun i x y _ hx hy => ?_
        obtain ⟨y', hy', r⟩ := (rpI (del (upd G2 c (.lst ((ps.map V.int).set j v))) a)).get hx
        rw [hy] at hy'
        cases hy'
        exact r
      · rcases List.mem_or_eq_of_mem_set hz with h | h
        · exact (at0 z h).2
        · rw [h]; exact hv.2
    · rw [decide_eq_false hl]
      refine iteF ⟨.int way, rfl, rfl, _, rfl, ?_⟩
      rw [dec_int, decide_eq_false (by omega)]
      refine iteF ⟨.int way, rfl, rfl, _, rfl, ?_⟩
      rw [dec_int, decide_eq_false (by omega)]
      exact iteF stay
  · refine ⟨.int 5, rfl, 5, 0, rfl, rfl, _, rfl, iteT ⟨.int 5, rfl, 5, 5, rfl, rfl, _, rfl, iteF ⟨.int 5, rfl, rfl, _, rfl, iteT ?_⟩⟩⟩
    refine ⟨.ref c, rfl, .inl ⟨rfl, _, SqL.of hc'⟩, c, _, _, rfl, rfl, hc', ?_, ?_⟩
    · rw [List.length_map]
      exact Nat.lt_of_le_of_lt hpl (by decide)
    have fU := f0.over (o := .lst (ps.map V.int ++ [.int 0])) hc0 hca
    have e := del_upd_ne (H := G) (o := .lst (ps.map V.int ++ [.int 0])) hca
    refine go _ (.ref c) (.list (ps.map PyData.int ++ [.int 0])) fU (row_str hrow (by decide) rd) (.lst (by rw [e]; exact upd_same) (rpL_append (rpI _) (.int 0))) (.inl ⟨_, rfl, by rw [List.length_append, List.length_map]; show _ + 1 ≤ 20; omega, fun z hz => ?_⟩)
    rcases List.mem_append.mp hz with h | h
    · exact (at0 z h).2
    · rw [List.mem_singleton.mp h]; exact atom_int (by decide) (by decide)
  · refine ⟨.int 6, rfl, 6, 0, rfl, rfl, _, rfl, iteT ⟨.int 6, rfl, 6, 5, rfl, rfl, _, rfl, iteF ⟨.int 6, rfl, rfl, _, rfl, iteF ⟨.int 6, rfl, rfl, _, rfl, iteT (asg0 ?_)⟩⟩⟩⟩
    have hJ : Firm a (fun G => del G a c = some (.lst (ps.map V.int))) := fun G G' f e => f.sm _ _ e
    refine lay_menu (Pd := HandD) (n := 6) (J := fun G => del G a c = some (.lst (ps.map V.int))) (LayM.cons hJ (lay_non (.inr (.inl rfl))) (LayM.cons hJ (lay_str (.inr (.inr (.inl rfl)))) (LayM.cons hJ (lay_int (.inr (.inr (.inr (.inl rfl))))) (LayM.cons hJ (lay_dct (.inr (.inr (.inr (.inr (.inl rfl)))))) (LayM.cons hJ (lay_sl (K := K) (i := 4) rfl rpI fun fs h1 h2 => .inl ⟨fs, rfl, by rw [List.length_map] at h1; omega, fun z hz => (at0 z (h2 z hz)).2⟩) (LayM.cons hJ (lay_tup0 (.inr (.inr (.inr (.inr (.inr rfl)))))) LayM.nil)))))) rfl (by decide) (by decide) rfl G _ hs hc fun v G1 dv f1 rv1 hv => ?_
    exact go G1 v dv (f0.trans f1) (rd.same f1.sm) rv1 hv
  · exact ⟨.int 7, rfl, 7, 0, rfl, rfl, _, rfl, iteT ⟨.int 7, rfl, 7, 5, rfl, rfl, _, rfl, iteF ⟨.int 7, rfl, rfl, _, rfl, iteF ⟨.int 7, rfl, rfl, _, rfl, iteF stay⟩⟩⟩⟩
end
end Kx
set_option Elab.async false
set_option linter.all false
set_option maxRecDepth 100000
set_option maxHeartbeats 4000000
namespace Kx
open PySem PySem.Spec PyProof.Rows L2
theorem smallT_str {z : Str} (h : z.length ≤ 100000) : smallT (.str z) := fun y e => by cases e; exact h
theorem smallT_no {d : PyData} (h : ∀ z, d ≠ .str z) : smallT d := fun z e => absurd e (h z)
section
variable {K : PySem.W.Frag} {a : Addr} {J : Hp → Prop} {σ : L2.St} {Pd : PyData → Prop} {z y : Str} {i : Nat}
theorem lay_strv (hσ : σ[i]? = some (some (.str z))) (h : Pd (.str z)) : Lay a J σ (tVar i) Pd := fun G Q s j k => ⟨_, hσ, k _ _ _ (Fra.refl s) (.str _) h⟩
theorem lay_rep1 (hσ : σ[i]? = some (some (.str z))) (hz : z.length ≤ 100) (hy : y.length ≤ 100) (h : Pd (.str (y ++ Txt.mul z (201 : Nat)))) :
    Lay a J σ (tOp (fun x y H Q => ∃ i j, x = V.str i ∧ y = V.str j ∧ i.length + j.length ≤ sizeLine ∧ Q (V.str (i ++ j)) H) (tC (.str y)) (tOp (fun x y H Q => ∃ (z : Str) (n : Nat), x = .str z ∧ y = .int (n : Nat) ∧ 2 ≤ n ∧ n ≤ 1000 ∧ z.length ≤ 1000 ∧ Q (.str (Txt.mul z (n : Nat))) H) (tVar i) (tC (.int 201)))) Pd := fun G Q s j k => by
  refine ⟨_, hσ, z, 201, rfl, rfl, (by decide), (by decide), (by omega), y, _, rfl, rfl, ?_, k _ _ _ (Fra.refl s) (.str _) h⟩
  have := mul_le (z := z) (n := 201) (by decide)
  exact Nat.le_trans (by omega : y.length + (Txt.mul z ((201 : Nat) : Int)).length ≤ 100000) (by decide)
theorem lay_rep2 {t : Addr} {xs : List V} {c : Nat} (hσ : σ[i]? = some (some (.ref t))) (hJ : ∀ G, J G → G t = some (.tup xs)) (hx : xs[0]? = some (.str z)) (hz : z.length ≤ 100) (hc : z.cps.toList[0]? = some c) (h : Pd (.str (Txt.mul ⟨#[c]⟩ (201 : Nat)))) :
    Lay a J σ (tOp (fun x y H Q => ∃ (z : Str) (n : Nat), x = .str z ∧ y = .int (n : Nat) ∧ 2 ≤ n ∧ n ≤ 1000 ∧ z.length ≤ 1000 ∧ Q (.str (Txt.mul z (n : Nat))) H) (tOp rIxS (tOp (rIxT K) (tVar i) (tC (.int 0))) (tC (.int 0))) (tC (.int 201))) Pd := fun G Q s j k =>
  ⟨_, hσ, t, xs, 0, .str z, rfl, rfl, SqT.of (hJ G j), atI_nat (j := 0) hx, z, 0, c, rfl, rfl, Nat.le_trans hz (by decide), atI_nat (j := 0) hc, ⟨#[c]⟩, 201, rfl, rfl, (by decide), (by decide), (by show 1 ≤ 1000; decide), k _ _ _ (Fra.refl s) (.str _) h⟩
end
section
variable {P : Program} {w : World} {K : PySem.W.Frag} {mg : Str → Option Value} {base : Heap}
theorem cr_tail3 (T : Txt K mg) {cdv : Value} {A : Around} {outer : List Env} {s : Shared} {H : Hp} {E : XK} (hG : A.guards = some []) (hr : Room 7 (A.deeper (envOfC "_law_call_refused" (defScope s__law_call_refused) s.heap.objs.size (He.ga K "_law_call_refused") cdv))) :
    ∃ tk : TS, PSs (cxOf CX0 P w K mg base N__law_call_refused "_law_call_refused" (defScope s__law_call_refused) (He.ga K "_law_call_refused") cdv A outer s H E).nox ((defBody s__law_call_refused).drop 3) tk ∧
      ∀ (Dn : Ends) (H0 G : Hp) (a x t c : Addr) (D : RdD) (z : Str) (ps : List Int) (way : Int) (w6 : Option V), 0 ≤ way → way < 8 → Fra a H0 G → H0 c = none → c ≠ a → RdAt K (del H0 a) x D → WAt (del H0 a) (.ref t) D → WOk D → z.length ≤ 5 →
        del G a c = some (.lst (ps.map V.int)) → ps.length ≤ 4 → (∀ p ∈ ps, 0 ≤ p ∧ p < 200) → (∀ H', Fra a H0 H' → Dn.rt (.bl true) H') →
        tk Dn [some (.ref a), some (.ref x), some (.ref t), some (.str z), some (.ref c), some (.int way), w6, none, none, none, none] G := by
  obtain ⟨tk, htl, hq⟩ := cr_tail4 (P := P) (w := w) (base := base) (cdv := cdv) (A := A) (outer := outer) (s := s) (H := H) (E := E) T hG hr
  refine ⟨_, (pss_cons (ps_if (pt_cmpR op_lt (pv 5) pe_int (nomark _)) (pss_cons (ps_set (i := 6) sc__law_call_refused.nd rfl (Or.inl rfl) (pe_cal (ok_law_pick T) (hr.mono (by decide)) pass0 (pa_cons (pv 0) (pa_cons (pe_op op_add (pe_callB call_len (by rfl) (fr_len T) boot_len (pa_cons (pv 3) pa_nil)) pe_int) pa_nil))))
        (pss_one (ps_set (i := 3) sc__law_call_refused.nd rfl (Or.inr rfl) (pe_op op_add_str (pe_op op_add_str (pe_slice sl_str (pv 3) po_none (po_some (pv 6))) (pe_ix ix_list (pe_lst (pa_cons pe_str (pa_cons pe_str (pa_cons pe_str (pa_cons pe_str (pa_cons pe_str (pa_cons pe_str pa_nil))))))) (pe_cal (ok_law_pick T) (hr.mono (by decide)) pass0 (pa_cons (pv 0) (pa_cons pe_int pa_nil))) (fun _ _ => rfl))) (pe_slice sl_str (pv 3) (po_some (pv 6)) po_none))))) (pss_one (ps_if (pt_cmpR op_eq (pv 5) pe_int (nomark _)) (pss_one (ps_set (i := 3) sc__law_call_refused.nd rfl (Or.inr rfl) (pe_ix ix_list (pe_lst (pa_cons pe_non (pa_cons pe_int (pa_cons (pe_callTy (call_listX rfl) (by rfl) (fr_list T) b_list (pa_cons (pv 3) pa_nil)) (pa_cons (pe_tup (pa_cons (pv 3) pa_nil)) (pa_cons (pe_op op_add_str pe_str (pe_op op_repE (pv 3) pe_int)) (pa_cons (pe_op op_repE (pe_ix ix_str (pe_ix ix_tup (pv 2) pe_int (fun _ _ => rfl)) pe_int (fun _ _ => rfl)) pe_int) pa_nil))))))) (pe_cal (ok_law_pick T) (hr.mono (by decide)) pass0 (pa_cons (pv 0) (pa_cons pe_int pa_nil))) (fun _ _ => rfl)))) pss_nil)))
        htl), ?_⟩
  intro Dn H0 G a x t c D z ps way w6 hw0 hw1 f0 hc0 hca RA WA WO hz hc hpl hpr q
  have hs := f0.src
  have go : ∀ (G' : Hp) (rv' : V) (d' : PyData) (w6 : Option V), Fra a G G' → Rp (del G' a) rv' d' → smallT d' → RowD way d' → tk Dn [some (.ref a), some (.ref x), some (.ref t), some rv', some (.ref c), some (.int way), w6, none, none, none, none] G' := fun G' rv' d' w6 f rd' sm' ro =>
    hq Dn H0 G' a x t c D rv' d' ps way w6 hw0 hw1 (f0.trans f) hc0 hca RA WA WO rd' sm' ro (f.sm _ _ hc) hpl hpr q
  have hw : way < 3 ∨ way = 3 ∨ 4 ≤ way := by omega
  rcases hw with hw | rfl | hw
  · refine ⟨.int way, rfl, way, 3, rfl, rfl, _, rfl, ?_⟩
    rw [decide_eq_true hw]
    refine iteT (seq_asg ⟨.ref a, rfl, .str z, rfl, .str z, _, rfl, lenV_str (by omega), _, 1, rfl, rfl, ?_⟩)
    refine ⟨_, _, rfl, (by omega), (by omega), hs, fun qA qS qC i hi0 hi1 => ?_⟩
    have f1 : Fra a G (upd G a (three qA qS qC)) := Fra.drawn qA qS qC
    revert f1
    generalize upd G a (three qA qS qC) = G1
    intro f1
    have hzs : z.length ≤ sizeLine := Nat.le_trans hz (by decide)
    refine asg0 ⟨.str z, rfl, .int i, rfl, i, rfl, z, rfl, hzs, ?_⟩
    refine lay_menu (Pd := fun d => ∃ y : Str, d = .str y ∧ y.length ≤ 5) (n := 6) (J := fun _ => True) (LayM.cons firm_true (lay_str ⟨_, rfl, by decide⟩) (LayM.cons firm_true (lay_str ⟨_, rfl, by decide⟩) (LayM.cons firm_true (lay_str ⟨_, rfl, by decide⟩) (LayM.cons firm_true (lay_str ⟨_, rfl, by decide⟩) (LayM.cons firm_true (lay_str ⟨_, rfl, by decide⟩) (LayM.cons firm_true (lay_str ⟨_, rfl, by decide⟩) LayM.nil)))))) rfl (by decide) (by decide) rfl G1 _ f1.src trivial fun v G2 d f2 rv hv => ?_
    obtain ⟨y, rfl, hy⟩ := hv
    have ev : v = .str y := by cases rv; rfl
    subst ev
    have c1 := cutS_length z none (some i)
    have c2 := cutS_length z (some i) none
    refine ⟨_, y, rfl, rfl, Nat.le_trans (by omega : _ ≤ 100) (by decide), .str z, rfl, .int i, rfl, i, rfl, z, rfl, hzs, _, _, rfl, rfl, ?_, ?_⟩
    · rw [len_appS]
      exact Nat.le_trans (by omega : _ ≤ 100) (by decide)
    · refine go G2 _ (.str (cutS z none (some i) ++ y ++ cutS z (some i) none)) _ (f1.trans f2) (.str _) (smallT_str ?_) (.inl ⟨_, rfl⟩)
      rw [len_appS, len_appS]
      omega
  · refine ⟨.int 3, rfl, 3, 3, rfl, rfl, _, rfl, iteF ⟨.int 3, rfl, rfl, _, rfl, iteT (asg0 ?_)⟩⟩
    obtain ⟨t', vm, vc, e, ht, _, _⟩ := WA
    cases e
    have hJ : Firm a (fun G => del G a t = some (.tup [.str D.al, .str D.ns, vm, vc])) := fun G G' f e => f.sm _ _ e
    have hal8 := WO.rd.al8
    obtain ⟨c0, hc0'⟩ : ∃ c0, D.al.cps.toList[0]? = some c0 := ⟨_, List.getElem?_eq_getElem (by have : D.al.cps.toList.length = D.al.length := Array.length_toList; omega)⟩
    have m1 := mul_le (z := z) (n := 201) (by decide)
    have m2 := mul_le (z := ⟨#[c0]⟩) (n := 201) (by decide)
    have l1 : (⟨#[c0]⟩ : Str).length = 1 := rfl
    have ly : (("i" : Str)).length = 1 := rfl
    refine lay_menu (Pd := fun d => smallT d ∧ RowD 3 d) (n := 6) (J := fun G => del G a t = some (.tup [.str D.al, .str D.ns, vm, vc]))
      (LayM.cons hJ (lay_non ⟨smallT_no (fun z h => by cases h), .inr ⟨rfl, .inl rfl⟩⟩) (LayM.cons hJ (lay_int ⟨smallT_no (fun z h => by cases h), .inr ⟨rfl, .inr (.inl ⟨_, rfl⟩)⟩⟩) (LayM.cons hJ (lay_list (i := 3) (z := z) rfl (by omega) ⟨smallT_no (fun z h => by cases h), .inr ⟨rfl, .inr (.inr (.inl ⟨z, rfl⟩))⟩⟩)
        (LayM.cons hJ (lay_tup1 (lay_strv (i := 3) (z := z) (Pd := fun d => d = .str z) rfl rfl) (fun d e => by subst e; exact ⟨smallT_no (fun z h => by cases h), .inr ⟨rfl, .inr (.inr (.inr ⟨z, rfl⟩))⟩⟩))
        (LayM.cons hJ (lay_rep1 (i := 3) (z := z) (y := "i") rfl (by omega) (by decide) ⟨smallT_str (by rw [len_appS]; omega), .inl ⟨_, rfl⟩⟩)
        (LayM.cons hJ (lay_rep2 (K := K) (i := 2) (t := t) (z := D.al) (c := c0) rfl (fun G j => del_le a _ _ j) rfl (by omega) hc0' ⟨smallT_str (by omega), .inl ⟨_, rfl⟩⟩) LayM.nil)))))) rfl (by decide) (by decide) rfl G _ hs (f0.sm _ _ ht) fun v G1 d f1 rv hv => ?_
    exact go G1 v d _ f1 rv hv.1 hv.2
  · refine ⟨.int way, rfl, way, 3, rfl, rfl, _, rfl, ?_⟩
    rw [decide_eq_false (by omega)]
    refine iteF ⟨.int way, rfl, rfl, _, rfl, ?_⟩
    rw [dec_int, decide_eq_false (by omega)]
    exact iteF (go G (.str z) (.str z) _ (Fra.refl hs) (.str _) (smallT_str (by omega)) (.inl ⟨_, rfl⟩))
def sp_law_call_refused (K : PySem.W.Frag) : Sp := fun vs H Q _ => ∃ (a x : Addr) (v : V) (D : RdD), vs = [.ref a, .ref x, v] ∧ SrcAt H a ∧ RdAt K (del H a) x D ∧ WAt (del H a) v D ∧ WOk D ∧ ∀ H', Fra a H H' → Q (.bl true) H'
theorem ok_law_call_refused (T : Txt K mg) : CalG P w K mg base CX0 8 "_law_call_refused" ["_law_source_here", "_law_reader", "_law_world_here"] (sp_law_call_refused K) := by
  obtain ⟨fd, F⟩ := F__law_call_refused T
  refine calG_mk F (g__law_call_refused T) sc__law_call_refused (fun _ _ _ _ _ _ us hl => match us, hl with | [_, _, _], _ => rfl) (fun vs H Q E h => ?_) (fun cdv A outer s H vs Q E hG hr h => ?_)
  · obtain ⟨a, x, v, D, rfl, _⟩ := h; rfl
  · obtain ⟨tk, htl, hq⟩ := cr_tail3 (P := P) (w := w) (base := base) (cdv := cdv) (A := A) (outer := outer) (s := s) (H := H) (E := E) T hG hr
    refine ⟨_, PSs.nox (pss_cons (ps_set (i := 3) sc__law_call_refused.nd rfl (Or.inr rfl) (pe_cal (ok_law_word T) (hr.mono (by decide)) pass0 (pa_cons (pv 0) (pa_cons (pe_ix ix_tup (pv 2) pe_int (fun _ _ => rfl)) (pa_cons pe_int pa_nil)))))
        (pss_cons (ps_setLc (i := 4) (te := tIf (tTest (tOp (rI0 fun i j => .bl (decide (j < i))) (tCB (rLen K) (tCons (tVar 3) tNil)) (tC (.int 0)))) (tCall sp_law_pick [] E0 (tCons (tVar 0) (tCons (tCB (rLen K) (tCons (tVar 3) tNil)) tNil))) (tC (.int 0))) (own := [("_law_name", 10)]) (g := (gName 10)) (tt := tYes) rfl sc__law_call_refused.nd rfl rfl (sw_true rfl rfl rfl (by decide +kernel)) (pi_str (pe_ix ix_tup (pv 2) pe_int (fun _ _ => rfl))) (blkOk_by (N := N__law_call_refused) (sc := defScope s__law_call_refused) (by decide +kernel)) (fun _ _ _ _ _ => (pg_name (i := 10) sc__law_call_refused.nd rfl (Or.inl rfl))) (fun _ _ _ _ _ => pts_nil) (fun _ _ _ _ _ => by
          refine pe_ifExp (pt_cmpR op_gt ?_ pe_int (nomark _)) (pe_cal (ok_law_pick T) (hr.mono (by decide)) pass0 (pa_cons (pv 0) (pa_cons ?_ pa_nil))) pe_int
          · exact pe_callB call_len (by rfl) (fr_len T) boot_len (pa_cons (pv 3) pa_nil)
          · exact pe_callB call_len (by rfl) (fr_len T) boot_len (pa_cons (pv 3) pa_nil)))
        (pss_cons (ps_set (i := 5) sc__law_call_refused.nd rfl (Or.inl rfl) (pe_cal (ok_law_pick T) (hr.mono (by decide)) pass0 (pa_cons (pv 0) (pa_cons pe_int pa_nil))))
        htl))), ?_⟩
    obtain ⟨a, x, v, D, rfl, hs, RA, WA, WO, q⟩ := h
    have WA' := WA
    obtain ⟨t, vm, vc, rfl, ht, _, _⟩ := WA'
    have hal8 := WO.rd.al8
    have hn4 := WO.rd.ns4
    refine ⟨.ref a, rfl, .ref t, rfl, t, _, 0, .str D.al, rfl, rfl, SqT.of (del_le a _ _ ht), rfl, a, D.al, 5, rfl, hal8.1, hal8.2, (by decide), hs, fun G0 cs f0 hcs hcl => ?_⟩
    have hjl := join_len cs
    generalize Txt.join "" (cs.map one1) = z at hjl
    have hz : z.length ≤ 5 := by omega
    have ht0 := f0.sm _ _ ht
    refine ⟨.ref t, rfl, t, _, 1, .str D.ns, rfl, rfl, SqT.of (del_le a _ _ ht0), rfl, D.ns, rfl, fun DD hD => ?_⟩
    have hDa : DD ≠ a := f0.src.ne hD
    have hD0 : H DD = none := f0.none hDa hD
    refine lc_it walk_str (tt := tYes) (fun j G5 => ∃ ps : List Int, G5 DD = some (.lst (ps.map V.int)) ∧ ps.length = j ∧ (∀ p ∈ ps, 0 ≤ p ∧ p < 200) ∧ Fra a H G5)
      ⟨[], upd_same, rfl, fun p hp => (by cases hp), f0.trans (Fra.same f0.src (same_upd hD))⟩ (fun _ _ _ _ => trivial) ?_ ?_
    · rintro j y G5 G6 hj ⟨ps, hps, hpl, hpr, f5⟩ ⟨eH, c, hc, rfl⟩
      subst eH
      have hjn : j < D.ns.length := hj
      refine ⟨rfl, .str z, rfl, .str z, _, rfl, lenV_str (by omega), _, 0, rfl, rfl, _, rfl, ?_⟩
      have snoc : ∀ (G7 : Hp) (d : Int), Fra a G6 G7 → 0 ≤ d → d < 200 → ∃ acc, G7 DD = some (.lst acc) ∧ acc.length < sizeLine ∧ ∃ ps : List Int, upd G7 DD (.lst (acc ++ [.int d])) DD = some (.lst (ps.map V.int)) ∧ ps.length = j + 1 ∧ (∀ p ∈ ps, 0 ≤ p ∧ p < 200) ∧ Fra a H (upd G7 DD (.lst (acc ++ [.int d]))) := fun G7 d f7 h0 h1 => by
        refine ⟨_, f7.up _ _ (by rw [del_ne hDa]; exact hps), ?_, ps ++ [d], by rw [upd_same, List.map_append]; rfl, by rw [List.length_append, hpl]; rfl, ?_, (f5.trans f7).over hD0 hDa⟩
        · rw [List.length_map, hpl]
          exact Nat.lt_of_lt_of_le (by omega : j < 10) (by decide)
        · intro p hp
          rcases List.mem_append.mp hp with h | h
          · exact hpr p h
          · rw [List.mem_singleton.mp h]; exact ⟨h0, h1⟩
      by_cases hl : (0 : Int) < ((z.length : Nat) : Int)
      · rw [decide_eq_true hl]
        refine iteT ⟨.ref a, rfl, .str z, rfl, .str z, _, rfl, lenV_str (by omega), ?_⟩
        refine ⟨_, _, rfl, (by omega), (by omega), f5.src, fun qA qS qC d7 hd70 hd71 => ?_⟩
        have f7 : Fra a G6 (upd G6 a (three qA qS qC)) := Fra.drawn qA qS qC
        revert f7
        generalize upd G6 a (three qA qS qC) = G7
        intro f7
        exact snoc G7 d7 f7 hd70 (by omega)
      · rw [decide_eq_false hl]
        exact iteF (snoc G6 0 (Fra.refl f5.src) (by decide) (by decide))
    · rintro G5 ⟨ps, hps, hpl, hpr, f5⟩
      have hpl' : ps.length = D.ns.length := hpl
      refine ⟨.ref a, rfl, ?_⟩
      refine ⟨_, _, rfl, (by omega), (by omega), f5.src, fun qA qS qC way hw0 hw1 => ?_⟩
      have f6 : Fra a G5 (upd G5 a (three qA qS qC)) := Fra.drawn qA qS qC
      revert f6
      generalize upd G5 a (three qA qS qC) = G6
      intro f6
      refine hq _ H G6 a x t DD D z ps way none hw0 hw1 (f5.trans f6) hD0 hDa RA WA WO hz (f6.sm _ _ (by rw [del_ne hDa]; exact hps)) (by omega) hpr q
end
end Kx
set_option Elab.async false
set_option linter.all false
set_option maxRecDepth 100000
set_option maxHeartbeats 4000000
namespace Kx
open PySem PySem.Spec PyProof.Rows L2
theorem stop_places {K mg} (T : Txt K mg) : PySem.W.exmOne K (.ref (He.ga K "BadPlaces")) (.ref (He.ga K "BadPlaces")) = some true := by
  have h := (ex_rest T).2.2.2.2.2.2
  unfold stopB at h
  have h1 := List.all_eq_true.mp (Bool.and_eq_true_iff.mp h).1 "BadPlaces" (List.mem_cons_self ..)
  have h2 := of_decide_eq_true h1
  rw [h2]
  rfl
def tBare (K : PySem.W.Frag) (a : Addr) (cls : Value) (d : Option Addr) : TS := fun D σ H => (∃ w0 w1 w2 w4 l, σ = [w0, w1, w2, some (.ref l), w4, some (.ref a)] ∧ H l = some (.lst [.str "thing", .str "BadPlaces", .str (PyData.tuple []).shown])) ∧
  ∃ (x : Str) (dd : Addr) (v : V), cls = .ref (He.ga K x) ∧ x ∈ toldl ∧ d = some dd ∧ H dd = some (.xd [("thing", v)]) ∧ PlS K H v (.tuple []) ∧ ∀ H', Same H H' → D.rt (.bl true) H'
theorem tup0_ok : PlcOk (.tuple []) := tup_ok (by decide) (fun x hx => by cases hx)
section
variable {P : Program} {w : World} {K : PySem.W.Frag} {mg : Str → Option Value} {base : Heap}
def sp_law_bare (K : PySem.W.Frag) : Sp := fun vs H Q _ => ∃ (x : Addr) (v : V) (D : RdD) (z : Str), vs = [.ref x, v, .str z] ∧ RdAt K H x D ∧ WAt H v D ∧ WOk D ∧ z.length ≤ 200 ∧ (∀ c ∈ z.cps.toList, c ∈ D.al.cps.toList) ∧ ∀ H', Same H H' → Q (.bl true) H'
theorem ok_law_bare (T : Txt K mg) : CalG P w K mg base CX0 6 "_law_bare" ["_law_reader", "_law_world_here", "_law_row"] (sp_law_bare K) := by
  obtain ⟨fd, F⟩ := F__law_bare T
  obtain ⟨fdC, FC⟩ := F_Reader___call__ T
  obtain ⟨dsC, hvC, hbC⟩ := bind2 FC
  refine calG_mk F (g__law_bare T) sc__law_bare (fun _ _ _ _ _ _ us hl => match us, hl with | [_, _, _], _ => rfl) (fun vs H Q E h => ?_) (fun cdv A outer s H vs Q E hG hr h => ?_)
  · obtain ⟨x, v, D, z, rfl, _⟩ := h; rfl
  · have hu := hr.units
    refine ⟨_, PSs.nox (pss_cons (ps_set (i := 3) sc__law_bare.nd rfl (Or.inl rfl) (pe_calG (ok_law_call_due T) hG (hr.mono (by decide)) pass0 (pa_cons (pv 1) (pa_cons (pv 2) (pa_cons (pe_tup pa_nil) pa_nil)))))
      (pss_cons (L2N.ps_try_as (i := 5) (c := .ref (He.ga K "BadPlaces")) (ts := tBare K) (Wout := fun _ _ _ _ => False) rfl rfl sc__law_bare.nd rfl rfl ⟨by rfl, by decide, .inl (g_BadPlaces T)⟩ takes_no
      (fun W pn xe tk po => pss_one (ps_set (i := 4) sc__law_bare.nd rfl (Or.inl rfl) (pe_callOD (E := fun σ cls d H => W cls d σ H) (dvs := [V.ref (noPl K)]) (pv 0) (callO_read T) (ok_Reader_call T FC) (hr.mono (by decide)) hbC hvC (passAtN tk) (pa_cons (pv 2) pa_nil))))
      (fun a oe cls d pn hz hf => ?_)) (pss_one (ps_ret (pe_and (pe_cmpR op_eq (pe_callB call_len (by rfl) (fr_len T) boot_len (pa_cons (pv 3) pa_nil)) pe_int (nomark _)) (pe_one (pe_cal (ok_law_is_truth T) (hr.mono (by decide)) pass0 (pa_cons (pv 4) (pa_cons (pe_ix ix_list (pv 3) pe_int (fun _ _ => rfl)) pa_nil))))))))), ?_⟩
    · refine psS_any fun D σ H h' => ?_
      obtain ⟨⟨w0, w1, w2, w4, l, rfl, hl⟩, x, dd, v, rfl, hx, rfl, h1, h2, h3⟩ := h'
      have EF := errF T hx
      refine ⟨_, (pss_one (ps_ret (pe_cmpR (op_eqD hu) (pv 3) (pe_lst (pa_cons pe_str (pa_cons pe_str (pa_cons (pe_callB (call_reprA hG hu) (by rfl) (fr_repr T) b_repr (pa_cons (pe_xfM (C := He.ga K x) EF.xf (EF.fld "thing" (by simp)) (List.mem_cons_self ..) ⟨hz.1, hz.2.1⟩ hf (pv 5)) pa_nil)) pa_nil)))) (nomark _)))), ?_⟩
      have ok0 := strOk_of
      have hzs : ∀ z ∈ ([("thing" : Str), "BadPlaces", (PyData.tuple []).shown] : List Str), PyData.strOk z = true := fun z hz => by
        simp only [List.mem_cons, List.not_mem_nil, or_false] at hz
        rcases hz with rfl | rfl | rfl
        · exact strOk_of _
        · exact strOk_of _
        · exact tup0_ok.2.o
      refine ⟨.ref l, rfl, .ref a, rfl, rfl, rfl, dd, _, _, rfl, h1, rfl, repr_pl h2 tup0_ok.2.r ⟨(by show 3 ≤ sizeLine; decide), fun u hu9 => ?_⟩⟩
      refine ⟨_, _, dp_names [("thing" : Str), "BadPlaces", (PyData.tuple []).shown] (same_upd hu9 _ _ hl), dp_names [("thing" : Str), "BadPlaces", (PyData.tuple []).shown] upd_same, shaped_strs hzs, shaped_strs hzs, ?_⟩
      rw [eqv_strs hzs]
      exact h3 _ (same_upd hu9)
    · obtain ⟨x, v, D, z, rfl, RA, WA, WO, hz, hal, q⟩ := h
      have WA' := WA
      obtain ⟨t, vm, vc, rfl, ht, _, _⟩ := WA'
      have hw := wrongL_ok (al := D.al.cps.toList) hz hal
      refine ⟨.ref t, rfl, .str z, rfl, (by show 0 ≤ sizeLine; decide), fun u hu9 => ?_⟩
      have s0 := same_upd (o := .tup []) hu9
      refine ⟨.ref t, .str z, .ref u, D, .str z, .tuple [], rfl, WA.same s0, WO, .str z, smallT_str (by omega), .tup upd_same .nil, tup0_ok.1, tup0_ok.2.r, fun H1 l s1 e1 => ?_⟩
      have s01 := s0.trans s1
      have RA1 := RA.same s01
      have RA2 := RA1
      obtain ⟨dx, vm', vc', h1, _⟩ := RA2
      refine ⟨.ref x, rfl, x, dx, _, rfl, .str z, rfl, h1, x, D, .str z, .ref (noPl K), .str z, .tuple [], rfl, RA1, WO.rd, .str z, smallT_str (by omega), .inr ⟨rfl, _, rfl, nopl_of T⟩, tup0_ok.1, fun k hk => ?_, fun y hy _ => ?_⟩
      · rw [hw] at hk; cases hk
      · cases hy
        refine ⟨fun hb H2 s2 d1 hd1 => ?_, fun hb H2 s2 => ?_⟩
        · have e : calledV D (.str z) (.tuple []) = [.str "thing", .str "BadPlaces", .str (PyData.tuple []).shown] := by
            unfold calledV
            rw [hw]
            exact if_neg (by rw [show (alS (.str z)) = z from rfl, hb]; exact Bool.false_ne_true)
          rw [e] at e1
          have s3 := s2.trans (same_upd (o := .xd [("thing", V.ref (noPl K))]) hd1)
          exact ⟨true, stop_places T, fun _ a2 _ => ⟨⟨_, _, _, _, l, rfl, s3 _ _ e1⟩, "BadPlaces", d1, _, rfl, by decide +kernel, rfl, upd_same, .inr ⟨rfl, _, rfl, nopl_of T⟩, fun H' s' => q H' (s01.trans (s3.trans s'))⟩, fun h => by cases h⟩
        · have e : calledV D (.str z) (.tuple []) = [.bl (accepts D z.cps.toList (placesI (.tuple [])))] := by
            unfold calledV
            rw [hw]
            exact if_pos hb
          rw [e] at e1
          have e2 := s2 _ _ e1
          refine ⟨.ref l, rfl, .ref l, 1, rfl, lenV_seq (.inl e2), rfl, _, rfl, iteT ⟨_, rfl, .ref l, rfl, l, _, 0, _, rfl, rfl, SqL.of e2, atI_nat (j := 0) rfl, _, _, rfl, ?_⟩⟩
          rw [decide_eq_true rfl]
          exact q _ (s01.trans s2)
end
end Kx
set_option Elab.async false
set_option linter.all false
set_option maxRecDepth 100000
set_option maxHeartbeats 4000000
namespace Kx
open PySem PySem.Spec PyProof.Rows L2 PySem.Calls Builtin
theorem op_eqR {X : Cx} {fd : FuncData} (T : Txt X.K X.mg) (F : FnOk X.prog X.w X.K X.mg X.base CX0 1 (He.ma X.K (He.ga X.K "Reader") "__eq__") fd ["self", "other"] (sp_Reader_eq X.K)) (hb : Binds X.K fd ["self", "other"] []) (hr : Room 1 X.A) :
    OpR X (compareOp .Eq) (rEqO X.K (He.ga X.K "Reader") (sp_Reader_eq X.K) E0 false) := op_eqO F hr (meth___eq__ T).at_ (meth___eq__ T).fn hb pass0
structure LawS (K : PySem.W.Frag) (a x y o t : Addr) (vm vc v' : V) (D D' : RdD) (b : Addr) (ns : List Int) (G : Hp) : Prop where
  src : SrcAt G a
  rx : RdAt K (del G a) x D
  ry : RdAt K (del G a) y D
  ro : RdAt K (del G a) o D'
  tup : del G a t = some (.tup [.str D.al, .str D.ns, vm, vc])
  rm : Rp (del G a) vm (rowsD D.mv)
  rc : Rp (del G a) vc (rowD D.ac)
  wd : WAt (del G a) v' D'
  sc : SqL K (del G a) b (ns.map V.int)
theorem sqL_same {K : PySem.W.Frag} {H H' : Hp} {a : Addr} {xs : List V} (s : Same H H') (h : SqL K H a xs) : SqL K H' a xs := by
  rcases h with (h | ⟨o, h⟩) | h
  · exact .inl (.inl (s _ _ h))
  · exact .inl (.inr ⟨o, s _ _ h⟩)
  · exact .inr h
section
variable {K : PySem.W.Frag} {a x y o t : Addr} {vm vc v' : V} {D D' : RdD} {b : Addr} {ns : List Int} {G G' : Hp}
theorem LawS.sm (h : LawS K a x y o t vm vc v' D D' b ns G) (hs : SrcAt G' a) (s : Same (del G a) (del G' a)) : LawS K a x y o t vm vc v' D D' b ns G' :=
  ⟨hs, h.rx.same s, h.ry.same s, h.ro.same s, s _ _ h.tup, h.rm.same s, h.rc.same s, h.wd.same s, sqL_same s h.sc⟩
theorem LawS.fra (h : LawS K a x y o t vm vc v' D D' b ns G) (f : Fra a G G') : LawS K a x y o t vm vc v' D D' b ns G' := h.sm f.src f.sm
theorem LawS.same (h : LawS K a x y o t vm vc v' D D' b ns G) (s : Same G G') : LawS K a x y o t vm vc v' D D' b ns G' := h.fra (Fra.same h.src s)
theorem LawS.wt (h : LawS K a x y o t vm vc v' D D' b ns G) : WAt (del G a) (.ref t) D := ⟨t, vm, vc, rfl, h.tup, h.rm, h.rc⟩
/-- a fresh source beside -/
theorem beside {a1 : Addr} {H H1 H2 : Hp} (s : Same H H1) (hn : H a1 = none) (f : Fra a1 H1 H2) : Same H H2 := fun c u e => by
  have hc : c ≠ a1 := ne_of_none e hn
  exact f.up _ _ (by rw [del_ne hc]; exact s _ _ e)
theorem fresh_del {a1 : Addr} {H H1 : Hp} (s : Same H H1) (hn : H a1 = none) : Same H (del H1 a1) := fun c u e => by
  rw [del_ne (ne_of_none e hn)]
  exact s _ _ e
theorem RdAt.dx {H : Hp} (h : RdAt K H x D) : ∃ dx fs, H x = some (.ins (He.ga K "Reader") dx fs) := by
  obtain ⟨dx, vm, vc, h1, _⟩ := h
  exact ⟨dx, _, h1⟩
/-- readers compared -/
theorem eq_rd {H : Hp} {Q : VK} {mg : Str → Option Value} (T : Txt K mg) (h1 : RdAt K H x D) (h2 : RdAt K H y D') (q : Q (.bl (eqR D D')) H) : rEqO K (He.ga K "Reader") (sp_Reader_eq K) E0 false (.ref x) (.ref y) H Q := by
  obtain ⟨dx, fs, e⟩ := h1.dx
  exact ⟨x, dx, fs, rfl, e, ⟨_, ty_read T h2, by unfold PySem.W.notFirst; simp⟩, x, .ref y, D, rfl, h1, .inl ⟨y, D', rfl, h2, _, rfl, q⟩⟩
end
end Kx
set_option Elab.async false
set_option linter.all false
set_option maxRecDepth 100000
set_option maxHeartbeats 4000000
namespace Kx
open PySem PySem.Spec PyProof.Rows L2
section
variable {P : Program} {w : World} {K : PySem.W.Frag} {mg : Str → Option Value} {base : Heap}
theorem lw_tail18 (T : Txt K mg) {cdv : Value} {A : Around} {outer : List Env} {s : Shared} {H : Hp} {E : XK} (hG : A.guards = some []) (hr : Room 8 (A.deeper (envOfC "law" (defScope s_law) s.heap.objs.size (He.ga K "law") cdv))) :
    ∃ tk : TS, PSs (cxOf CX0 P w K mg base N_law "law" (defScope s_law) (He.ga K "law") cdv A outer s H E).nox ((defBody s_law).drop 18) tk ∧
      ∀ (Dn : Ends) (G : Hp) (a x y o t b : Addr) (vm vc v' : V) (D D' : RdD) (ns : List Int) (w5 w6 w7 w8 w12 w15 : Option V), WOk D → D.al ∈ menuB → D.ns ∈ menuN → LawS K a x y o t vm vc v' D D' b ns G → (∀ H', Dn.rt (.bl true) H') →
        tk Dn [some (.ref b), some (.ref a), some (.ref t), some (.str D.al), some (.str D.ns), w5, w6, w7, w8, some (.ref x), some (.ref y), some v', w12, none, none, w15] G := by
  refine ⟨_, (pss_cons (ps_for PassesOwn.never rfl (pi_list (pe_lst (pa_cons pe_str (pa_cons (pe_ix ix_str (pv 3) pe_int (fun _ _ => rfl)) (pa_cons (pe_cal (ok_law_word T) (hr.mono (by decide)) pass0 (pa_cons (pv 1) (pa_cons (pv 3) (pa_cons pe_int pa_nil)))) pa_nil))))) (pg_name (i := 13) sc_law.nd rfl (Or.inl rfl)) (pss_one (ps_if (pt_not (pt_val (pe_calG (ok_law_bare T) hG (hr.mono (by decide)) pass0 (pa_cons (pv 9) (pa_cons (pv 2) (pa_cons (pv 13) pa_nil)))))) (pss_one (ps_ret pe_bl)) pss_nil)))
        (pss_cons (ps_for PassesOwn.never rfl (pi_range1 (by rfl) (fr_range T) (pa_cons pe_int pa_nil)) (pg_name (i := 14) sc_law.nd rfl (Or.inl rfl)) (pss_one (ps_if (PW.pt (pw_or (pt_not (pt_val (pe_calG (ok_law_refused T) hG (hr.mono (by decide)) pass0 (pa_cons (pv 1) (pa_cons (pv 2) pa_nil))))) (pw_or1 (pt_not (pt_val (pe_calG (ok_law_call_refused T) hG (hr.mono (by decide)) pass0 (pa_cons (pv 1) (pa_cons (pv 9) (pa_cons (pv 2) pa_nil))))))))) (pss_one (ps_ret pe_bl)) pss_nil)))
        (pss_one (ps_ret (pe_and (pe_cal (ok_law_has T) (hr.mono (by decide)) pass0 (pa_cons (pv 9) (pa_cons (pv 2) pa_nil))) (pe_one (pe_cal (ok_law_has T) (hr.mono (by decide)) pass0 (pa_cons (pv 10) (pa_cons (pv 2) pa_nil))))))))), ?_⟩
  intro Dn G a x y o t b vm vc v' D D' ns w5 w6 w7 w8 w12 w15 WO hal hns S q
  have hal8 := WO.rd.al8
  have hlal : D.al.cps.toList.length = D.al.length := Array.length_toList
  obtain ⟨c0, hc0⟩ : ∃ c0, D.al.cps.toList[0]? = some c0 := ⟨_, List.getElem?_eq_getElem (by omega)⟩
  have hc0m := List.mem_of_getElem? hc0
  refine ⟨.str D.al, rfl, D.al, 0, c0, rfl, rfl, Nat.le_trans hal8.2 (by decide), atI_nat (j := 0) hc0, .ref a, rfl, .str D.al, rfl, a, D.al, 6, rfl, hal8.1, hal8.2, (by decide), S.src, fun G1 cs f1 hcs hcl => ?_⟩
  have hjl := join_len cs
  have hjc := join_list cs
  generalize Txt.join "" (cs.map one1) = z at hjl hjc
  refine ⟨(by show 3 ≤ sizeLine; decide), fun lr hlr => ?_⟩
  have S1 := (S.fra f1).same (same_upd (o := .lst [.str "", .str ⟨#[c0]⟩, .str z]) hlr)
  have e1 : upd G1 lr (.lst [.str "", .str ⟨#[c0]⟩, .str z]) lr = some (.lst (([("" : Str), ⟨#[c0]⟩, z]).map V.str)) := upd_same
  revert S1 e1
  generalize upd G1 lr (.lst [.str "", .str ⟨#[c0]⟩, .str z]) = G2
  intro S1 e1
  have rows : ∀ y ∈ ([("" : Str), ⟨#[c0]⟩, z]), y.length ≤ 200 ∧ ∀ c ∈ y.cps.toList, c ∈ D.al.cps.toList := fun y hy => by
    simp only [List.mem_cons, List.not_mem_nil, or_false] at hy
    rcases hy with rfl | rfl | rfl
    · exact ⟨by decide, fun c hc => by cases hc⟩
    · refine ⟨by show 1 ≤ 200; decide, fun c hc => ?_⟩
      rw [List.mem_singleton.mp (show c ∈ [c0] from hc)]
      exact hc0m
    · refine ⟨by omega, fun c hc => ?_⟩
      rw [hjc] at hc
      exact hcs c hc
  refine ⟨lr, rfl, ⟨_, SqL.of e1⟩, ?_⟩
  refine for_it (walk_list (xs := ([("" : Str), ⟨#[c0]⟩, z]).map V.str)) (fun i σ G => ∃ w13 : Option V, σ = [some (.ref b), some (.ref a), some (.ref t), some (.str D.al), some (.str D.ns), w5, w6, w7, w8, some (.ref x), some (.ref y), some v', w12, w13, none, w15] ∧ Same G2 G)
    ⟨none, rfl, Same.refl _⟩ (fun i σ G _ ⟨_, _, sG⟩ => SqL.of (sG _ _ e1)) ?_ ?_
  · rintro i vx σ G3 G4 hi ⟨w13, rfl, sG⟩ ⟨rfl, hx⟩
    rw [List.getElem?_map] at hx
    obtain ⟨row, hrow, rfl⟩ := Option.map_eq_some_iff.mp hx
    obtain ⟨h1, h2⟩ := rows row (List.mem_of_getElem? hrow)
    have S3 := S1.same sG
    refine ⟨.ref x, rfl, .ref t, rfl, .str row, rfl, x, .ref t, D, row, rfl, S3.rx.same (del_le a), S3.wt.same (del_le a), WO, h1, h2, fun H' s' => ⟨_, rfl, iteF ⟨_, rfl, sG.trans s'⟩⟩⟩
  · rintro σ G3 ⟨w13, rfl, sG⟩
    have S3 := S1.same sG
    refine ⟨3, rfl, (by decide), (by decide), ?_⟩
    refine for_it (walk_range (n := 3)) (fun i σ G => ∃ w14 : Option V, σ = [some (.ref b), some (.ref a), some (.ref t), some (.str D.al), some (.str D.ns), w5, w6, w7, w8, some (.ref x), some (.ref y), some v', w12, w13, w14, w15] ∧ Fra a G3 G)
      ⟨none, rfl, Fra.refl S3.src⟩ (fun _ _ _ _ _ => trivial) ?_ ?_
    · rintro i vx σ G4 G5 hi ⟨w14, rfl, fG⟩ ⟨eH, ex0⟩
      replace eH := eH.symm
      subst eH
      have S4 := S3.fra fG
      refine ⟨.ref a, rfl, .ref t, rfl, a, .ref t, D, rfl, S4.src, S4.wt, WO, hal, hns, fun G6 f6 => ⟨_, rfl, iteF ?_⟩⟩
      have S6 := S4.fra f6
      refine ⟨.ref a, rfl, .ref x, rfl, .ref t, rfl, a, x, .ref t, D, rfl, S6.src, S6.rx, S6.wt, WO, fun G7 f7 => ⟨_, rfl, iteF ⟨_, rfl, fG.trans (f6.trans f7)⟩⟩⟩
    · rintro σ G4 ⟨w14, rfl, fG⟩
      have S4 := S3.fra fG
      refine ⟨.ref x, rfl, .ref t, rfl, x, .ref t, D, rfl, S4.rx.same (del_le a), S4.wt.same (del_le a), WO, fun G5 s5 => ⟨true, rfl, iteT ?_⟩⟩
      have S5 := S4.same s5
      exact ⟨.ref y, rfl, .ref t, rfl, y, .ref t, D, rfl, S5.ry.same (del_le a), S5.wt.same (del_le a), WO, fun G6 _ => q G6⟩
end
end Kx
set_option Elab.async false
set_option linter.all false
set_option maxRecDepth 100000
set_option maxHeartbeats 4000000
namespace Kx
open PySem PySem.Spec PyProof.Rows L2
section
variable {K : PySem.W.Frag} {x : Addr} {D : RdD}
theorem eq_tup {H : Hp} {Q : VK} {mg : Str → Option Value} {u : Addr} {xs : List V} (T : Txt K mg) (h1 : RdAt K H x D) (hu : H u = some (.tup xs)) (q : Q (.bl false) H) : rEqO K (He.ga K "Reader") (sp_Reader_eq K) E0 false (.ref x) (.ref u) H Q := by
  obtain ⟨dx, fs, e⟩ := h1.dx
  have ko : Ko K H (.ref u) .tup := .base (.tup hu)
  exact ⟨x, dx, fs, rfl, e, ⟨_, ko, (readF T).nft⟩, x, .ref u, D, rfl, h1, .inr ⟨.tup, .inr (.inl rfl), ko, _, rfl, q⟩⟩
theorem eq_int {H : Hp} {Q : VK} {mg : Str → Option Value} {i : Int} (T : Txt K mg) (h1 : RdAt K H x D) (q : Q (.bl false) H) : rEqO K (He.ga K "Reader") (sp_Reader_eq K) E0 false (.ref x) (.int i) H Q := by
  obtain ⟨dx, fs, e⟩ := h1.dx
  have ko : Ko K H (.int i) .int := (Rp.int (H := H) i).ko
  exact ⟨x, dx, fs, rfl, e, ⟨_, ko, (readF T).nfi⟩, x, .int i, D, rfl, h1, .inr ⟨.int, .inl rfl, ko, _, rfl, q⟩⟩
theorem eq_non {H : Hp} {Q : VK} {mg : Str → Option Value} (T : Txt K mg) (h1 : RdAt K H x D) (q : Q (.bl false) H) : rEqO K (He.ga K "Reader") (sp_Reader_eq K) E0 false (.ref x) .non H Q := by
  obtain ⟨dx, fs, e⟩ := h1.dx
  have ko : Ko K H .non .non := (Rp.non (H := H)).ko
  exact ⟨x, dx, fs, rfl, e, ⟨_, ko, (readF T).nfn⟩, x, .non, D, rfl, h1, .inr ⟨.non, .inr (.inr rfl), ko, _, rfl, q⟩⟩
theorem eqR_selfL (D : RdD) : eqR D D = true := eqR_iff.mpr rfl
theorem eqR_neL {D D' : RdD} (h : D' ≠ D) : eqR D D' = false ∧ eqR D' D = false := by
  constructor
  · cases e : eqR D D' with
    | false => rfl
    | true => exact absurd (eqR_iff.mp e).symm h
  · cases e : eqR D' D with
    | false => rfl
    | true => exact absurd (eqR_iff.mp e) h
end
section
variable {P : Program} {w : World} {K : PySem.W.Frag} {mg : Str → Option Value} {base : Heap}
theorem lw_tail13 (T : Txt K mg) {cdv : Value} {A : Around} {outer : List Env} {s : Shared} {H : Hp} {E : XK} (hG : A.guards = some []) (hr : Room 8 (A.deeper (envOfC "law" (defScope s_law) s.heap.objs.size (He.ga K "law") cdv))) :
    ∃ tk : TS, PSs (cxOf CX0 P w K mg base N_law "law" (defScope s_law) (He.ga K "law") cdv A outer s H E).nox ((defBody s_law).drop 13) tk ∧
      ∀ (Dn : Ends) (G : Hp) (a x y o t b : Addr) (vm vc v' : V) (D D' : RdD) (ns : List Int) (w7 w8 w15 : Option V), WOk D → D.al ∈ menuB → D.ns ∈ menuN → WOk D' → D' ≠ D → ns.length ≤ 1000 → (∀ n ∈ ns, Builtin.Int.intBits n ≤ 1048576) → LawS K a x y o t vm vc v' D D' b ns G → (∀ H', Dn.rt (.bl true) H') →
        tk Dn [some (.ref b), some (.ref a), some (.ref t), some (.str D.al), some (.str D.ns), some vm, some vc, w7, w8, some (.ref x), some (.ref y), some v', some (.ref o), none, none, w15] G := by
  obtain ⟨tk, htl, hq⟩ := lw_tail18 (P := P) (w := w) (base := base) (cdv := cdv) (A := A) (outer := outer) (s := s) (H := H) (E := E) T hG hr
  obtain ⟨fdQ, FQ0⟩ := F_Reader___eq__ T
  have FQ := ok_Reader_eq (P := P) (w := w) (base := base) T FQ0
  have bQ : Binds K fdQ ["self", "other"] [] := FQ0.bindsN fun _ _ _ _ _ _ us hl => match us, hl with | [_, _], _ => rfl
  refine ⟨_, (pss_cons (ps_if (PW.pt (pw_or (pt_not (pt_val (pe_cal (ok_law_answers T) (hr.mono (by decide)) pass0 (pa_cons (pv 9) (pa_cons (pv 2) (pa_cons (pe_cal (ok_law_source T) (hr.mono (by decide)) pass0 (pa_cons (pv 0) (pa_cons pe_int pa_nil))) pa_nil)))))) (pw_or1 (pt_not (pt_val (pe_cal (ok_law_has T) (hr.mono (by decide)) pass0 (pa_cons (pv 9) (pa_cons (pv 2) pa_nil)))))))) (pss_one (ps_ret pe_bl)) pss_nil)
        (pss_cons (ps_if (PW.pt (pw_or (pt_not (pt_val (pe_cal (ok_law_answers T) (hr.mono (by decide)) pass0 (pa_cons (pv 12) (pa_cons (pv 11) (pa_cons (pe_cal (ok_law_source T) (hr.mono (by decide)) pass0 (pa_cons (pv 0) (pa_cons pe_int pa_nil))) pa_nil)))))) (pw_or1 (pt_not (pt_val (pe_cal (ok_law_has T) (hr.mono (by decide)) pass0 (pa_cons (pv 12) (pa_cons (pv 11) pa_nil)))))))) (pss_one (ps_ret pe_bl)) pss_nil)
        (pss_cons (ps_if (pt_not (pt_val (pe_cal (ok_law_answers T) (hr.mono (by decide)) pass0 (pa_cons (pv 9) (pa_cons (pv 2) (pa_cons (pe_cal (ok_law_source T) (hr.mono (by decide)) pass0 (pa_cons (pv 0) (pa_cons pe_int pa_nil))) pa_nil)))))) (pss_one (ps_ret pe_bl)) pss_nil)
        (pss_cons (ps_if (PW.pt (pw_or (pt_not (pt_cmpR (op_eqR T FQ bQ (hr.mono (by decide))) (pv 9) (pv 10) (nomark _))) (pw_or (pt_not (pt_cmpR (op_eqR T FQ bQ (hr.mono (by decide))) (pv 10) (pv 9) (nomark _))) (pw_or (pt_cmpR (op_eqR T FQ bQ (hr.mono (by decide))) (pv 9) (pv 12) (nomark _)) (pw_or1 (pt_cmpR (op_eqR T FQ bQ (hr.mono (by decide))) (pv 12) (pv 9) (nomark _))))))) (pss_one (ps_ret pe_bl)) pss_nil)
        (pss_cons (ps_if (PW.pt (pw_or (pt_cmpR (op_eqR T FQ bQ (hr.mono (by decide))) (pv 9) (pe_tup (pa_cons (pv 3) (pa_cons (pv 4) (pa_cons (pe_cal (ok_law_tuples T) (hr.mono (by decide)) pass0 (pa_cons (pv 5) pa_nil)) (pa_cons (pe_callTy call_tuple_of (by rfl) (fr_tuple T) b_tuple (pa_cons (pv 6) pa_nil)) pa_nil))))) (nomark _)) (pw_or (pt_cmpR (op_eqR T FQ bQ (hr.mono (by decide))) (pv 9) (pe_callB call_len (by rfl) (fr_len T) boot_len (pa_cons (pv 5) pa_nil)) (nomark _)) (pw_or1 (pt_cmpR (op_eqR T FQ bQ (hr.mono (by decide))) (pv 9) pe_non (nomark _)))))) (pss_one (ps_ret pe_bl)) pss_nil)
        htl))))), ?_⟩
  intro Dn G a x y o t b vm vc v' D D' ns w7 w8 w15 WO hal hns WO' hne hnl hbits S q
  -- answers, and what is kept
  refine ⟨.ref x, rfl, .ref t, rfl, .ref b, rfl, b, ns, 1, rfl, sqL_same (del_le a) S.sc, hnl, hbits, (by decide), fun G1 a1 s1 src1 n1 => ?_⟩
  refine ⟨a1, x, .ref t, D, rfl, src1, (S.rx.same (del_le a)).same (fresh_del s1 n1), (S.wt.same (del_le a)).same (fresh_del s1 n1), WO, fun G2 f2 => ⟨_, rfl, iteF ?_⟩⟩
  have S2 := S.same (beside s1 n1 f2)
  refine ⟨.ref x, rfl, .ref t, rfl, x, .ref t, D, rfl, S2.rx.same (del_le a), S2.wt.same (del_le a), WO, fun G3 s3 => ⟨_, rfl, iteF ?_⟩⟩
  have S3 := S2.same s3
  -- the other
  refine ⟨.ref o, rfl, v', rfl, .ref b, rfl, b, ns, 1, rfl, sqL_same (del_le a) S3.sc, hnl, hbits, (by decide), fun G4 a4 s4 src4 n4 => ?_⟩
  refine ⟨a4, o, v', D', rfl, src4, (S3.ro.same (del_le a)).same (fresh_del s4 n4), (S3.wd.same (del_le a)).same (fresh_del s4 n4), WO', fun G5 f5 => ⟨_, rfl, iteF ?_⟩⟩
  have S5 := S3.same (beside s4 n4 f5)
  refine ⟨.ref o, rfl, v', rfl, o, v', D', rfl, S5.ro.same (del_le a), S5.wd.same (del_le a), WO', fun G6 s6 => ⟨_, rfl, iteF ?_⟩⟩
  have S6 := S5.same s6
  -- once more
  refine ⟨.ref x, rfl, .ref t, rfl, .ref b, rfl, b, ns, 2, rfl, sqL_same (del_le a) S6.sc, hnl, hbits, (by decide), fun G7 a7 s7 src7 n7 => ?_⟩
  refine ⟨a7, x, .ref t, D, rfl, src7, (S6.rx.same (del_le a)).same (fresh_del s7 n7), (S6.wt.same (del_le a)).same (fresh_del s7 n7), WO, fun G8 f8 => ⟨_, rfl, iteF ?_⟩⟩
  have S8 := S6.same (beside s7 n7 f8)
  have rx := S8.rx.same (del_le a)
  have ry := S8.ry.same (del_le a)
  have ro := S8.ro.same (del_le a)
  obtain ⟨e1, e2⟩ := eqR_neL hne
  -- equals
  refine ⟨.ref x, rfl, .ref y, rfl, eq_rd T rx ry ⟨_, rfl, ?_⟩⟩
  rw [eqR_selfL]
  refine iteF ⟨.ref y, rfl, .ref x, rfl, eq_rd T ry rx ⟨_, rfl, ?_⟩⟩
  rw [eqR_selfL]
  refine iteF ⟨.ref x, rfl, .ref o, rfl, eq_rd T rx ro ⟨_, rfl, ?_⟩⟩
  rw [e1]
  refine iteF ⟨.ref o, rfl, .ref x, rfl, eq_rd T ro rx ⟨_, rfl, ?_⟩⟩
  rw [e2]
  refine iteF ?_
  -- other things
  have rm8 := S8.rm.same (del_le a)
  obtain ⟨ma, bs0, rfl, hma, hbl, _⟩ := rp_list rm8
  obtain ⟨ca, rfl, hca⟩ := rp_row (S8.rc.same (del_le a))
  refine ⟨.ref x, rfl, _, rfl, _, rfl, .ref ma, rfl, .ref ma, D.mv, rfl, rm8, WO.mv.le, fun G9 rt9 s9 hrt => ?_⟩
  refine ⟨.ref ca, rfl, ca, _, rfl, .inl ⟨SqL.of (s9 _ _ hca), fun u hu => ?_⟩⟩
  refine ⟨(by show 4 ≤ sizeLine; decide), fun u2 hu2 => ?_⟩
  have s10 := s9.trans ((same_upd (o := .tup (D.ac.map fun (k : Nat) => V.int (k : Nat))) hu).trans (same_upd (o := .tup [.str D.al, .str D.ns, rt9, .ref u]) hu2))
  refine eq_tup T (rx.same s10) upd_same ⟨_, rfl, iteF ?_⟩
  revert s10
  generalize upd (upd G9 u (.tup (D.ac.map fun (k : Nat) => V.int (k : Nat)))) u2 (.tup [.str D.al, .str D.ns, rt9, .ref u]) = G10
  intro s10
  refine ⟨.ref x, rfl, .ref ma, rfl, .ref ma, _, rfl, .inl ⟨_, SqL.of (s10 _ _ hma), rfl⟩, eq_int T (rx.same s10) ⟨_, rfl, iteF ?_⟩⟩
  obtain ⟨dx, fs, ex⟩ := (rx.same s10).dx
  have kon : Ko K G10 .non .non := (Rp.non (H := G10)).ko
  refine ⟨.ref x, rfl, x, dx, fs, rfl, ex, ⟨_, kon, (readF T).nfn⟩, x, .non, D, rfl, rx.same s10, .inr ⟨.non, .inr (.inr rfl), kon, _, rfl, ⟨_, rfl, iteF ?_⟩⟩⟩
  exact hq Dn G10 a x y o t b _ _ v' D D' ns _ _ _ _ _ _ WO hal hns (S8.same s10) q
end
end Kx
set_option Elab.async false
set_option linter.all false
set_option maxRecDepth 100000
set_option maxHeartbeats 4000000
namespace Kx
open PySem PySem.Spec PyProof.Rows L2
mutual
theorem pure_nd : ∀ {d : PyData}, pureD d = true → d.hasDict = false
  | .none, _ => by simp only [PyData.hasDict]
  | .int _, _ => by simp only [PyData.hasDict]
  | .str _, _ => by simp only [PyData.hasDict]
  | .tuple ds, h => by
    simp only [pureD] at h
    simp only [PyData.hasDict]
    exact pureL_nd h
  | .list ds, h => by
    simp only [pureD] at h
    simp only [PyData.hasDict]
    exact pureL_nd h
  | .bool _, h => by simp only [pureD] at h; cases h
  | .dict _, h => by simp only [pureD] at h; cases h
theorem pureL_nd : ∀ {ds : List PyData}, pureL ds = true → PyData.hasDictAll ds = false
  | [], _ => by simp only [PyData.hasDictAll]
  | d :: ds, h => by
    simp only [pureL, Bool.and_eq_true] at h
    simp only [PyData.hasDictAll, pure_nd h.1, pureL_nd h.2, Bool.or_false]
end
theorem rowD_pure (m : List Nat) : pureD (rowD m) = true := by
  unfold rowD
  simp only [pureD]
  exact pureL_map fun k _ => rfl
theorem rowsD_pure (t : List (List Nat)) : pureD (rowsD t) = true := by
  unfold rowsD
  simp only [pureD]
  exact pureL_map fun m _ => rowD_pure m
theorem rowD_depth (m : List Nat) : (rowD m).depth ≤ 1 := by
  unfold rowD
  have h : PyData.depthAll (m.map fun k : Nat => PyData.int (k : Nat)) ≤ 0 := depthAll_map fun _ _ => by simp [PyData.depth]
  simp only [PyData.depth]
  omega
theorem rowsD_depth (t : List (List Nat)) : (rowsD t).depth ≤ 2 := by
  unfold rowsD
  have h : PyData.depthAll (t.map rowD) ≤ 1 := depthAll_map fun m _ => rowD_depth m
  simp only [PyData.depth]
  omega
/-- things that are alike are not unlike -/
theorem ne_pure {K : PySem.W.Frag} {H : Hp} {v u : V} {d : PyData} {Q : VK} (hv : Rp H v d) (hu : Rp H u d) (hp : pureD d = true) (hd : d.depth ≤ 60) (q : Q (.bl false) H) : rNeD K v u H Q := by
  refine ⟨d, d, hv.dp (pure_nd hp), hu.dp (pure_nd hp), shaped_of hp hd, shaped_of hp hd, ?_⟩
  rw [(eqv_pure hp hp).mpr rfl]
  exact q
/-! ### a world's things are right -/
theorem firstBad_no {p : PyData → Bool} : ∀ {ds : List PyData} {k : Int}, (∀ x ∈ ds, p x = true) → firstBad p ds k = none
  | [], _, _ => rfl
  | d :: ds, k, h => by
    unfold firstBad
    rw [if_pos (h d (List.mem_cons_self ..))]
    exact firstBad_no fun x hx => h x (List.mem_cons_of_mem _ hx)
theorem accGo_no {m : Int} : ∀ {l : List Nat} {p : Option Int} {k : Int}, l.Pairwise (· < ·) → (∀ x ∈ l, (x : Int) < m) → (∀ j, p = some j → ∀ x ∈ l, j < (x : Int)) → accGo m p (l.map fun k : Nat => PyData.int (k : Nat)) k = none
  | [], _, _, _, _, _ => rfl
  | x :: l, p, k, hs, hm, hp => by
    show (if (decide ((0 : Int) ≤ (x : Nat)) && decide (((x : Nat) : Int) < m)) && p.all (fun j => decide (j < ((x : Nat) : Int))) then accGo m (some ((x : Nat) : Int)) (l.map fun k : Nat => PyData.int (k : Nat)) (k + 1) else some k) = none
    have h1 : ((decide ((0 : Int) ≤ (x : Nat)) && decide (((x : Nat) : Int) < m)) && p.all (fun j => decide (j < ((x : Nat) : Int)))) = true := by
      rw [decide_eq_true (by omega), decide_eq_true (hm x (List.mem_cons_self ..)), Bool.true_and, Bool.true_and]
      cases p with
      | none => rfl
      | some j => exact decide_eq_true (hp j rfl x (List.mem_cons_self ..))
    rw [if_pos h1]
    rw [List.pairwise_cons] at hs
    exact accGo_no hs.2 (fun y hy => hm y (List.mem_cons_of_mem _ hy)) fun j e y hy => by
      cases e
      have := hs.1 y hy
      omega
theorem moveT_of {x : PyData} {m : List Nat} (h : itemsD x = some (m.map fun k : Nat => PyData.int (k : Nat))) : moveT x = m := by
  unfold moveT
  rw [h]
  show (m.map fun k : Nat => PyData.int (k : Nat)).map natD = m
  rw [List.map_map]
  exact (List.map_congr_left fun k _ => show natD (.int (k : Nat)) = k from Int.toNat_natCast k).trans (List.map_id _)
theorem tabD_of {d : PyData} {t : Tab} {f : List Nat → PyData} (h : itemsD d = some (t.map f)) (hf : ∀ m, itemsD (f m) = some (m.map fun k : Nat => PyData.int (k : Nat))) : tabD d = t := by
  unfold tabD
  rw [h]
  show (t.map f).map moveT = t
  rw [List.map_map]
  exact (List.map_congr_left fun m _ => moveT_of (hf m)).trans (List.map_id _)
theorem due_ok {D : RdD} {m c : PyData} {f : List Nat → PyData} (WO : WOk D) (hm : itemsD m = some (D.mv.map f)) (hf : ∀ m, itemsD (f m) = some (m.map fun k : Nat => PyData.int (k : Nat))) (hc : itemsD c = some (D.ac.map fun k : Nat => PyData.int (k : Nat))) :
    readDue (.str D.al) (.str D.ns) m c = .ok ∧ readD (.str D.al) (.str D.ns) m c = D ∧ (smallT (.str D.al) ∧ smallT (.str D.ns) ∧ smallR m ∧ smallL c) := by
  have hl : (D.mv.map f).length = D.mv.length := List.length_map ..
  have hn4 := WO.rd.ns4
  have hal8 := WO.rd.al8
  obtain ⟨t1, t2⟩ := two_le hn4
  have hrow : ∀ m ∈ D.mv, m.length ≤ 128 := fun m hm => by
    rw [WO.mv.row m hm]
    exact Nat.le_trans (Nat.mul_le_mul hal8.2 t2) (by decide)
  have h1 : movesDue (D.al.length * 2 ^ D.ns.length) m = none := by
    unfold movesDue
    rw [hm]
    dsimp only
    rw [if_pos (by rw [hl]; exact ⟨WO.mv.pos, WO.mv.le⟩), hl]
    refine firstBad_no fun x hx => ?_
    obtain ⟨r, hr, rfl⟩ := List.mem_map.mp hx
    refine moveD_ok (ps := r.map fun k : Nat => (k : Int)) (by rw [hf r, List.map_map]; rfl) (by rw [List.length_map, WO.mv.row r hr]) fun p hp => ?_
    obtain ⟨k, hk, rfl⟩ := List.mem_map.mp hp
    have := WO.mv.lt r hr k hk
    omega
  have hlen : lenD m = D.mv.length := by unfold lenD; rw [hm]; exact hl
  have h2 : accDue (lenD m : Nat) c = none := by
    unfold accDue
    rw [hc, hlen]
    exact accGo_no WO.asc (fun x hx => by have := WO.ac x hx; omega) (fun j e => by cases e)
  refine ⟨?_, ?_, smallT_str (by omega), smallT_str (by omega), fun ds e => ?_, fun ds e => ?_⟩
  · unfold readDue
    rw [if_pos (show alphaD (.str D.al) = true from WO.al), if_pos WO.ns]
    show (match movesDue (D.al.length * 2 ^ D.ns.length) m with
      | some k => RDue.move k
      | none => match accDue (lenD m : Nat) c with
        | some k => .acc k
        | none => .ok) = .ok
    rw [h1]
    dsimp only
    rw [h2]
  · unfold readD
    rw [tabD_of hm hf, moveT_of hc]
    rfl
  · rw [hm] at e
    cases e
    rw [hl]
    refine ⟨Nat.le_trans WO.mv.le (by decide), fun x hx => ?_⟩
    obtain ⟨r, hr, rfl⟩ := List.mem_map.mp hx
    intro ds e
    rw [hf r] at e
    cases e
    rw [List.length_map]
    have := hrow r hr
    omega
  · rw [hc] at e
    cases e
    rw [List.length_map]
    have := ac_len WO
    omega
theorem init_right {K : PySem.W.Frag} {H : Hp} {x dx : Addr} {va vn vm vc : V} {a n m c : PyData} {D : RdD} {Q : Hp → Prop} {E : XK} (hx : H x = none) (hd : H dx = none) (hne : dx ≠ x) (ra : Rp H va a) (rn : Rp H vn n) (rm : Rp H vm m) (rc : Rp H vc c)
    (h : readDue a n m c = .ok ∧ readD a n m c = D ∧ (smallT a ∧ smallT n ∧ smallR m ∧ smallL c)) (q : ∀ H', Same H H' → RdAt K H' x D → Q H') :
    sp_Reader_init K [.ref x, va, vn, vm, vc] (upd (upd H dx (.own x)) x (.ins (He.ga K "Reader") dx [])) (fun v H2 => v = .non ∧ Q H2) E := by
  have s0 := same_made (C := He.ga K "Reader") hx hd
  obtain ⟨hok, hD, sm⟩ := h
  refine ⟨x, dx, va, vn, vm, vc, a, n, m, c, rfl, upd_same, by rw [upd_ne hne]; exact upd_same, hne, ra.same s0, rn.same s0, rm.same s0, rc.same s0, sm, fun H1 sx => ?_, fun _ H1 sx RA _ => ⟨rfl, q H1 (sameX_made hx hd sx) (hD ▸ RA)⟩⟩
  intro d1 _
  rw [hok]
  trivial
/-- a reader stands beside lists -/
theorem rd_dl {K : PySem.W.Frag} {H : Hp} {x : Addr} {D : RdD} {L : List Addr} (h : RdAt K H x D) (hL : ∀ b ∈ L, ∃ xs, H b = some (.lst xs)) : RdAt K (Kx.dl L H) x D := by
  obtain ⟨dx, vm, vc, h1, h2, h3, h4⟩ := h
  have no : ∀ {b : Addr} {o : HO}, H b = some o → (∀ xs, o ≠ .lst xs) → b ∉ L := fun e hn hb => by
    obtain ⟨xs, e'⟩ := hL _ hb
    rw [e] at e'
    cases e'
    exact hn _ rfl
  have tp : Tups H (Kx.dl L H) := fun b xs e => dl_at (no e fun _ z => by cases z) e
  exact ⟨dx, vm, vc, dl_at (no h1 fun _ z => by cases z) h1, dl_at (no h2 fun _ z => by cases z) h2, h3.tups tp, h4.tups tp⟩
theorem dl_in {L : List Addr} {H : Hp} {b : Addr} {o : HO} (h : b ∈ L) : Kx.dl L (upd H b o) = Kx.dl L H := by
  funext x
  unfold Kx.dl
  by_cases hx : x ∈ L
  · rw [if_pos hx, if_pos hx]
  · have hne : x ≠ b := fun z => hx (z ▸ h)
    rw [if_neg hx, if_neg hx, upd_ne hne]
end Kx
set_option Elab.async false
set_option linter.all false
set_option maxRecDepth 100000
set_option maxHeartbeats 4000000
namespace Kx
open PySem PySem.Spec PyProof.Rows L2
section
variable {P : Program} {w : World} {K : PySem.W.Frag} {mg : Str → Option Value} {base : Heap}
def sp_law (K : PySem.W.Frag) : Sp := fun vs H Q _ => ∃ (b : Addr) (ns : List Int), vs = [.ref b] ∧ SqL K H b (ns.map V.int) ∧ ns.length ≤ 1000 ∧ (∀ n ∈ ns, Builtin.Int.intBits n ≤ 1048576) ∧ ∀ H', Q (.bl true) H'
theorem ok_law (T : Txt K mg) : CalG P w K mg base CX0 9 "law" ["_law_script"] (sp_law K) := by
  obtain ⟨fd, F⟩ := F_law T
  obtain ⟨fdI, FI⟩ := F_Reader___init__ T
  have bI : Binds K fdI ["self", "alphabet", "names", "moves", "accepted"] [] := FI.bindsN fun _ _ _ _ _ _ us hl => match us, hl with | [_, _, _, _, _], _ => rfl
  refine calG_mk F (g_law T) sc_law (fun _ _ _ _ _ _ us hl => match us, hl with | [_], _ => rfl) (fun vs H Q E h => ?_) (fun cdv A outer s H vs Q E hG hr h => ?_)
  · obtain ⟨b, ns, rfl, _⟩ := h; rfl
  · obtain ⟨tk, htl, hq⟩ := lw_tail13 (P := P) (w := w) (base := base) (cdv := cdv) (A := A) (outer := outer) (s := s) (H := H) (E := E) T hG hr
    refine ⟨_, PSs.nox (pss_cons (ps_set (i := 1) sc_law.nd rfl (Or.inl rfl) (pe_cal (ok_law_source T) (hr.mono (by decide)) pass0 (pa_cons (pv 0) (pa_cons pe_int pa_nil))))
        (pss_cons (ps_set (i := 2) sc_law.nd rfl (Or.inl rfl) (pe_cal (ok_law_world T) (hr.mono (by decide)) pass0 (pa_cons (pv 1) pa_nil)))
        (pss_cons (ps_asg (pv 2) (pg_tup rfl (pgs_cons (pg_name (i := 3) sc_law.nd rfl (Or.inl rfl)) (pgs_cons (pg_name (i := 4) sc_law.nd rfl (Or.inl rfl)) (pgs_cons (pg_name (i := 5) sc_law.nd rfl (Or.inl rfl)) (pgs_cons (pg_name (i := 6) sc_law.nd rfl (Or.inl rfl)) pgs_nil))))))
        (pss_cons (ps_setLc (i := 7) (te := tCB (rLstO K) (tCons (tVar 15) tNil)) (own := [("_law_move", 15)]) (g := (gName 15)) (tt := tYes) rfl sc_law.nd rfl rfl (sw_true rfl rfl rfl (by decide +kernel)) (pi_list (pv 5)) (blkOk_by (N := N_law) (sc := defScope s_law) (by decide +kernel)) (fun _ _ _ _ _ => (pg_name (i := 15) sc_law.nd rfl (Or.inl rfl))) (fun _ _ _ _ _ => pts_nil) (fun _ _ _ _ _ => by refine pe_callTy (r := rLstO K) ?_ (by rfl) (fr_list T) b_list (pa_cons (pv 15) pa_nil); exact call_list_of))
        (pss_cons (ps_set (i := 8) sc_law.nd rfl (Or.inl rfl) (pe_callTy call_list_of (by rfl) (fr_list T) b_list (pa_cons (pv 6) pa_nil)))
        (pss_cons (ps_set (i := 9) sc_law.nd rfl (Or.inl rfl) (pe_makeS (E := fun _ => E0) (mkr_Reader T) (ok_Reader_init T FI) (hr.mono (by decide)) (by rfl) (g_Reader T) bI passAt0 (pa_cons (pv 3) (pa_cons (pv 4) (pa_cons (pv 7) (pa_cons (pv 8) pa_nil))))))
        (pss_cons (ps_if (PW.pt (pw_or (pt_cmpR (op_neD (hu64 hr)) (pv 7) (pv 5) (nomark _)) (pw_or (pt_cmpR (op_neD (hu64 hr)) (pv 8) (pv 6) (nomark _)) (pw_or1 (pt_not (pt_val (pe_cal (ok_law_has T) (hr.mono (by decide)) pass0 (pa_cons (pv 9) (pa_cons (pv 2) pa_nil))))))))) (pss_one (ps_ret pe_bl)) pss_nil)
        (pss_cons (ps_set (i := 10) sc_law.nd rfl (Or.inl rfl) (pe_makeS (E := fun _ => E0) (mkr_Reader T) (ok_Reader_init T FI) (hr.mono (by decide)) (by rfl) (g_Reader T) bI passAt0 (pa_cons (pv 3) (pa_cons (pv 4) (pa_cons (pe_cal (ok_law_tuples T) (hr.mono (by decide)) pass0 (pa_cons (pv 5) pa_nil)) (pa_cons (pe_callTy call_tuple_of (by rfl) (fr_tuple T) b_tuple (pa_cons (pv 6) pa_nil)) pa_nil))))))
        (pss_cons (ps_set (i := 11) sc_law.nd rfl (Or.inl rfl) (pe_cal (ok_law_other_world T) (hr.mono (by decide)) pass0 (pa_cons (pv 1) (pa_cons (pv 2) pa_nil))))
        (pss_cons (ps_set (i := 12) sc_law.nd rfl (Or.inl rfl) (pe_makeS (E := fun _ => E0) (mkr_Reader T) (ok_Reader_init T FI) (hr.mono (by decide)) (by rfl) (g_Reader T) bI passAt0 (pa_cons (pe_ix ix_tup (pv 11) pe_int (fun _ _ => rfl)) (pa_cons (pe_ix ix_tup (pv 11) pe_int (fun _ _ => rfl)) (pa_cons (pe_ix ix_tup (pv 11) pe_int (fun _ _ => rfl)) (pa_cons (pe_ix ix_tup (pv 11) pe_int (fun _ _ => rfl)) pa_nil))))))
        (pss_cons (ps_asg (pe_callB call_len (by rfl) (fr_len T) boot_len (pa_cons (pv 5) pa_nil)) (pg_sub (pe_ix ix_list (pv 7) pe_int (fun _ _ => rfl)) pe_int set_list))
        (pss_cons (ps_expr (pe_bm PySem.F.plainAttrs_list PySem.F.slot_list_append PySem.F.type_list_append mt_append (pv 7) (pa_cons pe_int pa_nil)))
        (pss_cons (ps_expr (pe_bm PySem.F.plainAttrs_list PySem.F.slot_list_insert PySem.F.type_list_insert mt_insert (pv 8) (pa_cons pe_int (pa_cons (pe_un un_neg pe_int) pa_nil))))
        htl))))))))))))), ?_⟩
    obtain ⟨b, ns, rfl, hsq, hnl, hbits, q⟩ := h
    refine ⟨.ref b, rfl, b, ns, 0, rfl, hsq, hnl, hbits, (by decide), fun G1 a s1 src1 hna => ?_⟩
    refine ⟨.ref a, rfl, a, rfl, src1, fun G2 v D f2 WA WO hal hns => ?_⟩
    obtain ⟨t, vm, vc, rfl, ht, hm, hc⟩ := WA
    obtain ⟨ma, bs0, rfl, hma, hbl0, _⟩ := rp_list hm
    obtain ⟨ca, rfl, hca⟩ := rp_row hc
    have sc2 : SqL K (del G2 a) b (ns.map V.int) := sqL_same f2.sm (sqL_same (fresh_del s1 hna) hsq)
    have hs2 := f2.src
    refine ⟨.ref t, rfl, t, _, rfl, SqT.of (del_le a _ _ ht), rfl, _, _, rfl, _, _, rfl, _, _, rfl, _, _, rfl, rfl, ?_⟩
    dsimp only
    refine seq_asg ?_
    refine ll_comp (σ := [some (.ref b), some (.ref a), some (.ref t), some (.str D.al), some (.str D.ns), some (.ref ma), some (.ref ca), none, none, none, none, none, none, none, none, none]) (ma := ma) (iS := 5) (iM := 15) rfl (by show 15 < 16; decide) (by decide) (hm.same (del_le a)) (Nat.le_trans WO.mv.le (by decide)) fun c bs G3 s3 hc3 hb3 LL => ?_
    have hca3 := s3 _ _ (del_le a _ _ hca)
    refine ⟨.ref ca, rfl, ca, _, rfl, .inl (SqL.of hca3), fun l hl3 => ?_⟩
    have hl2 : G2 l = none := none_of s3 hl3
    have hlc : l ≠ c := fun z => by rw [z, LL.1] at hl3; cases hl3
    have hlb : ∀ p ∈ bs, l ≠ p := fun p hp z => by
      obtain ⟨i, hi⟩ := mem_get hp
      have hlt := (List.getElem?_eq_some_iff.mp hi).1
      rw [z, LL.2.2.2.2 i p _ hi (List.getElem?_eq_getElem (by rw [← LL.2.1]; exact hlt))] at hl3
      cases hl3
    have s34 := same_upd (o := .lst (D.ac.map fun (k : Nat) => V.int (k : Nat))) hl3
    have el : upd G3 l (.lst (D.ac.map fun (k : Nat) => V.int (k : Nat))) l = some (.lst (D.ac.map fun (k : Nat) => V.int (k : Nat))) := upd_same
    have LL4 := LL.same s34
    have s24 := s3.trans s34
    revert el LL4 s24
    generalize upd G3 l (.lst (D.ac.map fun (k : Nat) => V.int (k : Nat))) = G4
    intro el LL4 s24
    clear s34 hl3 LL s3 hca3
    -- what is changed later on
    have hca_ne : c ≠ a := hs2.ne hc3
    have hla_ne : l ≠ a := hs2.ne hl2
    have hba : ∀ b ∈ bs, b ≠ a := fun b hb => hs2.ne (hb3 b hb)
    let L : List Addr := a :: l :: c :: bs
    have haL : a ∈ L := List.mem_cons_self ..
    have hlL : l ∈ L := List.mem_cons_of_mem _ (List.mem_cons_self ..)
    have hcL : c ∈ L := List.mem_cons_of_mem _ (List.mem_cons_of_mem _ (List.mem_cons_self ..))
    have hbL : ∀ b ∈ bs, b ∈ L := fun b hb => List.mem_cons_of_mem _ (List.mem_cons_of_mem _ (List.mem_cons_of_mem _ hb))
    have sdl : Same (del G2 a) (dl L G4) := fun p o e => by
      have hpa : p ≠ a := fun z => by
        rw [z] at e
        unfold del at e
        rw [if_pos rfl] at e
        cases e
      rw [del_ne hpa] at e
      refine dl_at (fun hp => ?_) (s24 _ _ e)
      rcases List.mem_cons.mp hp with h | hp
      · exact hpa h
      rcases List.mem_cons.mp hp with h | hp
      · rw [h, hl2] at e; cases e
      rcases List.mem_cons.mp hp with h | hp
      · rw [h, hc3] at e; cases e
      · rw [hb3 p hp] at e; cases e
    have src4 : SrcAt G4 a := hs2.same s24
    -- the lists of L at a heap
    have lists : ∀ G, Same G4 G → ∀ p ∈ L, ∃ xs, G p = some (.lst xs) := fun G sG p hp => by
      rcases List.mem_cons.mp hp with h | hp
      · obtain ⟨A1, S1, C1, e⟩ := src4.same sG
        exact ⟨_, by rw [h]; exact e⟩
      rcases List.mem_cons.mp hp with h | hp
      · exact ⟨_, by rw [h]; exact sG _ _ el⟩
      rcases List.mem_cons.mp hp with h | hp
      · exact ⟨_, by rw [h]; exact sG _ _ LL4.1⟩
      · obtain ⟨i, hi⟩ := mem_get hp
        have hlt := (List.getElem?_eq_some_iff.mp hi).1
        exact ⟨_, sG _ _ (LL4.2.2.2.2 i p _ hi (List.getElem?_eq_getElem (by rw [← LL4.2.1]; exact hlt)))⟩
    have t4 := sdl _ _ ht
    have m4 := hm.same sdl
    have c4 := hc.same sdl
    have sc4 := sqL_same sdl sc2
    have W4 : WAt (dl L G4) (.ref t) D := ⟨t, _, _, rfl, t4, m4, c4⟩
    have due1 := due_ok (m := rowsD D.mv) (c := rowD D.ac) (f := rowD) WO rfl (fun _ => rfl) rfl
    have due2 := due_ok (m := encR D.mv) (c := encM D.ac) (f := encM) WO rfl (fun _ => rfl) rfl
    -- the reader
    refine ⟨.str D.al, rfl, .str D.ns, rfl, .ref c, rfl, .ref l, rfl, fun x dx hx hd hne => init_right (K := K) hx hd hne (.str _) (.str _) LL4.rp (.lst el (rpL_nats _)) due1 fun G5 s5 RX => ?_⟩
    have RXd := rd_dl RX (lists G5 s5)
    have sd5 : Same (dl L G4) (dl L G5) := dl_same s5
    have m5 := (m4.same sd5).same (dl_le L G5)
    have c5 := (c4.same sd5).same (dl_le L G5)
    refine ⟨.ref c, rfl, .ref ma, rfl, ne_pure (LL4.rp.same s5) m5 (rowsD_pure _) (Nat.le_trans (rowsD_depth _) (by decide)) ⟨_, rfl, iteF ?_⟩⟩
    refine ⟨.ref l, rfl, .ref ca, rfl, ne_pure (.lst (s5 _ _ el) (rpL_nats _)) c5 (rowD_pure _) (Nat.le_trans (rowD_depth _) (by decide)) ⟨_, rfl, iteF ?_⟩⟩
    refine ⟨.ref x, rfl, .ref t, rfl, x, .ref t, D, rfl, RX, (W4.same sd5).same (dl_le L G5), WO, fun G6 s6 => ⟨_, rfl, iteF ?_⟩⟩
    have s46 := s5.trans s6
    -- the twin
    have m6 := m5.same s6
    have c6 := c5.same s6
    obtain ⟨ca', e, hca6⟩ := rp_row c6
    cases e
    refine ⟨.str D.al, rfl, .str D.ns, rfl, .ref ma, rfl, .ref ma, D.mv, rfl, m6, WO.mv.le, fun G7 r7 s7 hr7 => ?_⟩
    refine ⟨.ref ca, rfl, ca, _, rfl, .inl ⟨SqL.of (s7 _ _ hca6), fun u hu => fun y dy hy hdy hney => ?_⟩⟩
    have s7u := same_upd (o := .tup (D.ac.map fun (k : Nat) => V.int (k : Nat))) hu
    refine init_right (K := K) hy hdy hney (.str _) (.str _) ((hr7.tups (Same.tups s7u)).rp) (.tup upd_same (rpL_nats _)) due2 fun G8 s8 RY => ?_
    have s48 := s46.trans (s7.trans (s7u.trans s8))
    have s58 := s6.trans (s7.trans (s7u.trans s8))
    have RYd := rd_dl RY (lists G8 s48)
    have RX8 : RdAt K (dl L G8) x D := RXd.same (dl_same s58)
    have out8 : Out L G8 := fun p hp e => by
      obtain ⟨xs, e'⟩ := lists G8 s48 p hp
      rw [e] at e'
      cases e'
    -- the other
    refine ⟨.ref a, rfl, .ref t, rfl, a, L, .ref t, D, rfl, src4.same s48, haL, out8, W4.same (dl_same s48), WO, hal, hns, fun G9 v' D' f9 WD WO' hnd => ?_⟩
    have sd9 := dl_fra haL f9
    have s49 : Same (dl L G4) (dl L G9) := (dl_same s48).trans sd9
    have WD' := WD
    obtain ⟨t', vm', vc', rfl, ht', hm', hc'⟩ := WD'
    have due3 := due_ok (m := rowsD D'.mv) (c := rowD D'.ac) (f := rowD) WO' rfl (fun _ => rfl) rfl
    have ht9 := SqT.of (K := K) (dl_le L G9 _ _ ht')
    refine ⟨.ref t', rfl, t', _, 0, .str D'.al, rfl, rfl, ht9, rfl, .ref t', rfl, t', _, 1, .str D'.ns, rfl, rfl, ht9, rfl, .ref t', rfl, t', _, 2, vm', rfl, rfl, ht9, rfl, .ref t', rfl, t', _, 3, vc', rfl, rfl, ht9, rfl, fun o do_ ho hdo hneo => ?_⟩
    refine init_right (K := K) ho hdo hneo (.str _) (.str _) (hm'.same (dl_le L G9)) (hc'.same (dl_le L G9)) due3 fun G10 s10 RO => ?_
    have LLd9 : LLAt (del G9 a) c bs D.mv := ((LL4.same s48).del hca_ne hba).same f9.sm
    have el9 : del G9 a l = some (.lst (D.ac.map fun (k : Nat) => V.int (k : Nat))) := f9.sm _ _ (by rw [del_ne hla_ne]; exact s48 _ _ el)
    have LL10 : LLAt G10 c bs D.mv := (LLd9.same (del_le a)).same s10
    have el10 := s10 _ _ (del_le a _ _ el9)
    have src10 : SrcAt G10 a := f9.src.same s10
    have lists10 : ∀ p ∈ L, ∃ xs, G10 p = some (.lst xs) := fun p hp => by
      rcases List.mem_cons.mp hp with h | hp
      · obtain ⟨A1, S1, C1, e⟩ := src10
        exact ⟨_, by rw [h]; exact e⟩
      rcases List.mem_cons.mp hp with h | hp
      · exact ⟨_, by rw [h]; exact el10⟩
      rcases List.mem_cons.mp hp with h | hp
      · exact ⟨_, by rw [h]; exact LL10.1⟩
      · obtain ⟨i, hi⟩ := mem_get hp
        have hlt := (List.getElem?_eq_some_iff.mp hi).1
        exact ⟨_, LL10.2.2.2.2 i p _ hi (List.getElem?_eq_getElem (by rw [← LL10.2.1]; exact hlt))⟩
    have ROd := rd_dl RO lists10
    have sd910 : Same (dl L G9) (dl L G10) := dl_same s10
    have s410 := s49.trans sd910
    -- what was handed is changed
    obtain ⟨m0, hm00⟩ : ∃ m0, D.mv[0]? = some m0 := ⟨_, List.getElem?_eq_getElem WO.mv.pos⟩
    obtain ⟨b0, hb00⟩ : ∃ b0, bs[0]? = some b0 := ⟨_, List.getElem?_eq_getElem (by rw [LL10.2.1]; exact WO.mv.pos)⟩
    have hb0m := List.mem_of_getElem? hb00
    have hcb0 : (bs.map V.ref)[0]? = some (.ref b0) := by rw [List.getElem?_map, hb00]; rfl
    have eb0 := LL10.2.2.2.2 0 b0 m0 hb00 hm00
    have hm0l : 1 ≤ m0.length := by
      rw [WO.mv.row m0 (List.mem_of_getElem? hm00)]
      exact Nat.mul_pos WO.rd.al8.1 (two_le WO.rd.ns4).1
    have m10 := (m4.same s410).same (dl_le L G10)
    obtain ⟨_, bs10, e, hma10, hbl10, _⟩ := rp_list m10
    cases e
    have hc0ne : c ≠ b0 := fun z => LL10.2.2.2.1 (z ▸ hb0m)
    have hl0ne : l ≠ b0 := hlb b0 hb0m
    refine ⟨.ref ma, rfl, .ref ma, _, rfl, .inl ⟨_, SqL.of hma10, rfl⟩, .ref c, rfl, c, _, 0, .ref b0, rfl, rfl, SqL.of LL10.1, atI_nat (j := 0) hcb0, b0, _, 0, 0, rfl, rfl, eb0, ix_put (p := 0) (by rw [List.length_map]; omega), ?_⟩
    generalize hG11 : upd G10 b0 (.lst ((m0.map fun (k : Nat) => V.int (k : Nat)).set 0 (.int ((bs10.length : Nat) : Int)))) = G11
    have hc11 : G11 c = some (.lst (bs.map V.ref)) := by rw [← hG11, upd_ne hc0ne]; exact LL10.1
    have hl11 : G11 l = some (.lst (D.ac.map fun (k : Nat) => V.int (k : Nat))) := by rw [← hG11, upd_ne hl0ne]; exact el10
    have dl11 : dl L G11 = dl L G10 := by rw [← hG11]; exact dl_in (hbL b0 hb0m)
    have src11 : SrcAt G11 a := by
      obtain ⟨A1, S1, C1, e⟩ := src10
      exact ⟨A1, S1, C1, by rw [← hG11, upd_ne (Ne.symm (hba b0 hb0m))]; exact e⟩
    refine ⟨.ref c, rfl, .inl ⟨rfl, _, SqL.of hc11⟩, c, _, _, rfl, rfl, hc11, ?_, ?_⟩
    · rw [List.length_map, LL10.2.1]
      exact Nat.lt_of_le_of_lt WO.mv.le (by decide)
    generalize hG12 : upd G11 c (.lst (bs.map V.ref ++ [.int 7])) = G12
    have hl12 : G12 l = some (.lst (D.ac.map fun (k : Nat) => V.int (k : Nat))) := by rw [← hG12, upd_ne hlc]; exact hl11
    have dl12 : dl L G12 = dl L G10 := by rw [← hG12, dl_in hcL]; exact dl11
    have src12 : SrcAt G12 a := by
      obtain ⟨A1, S1, C1, e⟩ := src11
      exact ⟨A1, S1, C1, by rw [← hG12, upd_ne (Ne.symm hca_ne)]; exact e⟩
    refine ⟨.ref l, rfl, .inl ⟨rfl, _, SqL.of hl12⟩, 3, rfl, l, _, 0, _, rfl, rfl, hl12, ?_, (by decide), (by decide), ?_⟩
    · rw [List.length_map]
      exact Nat.lt_of_le_of_lt (ac_len WO) (by decide)
    generalize hG13 : upd G12 l _ = G13
    have dl13 : dl L G13 = dl L G10 := by rw [← hG13, dl_in hlL]; exact dl12
    have src13 : SrcAt G13 a := by
      obtain ⟨A1, S1, C1, e⟩ := src12
      exact ⟨A1, S1, C1, by rw [← hG13, upd_ne (Ne.symm hla_ne)]; exact e⟩
    have fin : Same (dl L G10) (del G13 a) := by rw [← dl13]; exact dl_del haL
    have sX10 : Same (dl L G8) (dl L G10) := sd9.trans sd910
    exact hq _ G13 a x y o t b (.ref ma) (.ref ca) (.ref t') D D' ns _ _ _ WO hal hns WO' hnd hnl hbits
      ⟨src13, (RX8.same sX10).same fin, (RYd.same sX10).same fin, ROd.same fin, fin _ _ (s410 _ _ t4), (m4.same s410).same fin, (c4.same s410).same fin, (WD.same sd910).same fin, sqL_same fin (sqL_same s410 sc4)⟩ q
end
end Kx
set_option Elab.async false
set_option linter.all false
set_option maxRecDepth 100000
set_option maxHeartbeats 4000000
namespace Kx
open PySem PySem.Spec PyProof.Rows L2
/-! ### the law, called from outside, where no repr is under way -/
section
variable {P : Program} {w : World} {K : PySem.W.Frag} {mg mb : Str → Option Value} {k : Nat} {fa a : Addr} {x : Str} {sp : Sp} {s : Shared} {vs : List Value} {ns : List Int}
def Told3 (s : Shared) (r : Result) (s' : Shared) : Prop := r = .ok (.ret (.bool true)) ∧ OldK s.heap s'.heap ∧ s'.os = s.os ∧ AllBare s'.gens
theorem told_from (H : Hp) (KX : K.In s.heap) (hns : s.heap.Ns mainGlobals mg) (hb : s.heap.Ns builtinsNs mb) (hbb : ∀ x : Str, x ≠ "__name__" → mb x = bootBuiltins x) (hlim : s.heap.NoLimit) (hg : s.gens = #[])
    (ha : s.heap.get? a = some { cls := .type "list", data := .seq vs.toArray }) (hr : Room k callerA)
    (F : ∀ base : Heap, ∃ fd : FuncData, FnOkG P w K mg base CX0 k fa fd [x] sp ∧ Binds K fd [x] [])
    (hsp : sp [.ref a] H (fun v _ => v = .bl true) fun _ _ _ => False) (hok : HOk P w H s.heap) (hH : ∀ b u, H b = some u → b = a ∧ K.lookup a = none ∧ ∃ o xs, u = .frz o (.lst xs)) :
    codeAny (model P w) callerA (.call (.ref fa) ⟨[.ref a], []⟩) (Told3 s) s := by
  -- where H is silent the base keeps the heap
  have kept : ∀ {b : Addr} {o : Obj}, s.heap.get? b = some o → (b = a → False) ∨ H b = none → (hidT s.heap H).get? b = some o := fun {b o} e h => hidT_get e (by
    cases q : H b with
    | none => rfl
    | some u => rcases h with h | h
                · exact (h (hH b u q).1).elim
                · rw [q] at h; cases h)
  have dicts : ∀ {b : Addr} {m : Str → Option Value}, s.heap.Ns b m → (hidT s.heap H).Ns b m := fun {b m} ⟨o, es, ep, e, d, r⟩ => ⟨o, es, ep, kept e (.inl fun z => by
    subst z
    rw [ha] at e
    cases e
    cases d), d, r⟩
  have hK : K.In (hidT s.heap H) := fun b o e => kept (KX b o e) (by
    cases q : H b with
    | none => exact .inr rfl
    | some u =>
      obtain ⟨z, n, _⟩ := hH b u q
      subst z
      rw [n] at e
      cases e)
  obtain ⟨mc, l1, l2⟩ := hlim
  have e0 : Env0 P w K mg (hidT s.heap H) callerA [] s H := ⟨rfl, ⟨hK, dicts hns, ⟨mb, dicts hb, hbb⟩, mc, dicts l1, l2⟩, fun b o e => of_hidT e, Nat.le_of_eq (hidT_size _ _), trivial, fun b h => (by cases h), hok, .of_eq hg⟩
  obtain ⟨fd, F, hbind⟩ := F (hidT s.heap H)
  have bt := hbind s [.ref a] KX rfl
  rw [List.append_nil] at bt
  refine codeAny_mono (F.run callerA [] s H ⟨[.ref a], []⟩ [.ref a] [.ref a] _ _ rfl hr e0 bt (.cons rfl .nil) hsp) fun r s' h => ?_
  match r, h with
  | .ok (.ret u), ⟨v, H', os, bare, un, hok', ru, q⟩ =>
    have q' : v = .bl true := q
    subst q'
    obtain rfl : u = Value.bool true := ru
    refine ⟨rfl, OldK.of_keep fun b o e => ?_, os, bare⟩
    cases z : H b with
    | none => exact un.keep b o e z (fun h => (by cases h)) (by simp)
    | some u =>
      obtain ⟨_, _, ob, xs, rfl⟩ := hH b u z
      obtain ⟨e1, _⟩ := hok b _ z
      obtain ⟨e2, _⟩ := hok' b _ (un.frzs b ob _ z)
      rw [e] at e1
      cases e1
      exact e2
theorem told_law (KX : K.In s.heap) (hns : s.heap.Ns mainGlobals mg) (hb : s.heap.Ns builtinsNs mb) (hbb : ∀ x : Str, x ≠ "__name__" → mb x = bootBuiltins x) (hlim : s.heap.NoLimit) (hg : s.gens = #[])
    (ha : s.heap.get? a = some { cls := .type "list", data := .seq vs.toArray }) (hi : IntsAre vs ns) (hl : ns.length ≤ sizeLine) (hr : Room k callerA)
    (F : ∀ base : Heap, ∃ fd : FuncData, FnOkG P w K mg base CX0 k fa fd [x] sp ∧ Binds K fd [x] [])
    (hsp : ∀ H : Hp, SqL K H a (ns.map V.int) → sp [.ref a] H (fun v _ => v = .bl true) fun _ _ _ => False) :
    codeAny (model P w) callerA (.call (.ref fa) ⟨[.ref a], []⟩) (Told3 s) s := by
  have rv := vals_ints hi
  cases hk : K.lookup a with
  | some o =>
    have e := KX a o hk
    rw [ha] at e
    cases e
    exact told_from (fun _ => none) KX hns hb hbb hlim hg ha hr F (hsp _ (.inr ⟨_, vs.toArray, _, hk, rfl, rfl, rfl, by rw [List.size_toArray, hi.length]; exact hl, by simpa using rv⟩)) (fun b u z => by cases (show (none : Option HO) = some u from z)) (fun b u z => by cases (show (none : Option HO) = some u from z))
  | none =>
    have at_ : ∀ b u, (fun b => if b = a then some (HO.frz { cls := .type "list", data := .seq vs.toArray } (.lst (ns.map V.int))) else none) b = some u → b = a ∧ u = .frz { cls := .type "list", data := .seq vs.toArray } (.lst (ns.map V.int)) := fun b u z => by
      by_cases h : b = a
      · exact ⟨h, by have z' := (if_pos h).symm.trans z; cases z'; rfl⟩
      · have z' := (if_neg h).symm.trans z
        cases z'
    refine told_from (fun b => if b = a then some (.frz { cls := .type "list", data := .seq vs.toArray } (.lst (ns.map V.int))) else none) KX hns hb hbb hlim hg ha hr F (hsp _ (.inl (.inr ⟨_, if_pos rfl⟩))) (fun b u z => ?_) (fun b u z => ?_)
    · obtain ⟨rfl, rfl⟩ := at_ b u z
      exact ⟨ha, by rw [List.length_map]; exact hl, vs, _, rv, ha⟩
    · obtain ⟨rfl, rfl⟩ := at_ b u z
      exact ⟨rfl, hk, _, _, rfl⟩
end
/-- what the head says makes all that is known of the written part -/
theorem txt_of {K : PySem.W.Frag} {h : Heap} {mg : Str → Option Value} (X : K.In h) (G : h.Ns mainGlobals mg) (c : He.SaysD fa fn K) (e : extra K = true) : Txt K mg := by
  have in3 : ∀ (i : Nat) {f : He.Fa}, fa3[i]? = some f → f ∈ fa := fun i f hf => by
    unfold fa
    exact List.mem_append_right _ (List.mem_of_getElem? hf)
  have facts : ∀ {f : He.Fa}, f ∈ fa → f.ok K = true := fun {f} h => by
    obtain ⟨i, hi⟩ := List.mem_iff_getElem?.mp h
    exact He.SaysD.fact c i hi
  exact ⟨c, fun x hx => He.glo_ok X G (facts hx), fun x hx => He.free_ok X G (facts hx), e, He.int_ok X G (facts (in3 0 rfl)), He.int_ok X G (facts (in3 1 rfl)), He.int_ok X G (facts (in3 2 rfl)), He.str_ok X G (facts (in3 3 rfl)), He.str_ok X G (facts (in3 4 rfl))⟩
end Kx
open PySem PySem.W PySem.Calls PyProof.Rows
theorem PySem.Challenge.cw_saidhere_k14_flag_readers_holds : PySem.Challenge.rw_saidhere_k14_flag_readers.Holds := by
  w_on; o_law
  refine HandSHeadRun.head_any (r := OpenLaw.row PySem.Challenge.rw_saidhere_k14_flag_readers) (q := view (OpenLaw.row PySem.Challenge.rw_saidhere_k14_flag_readers).prog [66]) (H := Kx.look Kx.fAll Kx.vAll) (ob := Kx.lookT Kx.fAll) (M := 20000) (loose := Kx.nms) (d := HandSHeadRun.topDef (OpenLaw.row PySem.Challenge.rw_saidhere_k14_flag_readers).prog 66) (kwd := []) (Kx.lookT_eq Kx.fAll Kx.vAll)
    (by kernel_rfl) (fun s => by kernel_rfl) Kx.runAll (by kernel_rfl) (by kernel_rfl) (by kernel_rfl) (by rfl) (by first | assumption | decide +kernel) (by decide +kernel) ⟨rfl, rfl, rfl, rfl, rfl, by decide +kernel⟩ ?hw ?hc
  case hw => w_witness2
  case hc =>
    refine Att.attach_callB (l := PySem.Challenge.rw_saidhere_k14_flag_readers) (n := 63) rfl (by kernel_rfl) fun w s₀ s₁ mg mb fa o pm cd doc a vs ns G Y ho hd hcd hmg hobj hints hlen hbits hg => ?_
    obtain ⟨K, KX, hall⟩ := Y
    obtain ⟨c, e⟩ := Kx.all_of hall
    have T := Kx.txt_of KX G.T.g c e
    have hfa : fa = He.ga K ("law" : PySem.Str) := by
      have e1 : (HandSHeadRun.topDef (OpenLaw.row PySem.Challenge.rw_saidhere_k14_flag_readers).prog 66).name = ("law" : PySem.Str) := by kernel_rfl
      have e2 := (Kx.ok_law (P := (PySem.Challenge.rw_saidhere_k14_flag_readers).prog) (w := w) (base := s₁.heap) T).g
      rw [e1, e2] at hmg
      exact (Value.ref.inj (Option.some.inj hmg)).symm
    subst hfa
    exact Kx.told_law (sp := Kx.sp_law K) (k := 9) (x := ("_law_script" : PySem.Str)) KX G.T.g G.T.b G.T.builtins G.T.nolimit hg hobj hints (Nat.le_trans hlen (by decide)) ⟨rfl, by decide, by decide⟩ (fun base => (Kx.ok_law T).ok) fun H hS => ⟨a, ns, rfl, hS, Nat.le_trans hlen (by decide), hbits, fun _ => rfl⟩
