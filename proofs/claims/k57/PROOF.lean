import PyProof.Rows.All
import Wide.All
import OpenK.AllK
import Wide.FinOn
import KE.KStateDown
import Lean
import HandS.ForMost
import HandS.ForExc
import HandS.Defaults
import HandS.ClsMeth
import HandS.ExcInit
import HandS.IsInst
import HandS.Small
import HandS.Wide
import HandS.WideBits
import HandS.Deep
import HandS.Nested
import HandS.Star
import HandS.Head0
import HandS.Head1
import HandS.Head2
import HandS.HeadEnd
import HandS.HeadHook1
import HandS.HeadHook2
import HandS.HeadNt
import HandS.ExcInitHot
import HandS.ExcField
import HandS.ExcIs
import HandS.HotCalls
import HandS.Property
import HandS.Walk
import KE.GoesEnum
import KE.GoesZip
import KE.GoesNew
import HandS.Style
import KE.KRevSl
import KE.BitLaws
import KE.LtData
import HandS.Conv
import HandS.Iter
import KE.KDictPairs
import HandS.TupAny
import HandS.DictComp
import HandS.RaiseMore
import KE.KExcIs
import HandS.More
import HandS.Rev
import HandS.TryMany
import KE.SortData
import KE.DatumOrd
import HandS.TryOnly
import HandS.AnyAll
import HandS.Replace
import HandS.DeepEq
import HandS.EndBits
import PySem.Challenge.RW_saidhere_k57_whole_desk_deeds
set_option Elab.async false
set_option linter.all false
set_option maxRecDepth 100000
set_option maxHeartbeats 0
namespace Kx
open PySem PySem.Spec PyProof.Rows L2
-- written by gen.py
def top (i : Nat) : Stmt := PySem.Challenge.pw_saidhere_k57_whole_desk_deeds.main.body.getD i (.Pass ⟨0, 0, 0, 0⟩)
abbrev s__wall : Stmt := top 0
abbrev N__wall : List Str := ["k"]
-- slots of _wall: 0 k
abbrev s_WrongThing___init__ : Stmt := inClass (top 3) 0
abbrev N_WrongThing___init__ : List Str := ["self", "thing"]
-- slots of WrongThing___init__: 0 self, 1 thing
abbrev s_WrongItem___init__ : Stmt := inClass (top 4) 0
abbrev N_WrongItem___init__ : List Str := ["self", "number"]
-- slots of WrongItem___init__: 0 self, 1 number
abbrev s_BadRow___init__ : Stmt := inClass (top 10) 0
abbrev N_BadRow___init__ : List Str := ["self", "at"]
-- slots of BadRow___init__: 0 self, 1 at
abbrev s_BadReader___init__ : Stmt := inClass (top 11) 0
abbrev N_BadReader___init__ : List Str := ["self", "side", "number"]
-- slots of BadReader___init__: 0 self, 1 side, 2 number
abbrev s_Twice___init__ : Stmt := inClass (top 12) 0
abbrev N_Twice___init__ : List Str := ["self", "name"]
-- slots of Twice___init__: 0 self, 1 name
abbrev s_Unknown___init__ : Stmt := inClass (top 13) 0
abbrev N_Unknown___init__ : List Str := ["self", "name"]
-- slots of Unknown___init__: 0 self, 1 name
abbrev s_TooMany___init__ : Stmt := inClass (top 14) 0
abbrev N_TooMany___init__ : List Str := ["self", "word"]
-- slots of TooMany___init__: 0 self, 1 word
abbrev s_TooLong___init__ : Stmt := inClass (top 15) 0
abbrev N_TooLong___init__ : List Str := ["self", "number"]
-- slots of TooLong___init__: 0 self, 1 number
abbrev s_Unlike___init__ : Stmt := inClass (top 16) 0
abbrev N_Unlike___init__ : List Str := ["self", "word"]
-- slots of Unlike___init__: 0 self, 1 word
abbrev s_is_whole : Stmt := top 20
abbrev N_is_whole : List Str := ["thing"]
-- slots of is_whole: 0 thing
abbrev s_is_below : Stmt := top 21
abbrev N_is_below : List Str := ["thing", "many"]
-- slots of is_below: 0 thing, 1 many
abbrev s_is_listing : Stmt := top 22
abbrev N_is_listing : List Str := ["thing"]
-- slots of is_listing: 0 thing
abbrev s_is_name : Stmt := top 23
abbrev N_is_name : List Str := ["thing", "letter"]
-- slots of is_name: 0 thing, 1 letter
abbrev s_has_bit : Stmt := top 25
abbrev N_has_bit : List Str := ["mask", "number"]
-- slots of has_bit: 0 mask, 1 number
abbrev s_mask_of : Stmt := top 26
abbrev N_mask_of : List Str := ["bits", "mask", "number", "bit"]
-- slots of mask_of: 0 bits, 1 mask, 2 number, 3 bit
abbrev s_united : Stmt := top 27
abbrev N_united : List Str := ["mask", "pictures", "whole", "number", "picture"]
-- slots of united: 0 mask, 1 pictures, 2 whole, 3 number, 4 picture
abbrev s_spread : Stmt := top 28
abbrev N_spread : List Str := ["table", "column", "pictures", "number", "standing", "mask", "masks"]
-- slots of spread: 0 table, 1 column, 2 pictures, 3 number, 4 standing, 5 mask, 6 masks
abbrev s_is_move : Stmt := top 31
abbrev N_is_move : List Str := ["thing", "letters", "standings", "standing"]
-- slots of is_move: 0 thing, 1 letters, 2 standings, 3 standing
abbrev s_kept_reader : Stmt := top 32
abbrev N_kept_reader : List Str := ["alphabet", "side", "thing", "kept", "number", "move"]
-- slots of kept_reader: 0 alphabet, 1 side, 2 thing, 3 kept, 4 number, 5 move
abbrev s_standings_ahead : Stmt := top 33
abbrev N_standings_ahead : List Str := ["alphabet", "left", "row", "told", "standing", "letter"]
-- slots of standings_ahead: 0 alphabet, 1 left, 2 row, 3 told, 4 standing, 5 letter
abbrev s_standings_behind : Stmt := top 34
abbrev N_standings_behind : List Str := ["alphabet", "right", "row"]
-- slots of standings_behind: 0 alphabet, 1 right, 2 row
abbrev s_item_after : Stmt := top 35
abbrev N_item_after : List Str := ["readers", "item", "letter", "reader", "standing"]
-- slots of item_after: 0 readers, 1 item, 2 letter, 3 reader, 4 standing
abbrev s_check_most : Stmt := top 36
abbrev N_check_most : List Str := ["many", "most", "word"]
-- slots of check_most: 0 many, 1 most, 2 word
abbrev s_walked_ahead : Stmt := top 37
abbrev N_walked_ahead : List Str := ["alphabet", "readers", "begin", "most", "word", "items", "found", "rows", "moves", "at", "move", "number", "letter", "follower"]
-- slots of walked_ahead: 0 alphabet, 1 readers, 2 begin, 3 most, 4 word, 5 items, 6 found, 7 rows, 8 moves, 9 at, 10 move, 11 number, 12 letter, 13 follower
abbrev s_walked_behind : Stmt := top 38
abbrev N_walked_behind : List Str := ["alphabet", "readers", "begin", "most", "word", "items", "found", "rows", "level", "newer", "number", "letter", "at", "follower", "letters", "moves", "k", "item"]
-- slots of walked_behind: 0 alphabet, 1 readers, 2 begin, 3 most, 4 word, 5 items, 6 found, 7 rows, 8 level, 9 newer, 10 number, 11 letter, 12 at, 13 follower, 14 letters, 15 moves, 16 k, 17 item
abbrev s_reached_ahead : Stmt := top 39
abbrev N_reached_ahead : List Str := ["alphabet", "readers", "most", "_"]
-- slots of reached_ahead: 0 alphabet, 1 readers, 2 most, 3 _
abbrev s_reached_behind : Stmt := top 40
abbrev N_reached_behind : List Str := ["alphabet", "readers", "most", "_"]
-- slots of reached_behind: 0 alphabet, 1 readers, 2 most, 3 _
abbrev s_numbered : Stmt := top 42
abbrev N_numbered : List Str := ["things", "found", "numbers", "thing"]
-- slots of numbered: 0 things, 1 found, 2 numbers, 3 thing
abbrev s_refined : Stmt := top 43
abbrev N_refined : List Str := ["moves", "colours", "most", "numbers", "many", "told", "newer", "follower", "move"]
-- slots of refined: 0 moves, 1 colours, 2 most, 3 numbers, 4 many, 5 told, 6 newer, 7 follower, 8 move
abbrev s_firsts_of : Stmt := top 44
abbrev N_firsts_of : List Str := ["numbers", "found", "standing", "number"]
-- slots of firsts_of: 0 numbers, 1 found, 2 standing, 3 number
abbrev s_class_moves : Stmt := top 45
abbrev N_class_moves : List Str := ["moves", "numbers", "firsts", "follower", "standing"]
-- slots of class_moves: 0 moves, 1 numbers, 2 firsts, 3 follower, 4 standing
abbrev s_column_of : Stmt := top 46
abbrev N_column_of : List Str := ["table", "standing", "masks", "mask"]
-- slots of column_of: 0 table, 1 standing, 2 masks, 3 mask
abbrev s_picked : Stmt := top 47
abbrev N_picked : List Str := ["masks", "standings", "standing", "mask"]
-- slots of picked: 0 masks, 1 standings, 2 standing, 3 mask
abbrev s_least_machine : Stmt := top 48
abbrev N_least_machine : List Str := ["alphabet", "left", "right", "table", "items", "_", "onward", "things", "backward", "rights", "live", "answers", "ahead", "firsts", "shorter", "columns", "behind", "lasts", "least_left", "least_right", "kept", "thing", "standing", "mask", "item", "first"]
-- slots of least_machine: 0 alphabet, 1 left, 2 right, 3 table, 4 items, 5 _, 6 onward, 7 things, 8 backward, 9 rights, 10 live, 11 answers, 12 ahead, 13 firsts, 14 shorter, 15 columns, 16 behind, 17 lasts, 18 least_left, 19 least_right, 20 kept, 21 thing, 22 standing, 23 mask, 24 item, 25 first
abbrev s_is_alphabet : Stmt := top 52
abbrev N_is_alphabet : List Str := ["thing", "known", "letter", "one", "other"]
-- slots of is_alphabet: 0 thing, 1 known, 2 letter, 3 one, 4 other
abbrev s_check_alphabet : Stmt := top 53
abbrev N_check_alphabet : List Str := ["thing"]
-- slots of check_alphabet: 0 thing
abbrev s_is_letter : Stmt := top 54
abbrev N_is_letter : List Str := ["alphabet", "thing"]
-- slots of is_letter: 0 alphabet, 1 thing
abbrev s_wrong_at : Stmt := top 55
abbrev N_wrong_at : List Str := ["alphabet", "thing", "at", "letter"]
-- slots of wrong_at: 0 alphabet, 1 thing, 2 at, 3 letter
abbrev s_check_row : Stmt := top 56
abbrev N_check_row : List Str := ["alphabet", "thing", "at"]
-- slots of check_row: 0 alphabet, 1 thing, 2 at
abbrev s_check_place : Stmt := top 57
abbrev N_check_place : List Str := ["row", "thing"]
-- slots of check_place: 0 row, 1 thing
abbrev s_is_triple : Stmt := top 59
abbrev N_is_triple : List Str := ["alphabet", "left", "right", "thing", "known"]
-- slots of is_triple: 0 alphabet, 1 left, 2 right, 3 thing, 4 known
abbrev s_kept_marked : Stmt := top 60
abbrev N_kept_marked : List Str := ["alphabet", "left", "right", "thing", "kept", "number", "triple"]
-- slots of kept_marked: 0 alphabet, 1 left, 2 right, 3 thing, 4 kept, 5 number, 6 triple
abbrev s_masks_of_triples : Stmt := top 61
abbrev N_masks_of_triples : List Str := ["alphabet", "many", "marked", "found", "standing", "letter", "other"]
-- slots of masks_of_triples: 0 alphabet, 1 many, 2 marked, 3 found, 4 standing, 5 letter, 6 other
abbrev s_triples_of_masks : Stmt := top 62
abbrev N_triples_of_masks : List Str := ["alphabet", "many", "table", "triples", "standing", "masks", "letter", "mask", "other"]
-- slots of triples_of_masks: 0 alphabet, 1 many, 2 table, 3 triples, 4 standing, 5 masks, 6 letter, 7 mask, 8 other
abbrev s_check_alphabets : Stmt := top 63
abbrev N_check_alphabets : List Str := ["one", "other"]
-- slots of check_alphabets: 0 one, 1 other
abbrev s_marks_in : Stmt := top 64
abbrev N_marks_in : List Str := ["pair", "row", "ahead", "behind", "letters", "letter", "p", "k", "q"]
-- slots of marks_in: 0 pair, 1 row, 2 ahead, 3 behind, 4 letters, 5 letter, 6 p, 7 k, 8 q
abbrev s_crossed : Stmt := top 65
abbrev N_crossed : List Str := ["one", "other", "items", "_", "left", "things", "right", "first", "second", "q", "s", "p", "o"]
-- slots of crossed: 0 one, 1 other, 2 items, 3 _, 4 left, 5 things, 6 right, 7 first, 8 second, 9 q, 10 s, 11 p, 12 o
abbrev s_Pair___init__ : Stmt := inClass (top 66) 0
abbrev N_Pair___init__ : List Str := ["self", "alphabet", "left", "right", "marked"]
-- slots of Pair___init__: 0 self, 1 alphabet, 2 left, 3 right, 4 marked
abbrev s_Pair___call__ : Stmt := inClass (top 66) 1
abbrev N_Pair___call__ : List Str := ["self", "row"]
-- slots of Pair___call__: 0 self, 1 row
abbrev s_Pair___contains__ : Stmt := inClass (top 66) 2
abbrev N_Pair___contains__ : List Str := ["self", "placed", "row", "place"]
-- slots of Pair___contains__: 0 self, 1 placed, 2 row, 3 place
abbrev s_Pair___and__ : Stmt := inClass (top 66) 3
abbrev N_Pair___and__ : List Str := ["self", "other", "left", "right", "table", "both", "x", "y", "first", "second"]
-- slots of Pair___and__: 0 self, 1 other, 2 left, 3 right, 4 table, 5 both, 6 x, 7 y, 8 first, 9 second
abbrev s_Pair___or__ : Stmt := inClass (top 66) 4
abbrev N_Pair___or__ : List Str := ["self", "other", "left", "right", "table", "either", "x", "y", "first", "second"]
-- slots of Pair___or__: 0 self, 1 other, 2 left, 3 right, 4 table, 5 either, 6 x, 7 y, 8 first, 9 second
abbrev s_Pair___invert__ : Stmt := inClass (top 66) 5
abbrev N_Pair___invert__ : List Str := ["self", "whole", "table", "mask", "masks"]
-- slots of Pair___invert__: 0 self, 1 whole, 2 table, 3 mask, 4 masks
abbrev s_Pair___eq__ : Stmt := inClass (top 66) 6
abbrev N_Pair___eq__ : List Str := ["self", "other"]
-- slots of Pair___eq__: 0 self, 1 other
abbrev s_Pair_of_letters : Stmt := inClass (top 66) 7
abbrev N_Pair_of_letters : List Str := ["cls", "alphabet", "letters"]
-- slots of Pair_of_letters: 0 cls, 1 alphabet, 2 letters
abbrev s_least_pair : Stmt := top 67
abbrev N_least_pair : List Str := ["alphabet", "left", "right", "table", "ahead", "behind", "masks"]
-- slots of least_pair: 0 alphabet, 1 left, 2 right, 3 table, 4 ahead, 5 behind, 6 masks
abbrev s_kept_marks : Stmt := top 70
abbrev N_kept_marks : List Str := ["alphabet", "thing", "number", "entry", "name", "names", "pair"]
-- slots of kept_marks: 0 alphabet, 1 thing, 2 number, 3 entry, 4 name, 5 names, 6 pair
abbrev s_check_letter : Stmt := top 71
abbrev N_check_letter : List Str := ["alphabet", "thing"]
-- slots of check_letter: 0 alphabet, 1 thing
abbrev s_row_behind : Stmt := top 72
abbrev N_row_behind : List Str := ["row", "deed", "word"]
-- slots of row_behind: 0 row, 1 deed, 2 word
abbrev s_places_kept : Stmt := top 73
abbrev N_places_kept : List Str := ["deed", "length", "word", "place"]
-- slots of places_kept: 0 deed, 1 length, 2 word, 3 place
abbrev s_Kept___init__ : Stmt := inClass (top 74) 0
abbrev N_Kept___init__ : List Str := ["self", "state", "below"]
-- slots of Kept___init__: 0 self, 1 state, 2 below
abbrev s_Trial___init__ : Stmt := inClass (top 75) 0
abbrev N_Trial___init__ : List Str := ["self", "state"]
-- slots of Trial___init__: 0 self, 1 state
abbrev s_Trial___enter__ : Stmt := inClass (top 75) 1
abbrev N_Trial___enter__ : List Str := ["self", "top"]
-- slots of Trial___enter__: 0 self, 1 top
abbrev s_Trial___exit__ : Stmt := inClass (top 75) 2
abbrev N_Trial___exit__ : List Str := ["self", "kind", "value", "trace", "top"]
-- slots of Trial___exit__: 0 self, 1 kind, 2 value, 3 trace, 4 top
abbrev s_Desk___init__ : Stmt := inClass (top 76) 0
abbrev N_Desk___init__ : List Str := ["self", "alphabet", "row", "marks"]
-- slots of Desk___init__: 0 self, 1 alphabet, 2 row, 3 marks
abbrev s_Desk_state_now : Stmt := inClass (top 76) 1
abbrev N_Desk_state_now : List Str := ["self"]
-- slots of Desk_state_now: 0 self
abbrev s_Desk_live : Stmt := inClass (top 76) 2
abbrev N_Desk_live : List Str := ["self"]
-- slots of Desk_live: 0 self
abbrev s_Desk_live_set : Stmt := inClass (top 76) 3
abbrev N_Desk_live_set : List Str := ["self", "value"]
-- slots of Desk_live_set: 0 self, 1 value
abbrev s_Desk_mark_names : Stmt := inClass (top 76) 4
abbrev N_Desk_mark_names : List Str := ["self", "name", "pair"]
-- slots of Desk_mark_names: 0 self, 1 name, 2 pair
abbrev s_Desk_log : Stmt := inClass (top 76) 5
abbrev N_Desk_log : List Str := ["self"]
-- slots of Desk_log: 0 self
abbrev s_Desk_moved : Stmt := inClass (top 76) 6
abbrev N_Desk_moved : List Str := ["self", "deed", "done", "undone", "before", "row", "places", "turned", "name", "pair", "old", "new", "top", "here", "there"]
-- slots of Desk_moved: 0 self, 1 deed, 2 done, 3 undone, 4 before, 5 row, 6 places, 7 turned, 8 name, 9 pair, 10 old, 11 new, 12 top, 13 here, 14 there
abbrev s_Desk_doing : Stmt := inClass (top 76) 7
abbrev N_Desk_doing : List Str := ["self", "deed"]
-- slots of Desk_doing: 0 self, 1 deed
abbrev s_Desk_put : Stmt := inClass (top 76) 8
abbrev N_Desk_put : List Str := ["self", "place", "letter", "row"]
-- slots of Desk_put: 0 self, 1 place, 2 letter, 3 row
abbrev s_Desk_take : Stmt := inClass (top 76) 9
abbrev N_Desk_take : List Str := ["self", "place"]
-- slots of Desk_take: 0 self, 1 place
abbrev s_Desk_change : Stmt := inClass (top 76) 10
abbrev N_Desk_change : List Str := ["self", "place", "letter"]
-- slots of Desk_change: 0 self, 1 place, 2 letter
abbrev s_Desk_become : Stmt := inClass (top 76) 11
abbrev N_Desk_become : List Str := ["self", "row"]
-- slots of Desk_become: 0 self, 1 row
abbrev s_Desk_undo : Stmt := inClass (top 76) 12
abbrev N_Desk_undo : List Str := ["self"]
-- slots of Desk_undo: 0 self
abbrev s_Desk_redo : Stmt := inClass (top 76) 13
abbrev N_Desk_redo : List Str := ["self"]
-- slots of Desk_redo: 0 self
abbrev s_Desk_pair_called : Stmt := inClass (top 76) 14
abbrev N_Desk_pair_called : List Str := ["self", "name", "other", "pair"]
-- slots of Desk_pair_called: 0 self, 1 name, 2 other, 3 pair
abbrev s_Desk_marks : Stmt := inClass (top 76) 15
abbrev N_Desk_marks : List Str := ["self", "name"]
-- slots of Desk_marks: 0 self, 1 name
abbrev s_Desk_trial : Stmt := inClass (top 76) 16
abbrev N_Desk_trial : List Str := ["self"]
-- slots of Desk_trial: 0 self
abbrev s_Desk_put_on : Stmt := inClass (top 76) 17
abbrev N_Desk_put_on : List Str := ["self", "name", "pair"]
-- slots of Desk_put_on: 0 self, 1 name, 2 pair
abbrev s_Desk_take_off : Stmt := inClass (top 76) 18
abbrev N_Desk_take_off : List Str := ["self", "name"]
-- slots of Desk_take_off: 0 self, 1 name
abbrev s_Desk_copy : Stmt := inClass (top 76) 19
abbrev N_Desk_copy : List Str := ["self"]
-- slots of Desk_copy: 0 self
abbrev s_Desk_told_deed : Stmt := inClass (top 76) 20
abbrev N_Desk_told_deed : List Str := ["self", "deed"]
-- slots of Desk_told_deed: 0 self, 1 deed
abbrev s_Desk_tried : Stmt := inClass (top 76) 21
abbrev N_Desk_tried : List Str := ["self", "deeds"]
-- slots of Desk_tried: 0 self, 1 deeds
abbrev s__law_source : Stmt := top 78
abbrev N__law_source : List Str := ["_law_script", "_law_place_here", "_law_cell", "_law_seed", "_law_one", "_law_number"]
-- slots of _law_source: 0 _law_script, 1 _law_place_here, 2 _law_cell, 3 _law_seed, 4 _law_one, 5 _law_number
abbrev s__law_pick : Stmt := top 79
abbrev N__law_pick : List Str := ["_law_source_here", "_law_many", "_law_digit", "_law_mixed"]
-- slots of _law_pick: 0 _law_source_here, 1 _law_many, 2 _law_digit, 3 _law_mixed
abbrev s__law_alphabet : Stmt := top 80
abbrev N__law_alphabet : List Str := ["_law_source_here", "_law_menu"]
-- slots of _law_alphabet: 0 _law_source_here, 1 _law_menu
abbrev s__law_word : Stmt := top 81
abbrev N__law_word : List Str := ["_law_source_here", "_law_alphabet_here", "_law_most", "_law_size", "_law_k"]
-- slots of _law_word: 0 _law_source_here, 1 _law_alphabet_here, 2 _law_most, 3 _law_size, 4 _law_k
abbrev s__law_reader : Stmt := top 82
abbrev N__law_reader : List Str := ["_law_source_here", "_law_many", "_law_most", "_law_size", "_law_t", "_law_p"]
-- slots of _law_reader: 0 _law_source_here, 1 _law_many, 2 _law_most, 3 _law_size, 4 _law_t, 5 _law_p
abbrev s__law_steady_reader : Stmt := top 83
abbrev N__law_steady_reader : List Str := ["_law_source_here", "_law_many", "_law_most", "_law_size", "_law_t", "_law_p", "_law_lines", "_law_first", "_law_names_here", "_law_rules"]
-- slots of _law_steady_reader: 0 _law_source_here, 1 _law_many, 2 _law_most, 3 _law_size, 4 _law_t, 5 _law_p, 6 _law_lines, 7 _law_first, 8 _law_names_here, 9 _law_rules
abbrev s__law_marked : Stmt := top 84
abbrev N__law_marked : List Str := ["_law_source_here", "_law_alphabet_here", "_law_left", "_law_right", "_law_told", "_law_p", "_law_letter", "_law_q"]
-- slots of _law_marked: 0 _law_source_here, 1 _law_alphabet_here, 2 _law_left, 3 _law_right, 4 _law_told, 5 _law_p, 6 _law_letter, 7 _law_q
abbrev s__law_tables : Stmt := top 85
abbrev N__law_tables : List Str := ["_law_source_here", "_law_alphabet_here", "_law_most", "_law_steady", "_law_many", "_law_left", "_law_right"]
-- slots of _law_tables: 0 _law_source_here, 1 _law_alphabet_here, 2 _law_most, 3 _law_steady, 4 _law_many, 5 _law_left, 6 _law_right
abbrev s__law_is_number : Stmt := top 86
abbrev N__law_is_number : List Str := ["_law_thing", "_law_low", "_law_high"]
-- slots of _law_is_number: 0 _law_thing, 1 _law_low, 2 _law_high
abbrev s__law_bools : Stmt := top 87
abbrev N__law_bools : List Str := ["_law_thing", "_law_size", "_law_one"]
-- slots of _law_bools: 0 _law_thing, 1 _law_size, 2 _law_one
abbrev s__law_line : Stmt := top 88
abbrev N__law_line : List Str := ["_law_alphabet_here", "_law_tables_here", "_law_row", "_law_ahead", "_law_letter", "_law_behind", "_law_size", "_law_k"]
-- slots of _law_line: 0 _law_alphabet_here, 1 _law_tables_here, 2 _law_row, 3 _law_ahead, 4 _law_letter, 5 _law_behind, 6 _law_size, 7 _law_k
abbrev s__law_names : Stmt := top 89
abbrev N__law_names : List Str := ["_law_source_here", "_law_many", "_law_shift", "_law_told", "_law_k", "_law_rest", "_law_at", "_law_m"]
-- slots of _law_names: 0 _law_source_here, 1 _law_many, 2 _law_shift, 3 _law_told, 4 _law_k, 5 _law_rest, 6 _law_at, 7 _law_m
abbrev s__law_desk : Stmt := top 90
abbrev N__law_desk : List Str := ["_law_source_here", "_law_names_here", "_law_alphabet_here", "_law_row", "_law_listed", "_law_handed", "_law_name", "_law_tables_here", "_law_desk_here", "_law_one", "_law_own", "_law_k"]
-- slots of _law_desk: 0 _law_source_here, 1 _law_names_here, 2 _law_alphabet_here, 3 _law_row, 4 _law_listed, 5 _law_handed, 6 _law_name, 7 _law_tables_here, 8 _law_desk_here, 9 _law_one, 10 _law_own, 11 _law_k
abbrev s__law_carried : Stmt := top 91
abbrev N__law_carried : List Str := ["_law_own", "_law_deed_here", "_law_row", "_law_tags", "_law_place_here", "_law_before", "_law_name", "_law_tables_here", "_law_line_here", "_law_k", "_law_lines", "_law_due", "_law_one"]
-- slots of _law_carried: 0 _law_own, 1 _law_deed_here, 2 _law_row, 3 _law_tags, 4 _law_place_here, 5 _law_before, 6 _law_name, 7 _law_tables_here, 8 _law_line_here, 9 _law_k, 10 _law_lines, 11 _law_due, 12 _law_one
abbrev s__law_logged : Stmt := top 92
abbrev N__law_logged : List Str := ["_law_own", "_law_deed_here"]
-- slots of _law_logged: 0 _law_own, 1 _law_deed_here
abbrev s__law_place : Stmt := top 93
abbrev N__law_place : List Str := ["_law_source_here", "_law_many", "_law_way"]
-- slots of _law_place: 0 _law_source_here, 1 _law_many, 2 _law_way
abbrev s__law_deed : Stmt := top 94
abbrev N__law_deed : List Str := ["_law_source_here", "_law_own", "_law_alphabet_here", "_law_size", "_law_letter", "_law_way"]
-- slots of _law_deed: 0 _law_source_here, 1 _law_own, 2 _law_alphabet_here, 3 _law_size, 4 _law_letter, 5 _law_way
abbrev s__law_bad_deed : Stmt := top 95
abbrev N__law_bad_deed : List Str := ["_law_source_here", "_law_own", "_law_alphabet_here", "_law_size", "_law_letter", "_law_place_here", "_law_wrong", "_law_far", "_law_way", "_law_off", "_law_row", "_law_at"]
-- slots of _law_bad_deed: 0 _law_source_here, 1 _law_own, 2 _law_alphabet_here, 3 _law_size, 4 _law_letter, 5 _law_place_here, 6 _law_wrong, 7 _law_far, 8 _law_way, 9 _law_off, 10 _law_row, 11 _law_at
abbrev s__law_do : Stmt := top 96
abbrev N__law_do : List Str := ["_law_desk_here", "_law_deed_here"]
-- slots of _law_do: 0 _law_desk_here, 1 _law_deed_here
abbrev s__law_refused : Stmt := top 97
abbrev N__law_refused : List Str := ["_law_desk_here", "_law_deed_here", "_law_kind", "_law_thing", "error"]
-- slots of _law_refused: 0 _law_desk_here, 1 _law_deed_here, 2 _law_kind, 3 _law_thing, 4 error
abbrev s__law_alike : Stmt := top 98
abbrev N__law_alike : List Str := ["_law_told", "_law_due", "_law_one", "_law_other"]
-- slots of _law_alike: 0 _law_told, 1 _law_due, 2 _law_one, 3 _law_other
abbrev s__law_same : Stmt := top 99
abbrev N__law_same : List Str := ["_law_desk_here", "_law_own", "_law_name", "_law_tables_here", "_law_told", "_law_one"]
-- slots of _law_same: 0 _law_desk_here, 1 _law_own, 2 _law_name, 3 _law_tables_here, 4 _law_told, 5 _law_one
abbrev s_law : Stmt := top 100
abbrev N_law : List Str := ["_law_script", "_law_first", "_law_names_here", "_law_pairs", "_law_third", "_law_step", "_law_desk_here", "_law_own", "_law_deed_here", "_law_kind", "_law_thing", "_law_logged_here", "_law_due"]
-- slots of law: 0 _law_script, 1 _law_first, 2 _law_names_here, 3 _law_pairs, 4 _law_third, 5 _law_step, 6 _law_desk_here, 7 _law_own, 8 _law_deed_here, 9 _law_kind, 10 _law_thing, 11 _law_logged_here, 12 _law_due

def dD (x : Str) (st : Stmt) : He.DefD := ⟨(x, none), x, x, defArgs st, defBody st, defScope st, [], []⟩
def dM (C x q : Str) (st : Stmt) : He.DefD := ⟨(C, some x), x, q, defArgs st, defBody st, defScope st, [], []⟩
def fn0 : List He.DefD := [dM "WrongThing" "__init__" "WrongThing.__init__" s_WrongThing___init__, dM "WrongItem" "__init__" "WrongItem.__init__" s_WrongItem___init__, dM "BadRow" "__init__" "BadRow.__init__" s_BadRow___init__, dM "BadReader" "__init__" "BadReader.__init__" s_BadReader___init__, dM "Twice" "__init__" "Twice.__init__" s_Twice___init__, dM "Unknown" "__init__" "Unknown.__init__" s_Unknown___init__, dM "TooMany" "__init__" "TooMany.__init__" s_TooMany___init__, dM "TooLong" "__init__" "TooLong.__init__" s_TooLong___init__, dD "is_whole" s_is_whole, dD "is_below" s_is_below]
def fn1 : List He.DefD := [dD "is_listing" s_is_listing, dD "is_name" s_is_name, dD "has_bit" s_has_bit, dD "is_move" s_is_move, dD "kept_reader" s_kept_reader, dD "standings_ahead" s_standings_ahead, dD "standings_behind" s_standings_behind, dD "is_alphabet" s_is_alphabet, dD "check_alphabet" s_check_alphabet, dD "is_letter" s_is_letter]
def fn2 : List He.DefD := [dD "wrong_at" s_wrong_at, dD "check_row" s_check_row, dD "check_place" s_check_place, dD "is_triple" s_is_triple, dD "kept_marked" s_kept_marked, dD "masks_of_triples" s_masks_of_triples, dD "marks_in" s_marks_in, dM "Pair" "__init__" "Pair.__init__" s_Pair___init__, dD "kept_marks" s_kept_marks, dD "check_letter" s_check_letter]
def fn3 : List He.DefD := [dD "row_behind" s_row_behind, dD "places_kept" s_places_kept, dM "Kept" "__init__" "Kept.__init__" s_Kept___init__, dM "Trial" "__init__" "Trial.__init__" s_Trial___init__, dM "Desk" "__init__" "Desk.__init__" s_Desk___init__, dM "Desk" "state_now" "Desk.state_now" s_Desk_state_now, dM "Desk" "moved" "Desk.moved" s_Desk_moved, dM "Desk" "doing" "Desk.doing" s_Desk_doing, dM "Desk" "put" "Desk.put" s_Desk_put, dM "Desk" "take" "Desk.take" s_Desk_take]
def fn4 : List He.DefD := [dM "Desk" "change" "Desk.change" s_Desk_change, dM "Desk" "become" "Desk.become" s_Desk_become, dM "Desk" "pair_called" "Desk.pair_called" s_Desk_pair_called, dM "Desk" "marks" "Desk.marks" s_Desk_marks, dD "_law_source" s__law_source, dD "_law_pick" s__law_pick, dD "_law_alphabet" s__law_alphabet, dD "_law_word" s__law_word, dD "_law_reader" s__law_reader, dD "_law_steady_reader" s__law_steady_reader]
def fn5 : List He.DefD := [dD "_law_marked" s__law_marked, dD "_law_tables" s__law_tables, dD "_law_is_number" s__law_is_number, dD "_law_bools" s__law_bools, dD "_law_line" s__law_line, dD "_law_names" s__law_names, dD "_law_desk" s__law_desk, dD "_law_carried" s__law_carried, dD "_law_logged" s__law_logged, dD "_law_place" s__law_place]
def fn6 : List He.DefD := [dD "_law_deed" s__law_deed, dD "_law_bad_deed" s__law_bad_deed, dD "_law_do" s__law_do, dD "_law_refused" s__law_refused, dD "_law_alike" s__law_alike, dD "_law_same" s__law_same, dD "law" s_law, dM "BadAlphabet" "__init__" "WrongThing.__init__" s_WrongThing___init__, dM "BadPlace" "__init__" "WrongThing.__init__" s_WrongThing___init__, dM "BadLetter" "__init__" "WrongThing.__init__" s_WrongThing___init__]
def fn7 : List He.DefD := [dM "BadMarked" "__init__" "WrongItem.__init__" s_WrongItem___init__]
def fn : List He.DefD := fn0 ++ fn1 ++ fn2 ++ fn3 ++ fn4 ++ fn5 ++ fn6 ++ fn7
def fa0 : List He.Fa := [.glo "SaidError", .glo "WrongThing", .glo "WrongItem", .glo "BadAlphabet", .glo "BadPlace", .glo "BadLetter", .glo "BadMarked", .glo "BadEntry", .glo "BadRow", .glo "BadReader", .glo "Twice", .glo "Unknown", .glo "TooMany", .glo "TooLong", .glo "Unlike", .glo "is_whole", .glo "is_below", .glo "is_listing", .glo "is_name", .glo "has_bit", .glo "is_move", .glo "kept_reader", .glo "standings_ahead", .glo "standings_behind", .glo "is_alphabet", .glo "check_alphabet", .glo "is_letter", .glo "wrong_at", .glo "check_row", .glo "check_place", .glo "is_triple", .glo "kept_marked", .glo "masks_of_triples", .glo "marks_in", .glo "Pair", .glo "kept_marks", .glo "check_letter", .glo "row_behind", .glo "places_kept", .glo "Kept"]
def fa1 : List He.Fa := [.glo "Trial", .glo "Desk", .glo "_law_source", .glo "_law_pick", .glo "_law_alphabet", .glo "_law_word", .glo "_law_reader", .glo "_law_steady_reader", .glo "_law_marked", .glo "_law_tables", .glo "_law_is_number", .glo "_law_bools", .glo "_law_line", .glo "_law_names", .glo "_law_desk", .glo "_law_carried", .glo "_law_logged", .glo "_law_place", .glo "_law_deed", .glo "_law_bad_deed", .glo "_law_do", .glo "_law_refused", .glo "_law_alike", .glo "_law_same", .glo "law"]
def fa2 : List He.Fa := [.free "ValueError", .free "abs", .free "all", .free "any", .free "bool", .free "dict", .free "enumerate", .free "int", .free "isinstance", .free "len", .free "list", .free "max", .free "min", .free "range", .free "repr", .free "reversed", .free "set", .free "sorted", .free "str", .free "sum", .free "tuple", .free "zip"]
def fa3 : List He.Fa := [.int "MOST_LETTERS" 200, .int "MOST_STANDINGS" 40, .int "MOST_MARKS" 20, .int "MOST_NAME" 8, .str "LETTERS" "abcdefgh", .str "NAME_LETTERS" "abcdefghijklmnopqrstuvwxyz", .cls "Pair", .mkr "Pair", .noat "Pair" "alphabet", .noat "Pair" "left", .noat "Pair" "right", .noat "Pair" "marked", .noat "Pair" "masks", .cls "Kept", .mkr "Kept", .noat "Kept" "state", .noat "Kept" "below", .cls "Trial", .mkr "Trial", .noat "Trial" "top", .cls "Desk", .mkr "Desk", .noat "Desk" "alphabet", .noat "Desk" "worn", .noat "Desk" "trials", .meth "Desk" "state_now", .meth "Desk" "moved", .meth "Desk" "doing", .meth "Desk" "put", .meth "Desk" "take", .meth "Desk" "change", .meth "Desk" "become", .meth "Desk" "pair_called", .meth "Desk" "marks"]
def fa : List He.Fa := fa0 ++ fa1 ++ fa2 ++ fa3
/-! what more is asked of the written part -/
def clsB (K : PySem.W.Frag) (C : Addr) : Bool := match K.lookup C with
  | some ⟨.type ty, od, .cls cd, sl⟩ => (match cd.mro, sl.toList with
    | .ref C' :: bm, [_, _, _, _, some (.builtin n), _] => decide (ty = "type") && decide (C' = C) && decide (n = "ValueError.__new__") && cd.hasDict && !cd.hasDel && PySem.HandSPX.refsVE bm
    | _, _ => false)
  | _ => false
def exB (K : PySem.W.Frag) (x : Str) (fs : List Str) : Bool :=
  clsB K (He.ga K x) && (decide (PySem.W.findIn K (.ref (He.ga K x)) "__setattr__" = some (some (.builtin "object.__setattr__"))) && (decide (PySem.W.subIn K (.ref (He.ga K x)) (.type "BaseException") = some true) &&
  (decide (PySem.W.typeIn K (.ref (He.ga K x)) = some (.type "type")) && (PySem.W.keepIn K (.ref (He.ga K x)) && (decide (PySem.W.findIn K (.ref (He.ga K x)) "__init__" = some (some (.ref (He.ma K (He.ga K x) "__init__")))) &&
  (decide (PySem.W.typeIn K (.ref (He.ma K (He.ga K x) "__init__")) = some (.type "function")) && (fs.all (fun f => decide (PySem.W.findIn K (.ref (He.ga K x)) f = some none)) && xfB K (He.ga K x))))))))
def exms (K : PySem.W.Frag) (xs : List Str) (y : Str) : Bool := xs.all fun x => decide (PySem.W.exmOne K (.ref (He.ga K x)) (.ref (He.ga K y)) = some true)
def excl : List (Str × List Str) := [("BadAlphabet", ["thing"]), ("BadRow", ["at"]), ("TooLong", ["number"]), ("BadPlace", ["thing"]), ("BadLetter", ["thing"]), ("BadMarked", ["number"]), ("BadReader", ["side", "number"])]
def toldl : List Str := ["BadAlphabet", "BadRow", "TooLong", "BadPlace", "BadLetter", "BadMarked", "BadReader"]
def askedl : List Str := ["WrongThing", "WrongItem", "SaidError", "BadPlace", "BadLetter", "BadRow", "TooLong"]
/-- whether an error of the class x is one of the class y -/
def isErr (x y : Str) : Bool := decide (x = y) || (decide (y = ("WrongThing" : Str)) && decide (x ∈ (["BadAlphabet", "BadPlace", "BadLetter"] : List Str))) || (decide (y = ("WrongItem" : Str)) && decide (x ∈ (["BadMarked"] : List Str))) || (decide (y = ("SaidError" : Str)) && decide (x ∈ (["BadAlphabet", "BadRow", "TooLong", "BadPlace", "BadLetter", "BadMarked", "BadReader"] : List Str)))
def kitsB (K : PySem.W.Frag) : Bool := toldl.all fun x => askedl.all fun y => decide (PySem.W.kitOne K (.ref (He.ga K x)) (.ref (He.ga K y)) = some (isErr x y))
def clsfB (K : PySem.W.Frag) (C : Addr) : Bool := decide (PySem.W.findIn K (.ref C) "__class__" = some (some (.builtin "object.__class__"))) && decide (PySem.W.mroIn K C (.type "object") = some true)
def objB (K : PySem.W.Frag) : Bool := decide (PySem.W.specialIn K (.builtin "object.__class__") "__get__" = some (some (.builtin "getset_descriptor.__get__"))) && decide (PySem.W.takesIn K (.builtin "object.__class__") = some true)
def fldsB (K : PySem.W.Frag) : Bool := toldl.all fun x => (["at", "number", "side", "thing"] : List Str).all fun f => decide (PySem.W.findIn K (.ref (He.ga K x)) f = some none)
/-- a property's getter -/
def geA (C f : Str) (K : PySem.W.Frag) : Addr := match PySem.W.recIn K (He.ma K (He.ga K C) f) "property" with
  | some (.ref g :: _) => g
  | _ => 0
def propB (K : PySem.W.Frag) (C f : Str) : Bool := decide (PySem.W.findIn K (.ref (He.ga K C)) f = some (some (.ref (He.ma K (He.ga K C) f)))) && (decide (PySem.W.specialIn K (.ref (He.ma K (He.ga K C) f)) "__get__" = some (some (.builtin "property.__get__"))) && (decide (PySem.W.takesIn K (.ref (He.ma K (He.ga K C) f)) = some true) && (match PySem.W.recIn K (He.ma K (He.ga K C) f) "property" with
  | some (.ref _ :: _) => true
  | _ => false)))
theorem prop_ok {K : PySem.W.Frag} {C f : Str} (h : propB K C f = true) : PropOf K (He.ga K C) f (He.ma K (He.ga K C) f) (geA C f K) := by
  unfold propB at h
  rw [Bool.and_eq_true, Bool.and_eq_true, Bool.and_eq_true, decide_eq_true_eq, decide_eq_true_eq, decide_eq_true_eq] at h
  obtain ⟨h1, h2, h3, h4⟩ := h
  refine ⟨h1, h2, h3, ?_⟩
  unfold geA
  split at h4
  · rename_i g rest e
    rw [e]
    exact ⟨rest, rfl⟩
  · cases h4
def propl : List (Str × Str) := [("Desk", "live"), ("Desk", "mark_names"), ("Desk", "log")]
def fnP : List He5.DefA := [⟨geA "Desk" "live", "live", "Desk.live", defArgs s_Desk_live, defBody s_Desk_live, defScope s_Desk_live, [], []⟩, ⟨geA "Desk" "mark_names", "mark_names", "Desk.mark_names", defArgs s_Desk_mark_names, defBody s_Desk_mark_names, defScope s_Desk_mark_names, [], []⟩, ⟨geA "Desk" "log", "log", "Desk.log", defArgs s_Desk_log, defBody s_Desk_log, defScope s_Desk_log, [], []⟩]
/-! properties; the pair's class -/
def ownB (K : PySem.W.Frag) : Bool := propl.all (fun p => propB K p.1 p.2) && ((K.lookup sysModules).isSome && clsfB K (He.ga K "Pair"))

def extra (K : PySem.W.Frag) : Bool := (excl.all (fun p => exB K p.1 p.2) && exms K (excl.map (·.1)) "SaidError") && (kitsB K && (toldl.all (fun x => clsfB K (He.ga K x)) && (objB K && (fldsB K && ownB K))))
end Kx
set_option Elab.async false
set_option linter.all false
set_option maxRecDepth 100000
set_option maxHeartbeats 0
namespace Kx
open PySem PySem.Spec PyProof.Rows L2
/-! ### the head, looked at in pieces: each its own run, joined behind -/
abbrev R : PySem.W.OpenRow := PySem.W.OpenLaw.row PySem.Challenge.rw_saidhere_k57_whole_desk_deeds
/-- where the written part stands that is looked at -/
def lookL : List Addr := [3, 1, 2, 31, 51, 70, 82, 94, 106, 118, 130, 149, 168, 187, 206, 225, 244, 263, 561, 613, 648, 817, 30, 50, 69, 81, 93, 105, 117, 129, 148, 167, 186, 205, 224, 243, 262, 560, 612, 647,
  816, 272, 279, 286, 291, 298, 322, 329, 336, 343, 420, 427, 434, 441, 448, 455, 462, 469, 474, 493, 577, 584, 591, 596, 828, 835, 842, 847, 852, 857, 864, 871, 878, 883, 888, 893, 898, 903, 910, 917,
  924, 931, 938, 945, 950, 955, 962, 48, 67, 146, 165, 184, 203, 222, 241, 512, 610, 631, 666, 673, 709, 716, 723, 730, 737, 744, 765, 772, 680, 695, 703, 690, 696, 704, 47, 66, 145, 164, 183, 202,
  221, 240, 271, 278, 285, 290, 297, 321, 328, 335, 342, 419, 426, 433, 440, 447, 454, 461, 468, 473, 492, 511, 576, 583, 590, 595, 609, 630, 665, 672, 708, 715, 722, 729, 736, 743, 764, 771, 827, 834,
  841, 846, 851, 856, 863, 870, 877, 882, 887, 892, 897, 902, 909, 916, 923, 930, 937, 944, 949, 954, 961, 679, 694, 702]
def lookAt {α : Type} (f : PySem.W.Frag → α) (g : Addr → Option Obj) : α := f (He.frG g lookL)
def look {α : Type} (f : PySem.W.Frag → α) (v : α) : PySem.W.Hook where
  α := α
  obs := fun s => lookAt f s.heap.get?
  val := fun _ => v
  says := fun _ h => ∃ K : PySem.W.Frag, K.In h ∧ f K = v
  of := fun _ _ e => ⟨_, He.frG_in, e⟩
  keeps := fun _ _ _ ⟨K, hK, c⟩ k => ⟨K, PySem.W.Frag.In.keeps hK k, c⟩
def lookT {α : Type} (f : PySem.W.Frag → α) (s : PySem.W.SharedT) : α := lookAt f (HandSHeadRun.getT s)
theorem lookT_eq {α : Type} (f : PySem.W.Frag → α) (v : α) (s : PySem.W.SharedT) : lookT f s = (look f v).obs s.abs := by
  have e : HandSHeadRun.getT s = s.abs.heap.get? := funext (HandSHeadRun.getT_eq s)
  show lookAt f (HandSHeadRun.getT s) = lookAt f s.abs.heap.get?
  rw [e]
theorem run_two {α β : Type} {f : PySem.W.Frag → α} {g : PySem.W.Frag → β} {u : α} {v : β} {q : Program} {M : Nat} {ls : List Str} {w : World}
    (a : HandSHeadRun.RunEq R q (look f u) (lookT f) M ls w) (b : HandSHeadRun.RunEq R q (look g v) (lookT g) M ls w) : HandSHeadRun.RunEq R q (look (fun K => (f K, g K)) (u, v)) (lookT fun K => (f K, g K)) M ls w := by
  intro os
  obtain ⟨s, e, h1⟩ := Option.map_eq_some_iff.mp (a os)
  obtain ⟨s', e', h2⟩ := Option.map_eq_some_iff.mp (b os)
  have es : s = s' := Option.some.inj (e.symm.trans e')
  subst es
  refine Option.map_eq_some_iff.mpr ⟨s, e, ?_⟩
  obtain ⟨p1, p2⟩ := Prod.mk.inj h1
  obtain ⟨p3, p4⟩ := Prod.mk.inj p2
  obtain ⟨_, r2⟩ := Prod.mk.inj h2
  obtain ⟨_, r4⟩ := Prod.mk.inj r2
  exact Prod.ext p1 (Prod.ext p3 (Prod.ext p4 r4))
theorem obs_join {fa' fa'' : List He.Fa} {fn' fn'' : List He.DefD} {K : PySem.W.Frag} (a : He.obsD fa' fn' K = He.valD fn') (b : He.obsD fa'' fn'' K = He.valD fn'') : He.SaysD (fa' ++ fa'') (fn' ++ fn'') K := by
  obtain ⟨a1, a2⟩ := Prod.mk.inj a
  obtain ⟨b1, b2⟩ := Prod.mk.inj b
  rw [Bool.and_eq_true] at a1 b1
  refine Prod.ext ?_ ?_
  · show ((fa' ++ fa'').all _ && (fn' ++ fn'').all _) = true
    rw [List.all_append, List.all_append, a1.1, a1.2, b1.1, b1.2]
    rfl
  · show (fn' ++ fn'').map _ = (fn' ++ fn'').map _
    rw [List.map_append, List.map_append, a2, b2]
def faA : List He.Fa := fa0 ++ fa1
def faB : List He.Fa := fa2 ++ fa3
def fnA : List He.DefD := fn0 ++ fn1
def fnB : List He.DefD := fn2 ++ fn3 ++ fn4 ++ fn5 ++ fn6 ++ fn7
theorem says_of {K : PySem.W.Frag} (a : He.obsD faA fnA K = He.valD fnA) (b : He.obsD faB fnB K = He.valD fnB) : He.SaysD fa fn K := by
  have e1 : fa = faA ++ faB := by unfold fa faA faB; simp only [List.append_assoc]
  have e2 : fn = fnA ++ fnB := by unfold fn fnA fnB; simp only [List.append_assoc]
  rw [e1, e2]
  exact obs_join a b
def nm0 : List PySem.Str := [("_wall" : PySem.Str), ("SaidError" : PySem.Str), ("WrongThing" : PySem.Str), ("WrongItem" : PySem.Str), ("BadAlphabet" : PySem.Str), ("BadPlace" : PySem.Str), ("BadLetter" : PySem.Str), ("BadMarked" : PySem.Str), ("BadEntry" : PySem.Str), ("BadRow" : PySem.Str), ("BadReader" : PySem.Str), ("Twice" : PySem.Str), ("Unknown" : PySem.Str), ("TooMany" : PySem.Str), ("TooLong" : PySem.Str), ("Unlike" : PySem.Str)]
def nm1 : List PySem.Str := [("NAME_LETTERS" : PySem.Str), ("MOST_NAME" : PySem.Str), ("is_whole" : PySem.Str), ("is_below" : PySem.Str), ("is_listing" : PySem.Str), ("is_name" : PySem.Str), ("has_bit" : PySem.Str), ("mask_of" : PySem.Str), ("united" : PySem.Str), ("spread" : PySem.Str), ("MOST_STANDINGS" : PySem.Str), ("is_move" : PySem.Str), ("kept_reader" : PySem.Str), ("standings_ahead" : PySem.Str), ("standings_behind" : PySem.Str), ("item_after" : PySem.Str)]
def nm2 : List PySem.Str := [("check_most" : PySem.Str), ("walked_ahead" : PySem.Str), ("walked_behind" : PySem.Str), ("reached_ahead" : PySem.Str), ("reached_behind" : PySem.Str), ("numbered" : PySem.Str), ("refined" : PySem.Str), ("firsts_of" : PySem.Str), ("class_moves" : PySem.Str), ("column_of" : PySem.Str), ("picked" : PySem.Str), ("least_machine" : PySem.Str), ("LETTERS" : PySem.Str), ("MOST_LETTERS" : PySem.Str), ("is_alphabet" : PySem.Str), ("check_alphabet" : PySem.Str)]
def nm3 : List PySem.Str := [("is_letter" : PySem.Str), ("wrong_at" : PySem.Str), ("check_row" : PySem.Str), ("check_place" : PySem.Str), ("is_triple" : PySem.Str), ("kept_marked" : PySem.Str), ("masks_of_triples" : PySem.Str), ("triples_of_masks" : PySem.Str), ("check_alphabets" : PySem.Str), ("marks_in" : PySem.Str), ("crossed" : PySem.Str), ("Pair" : PySem.Str), ("least_pair" : PySem.Str), ("MOST_MARKS" : PySem.Str), ("kept_marks" : PySem.Str), ("check_letter" : PySem.Str)]
def nm4 : List PySem.Str := [("row_behind" : PySem.Str), ("places_kept" : PySem.Str), ("Kept" : PySem.Str), ("Trial" : PySem.Str), ("Desk" : PySem.Str), ("_law_source" : PySem.Str), ("_law_pick" : PySem.Str), ("_law_alphabet" : PySem.Str), ("_law_word" : PySem.Str), ("_law_reader" : PySem.Str), ("_law_steady_reader" : PySem.Str), ("_law_marked" : PySem.Str), ("_law_tables" : PySem.Str), ("_law_is_number" : PySem.Str), ("_law_bools" : PySem.Str), ("_law_line" : PySem.Str)]
def nm5 : List PySem.Str := [("_law_names" : PySem.Str), ("_law_desk" : PySem.Str), ("_law_carried" : PySem.Str), ("_law_logged" : PySem.Str), ("_law_place" : PySem.Str), ("_law_deed" : PySem.Str), ("_law_bad_deed" : PySem.Str), ("_law_do" : PySem.Str), ("_law_refused" : PySem.Str), ("_law_alike" : PySem.Str), ("_law_same" : PySem.Str)]
def nms : List PySem.Str := nm0 ++ nm1 ++ nm2 ++ nm3 ++ nm4 ++ nm5
def exA (K : PySem.W.Frag) : Bool := excl.all (fun p => exB K p.1 p.2) && exms K (excl.map (·.1)) "SaidError"
def exZ (K : PySem.W.Frag) : Bool := kitsB K && (toldl.all (fun x => clsfB K (He.ga K x)) && (objB K && (fldsB K && ownB K)))
theorem extra_of {K : PySem.W.Frag} (a : exA K = true) (b : exZ K = true) : extra K = true := by
  show (exA K && exZ K) = true
  rw [a, b]
  rfl
end Kx
set_option Elab.async false
set_option linter.all false
set_option maxRecDepth 100000
set_option maxHeartbeats 0
namespace Kx
open PySem PySem.Spec PyProof.Rows L2
def fAll (K : PySem.W.Frag) : ((He.AlD × He.AlD) × (Bool × Bool)) × He.AlD := (((He.obsD faA fnA K, He.obsD faB fnB K), (exA K, exZ K)), He5.obsA [] fnP K)
def vAll : ((He.AlD × He.AlD) × (Bool × Bool)) × He.AlD := (((He.valD fnA, He.valD fnB), (true, true)), He5.valA fnP)
theorem runAll (w : World) : HandSHeadRun.RunEq R (PySem.W.view R.prog [100]) (look fAll vAll) (lookT fAll) 20000 nms w := by
  intro os
  kernel_rfl
theorem all_of {K : PySem.W.Frag} (h : fAll K = vAll) : (He.SaysD fa fn K ∧ extra K = true) ∧ He5.SaysA [] fnP K := by
  obtain ⟨h1, p⟩ := Prod.mk.inj h
  obtain ⟨h1, h2⟩ := Prod.mk.inj h1
  obtain ⟨a, b⟩ := Prod.mk.inj h1
  obtain ⟨c, d⟩ := Prod.mk.inj h2
  exact ⟨⟨says_of a b, extra_of c d⟩, p⟩
end Kx
set_option Elab.async false
set_option linter.all false
set_option maxRecDepth 100000
set_option maxHeartbeats 0
namespace Kx
open PySem PySem.Spec PyProof.Rows L2
theorem sc__wall : FnScope ["k"] ["k"] (defScope s__wall) := ⟨rfl, rfl, rfl, by decide +kernel, rfl, by decide +kernel, by decide +kernel⟩
theorem sc_WrongThing___init__ : FnScope ["self", "thing"] ["self", "thing"] (defScope s_WrongThing___init__) := ⟨rfl, rfl, rfl, by decide +kernel, rfl, by decide +kernel, by decide +kernel⟩
theorem sc_WrongItem___init__ : FnScope ["self", "number"] ["self", "number"] (defScope s_WrongItem___init__) := ⟨rfl, rfl, rfl, by decide +kernel, rfl, by decide +kernel, by decide +kernel⟩
theorem sc_BadRow___init__ : FnScope ["self", "at"] ["self", "at"] (defScope s_BadRow___init__) := ⟨rfl, rfl, rfl, by decide +kernel, rfl, by decide +kernel, by decide +kernel⟩
theorem sc_BadReader___init__ : FnScope ["self", "side", "number"] ["self", "side", "number"] (defScope s_BadReader___init__) := ⟨rfl, rfl, rfl, by decide +kernel, rfl, by decide +kernel, by decide +kernel⟩
theorem sc_Twice___init__ : FnScope ["self", "name"] ["self", "name"] (defScope s_Twice___init__) := ⟨rfl, rfl, rfl, by decide +kernel, rfl, by decide +kernel, by decide +kernel⟩
theorem sc_Unknown___init__ : FnScope ["self", "name"] ["self", "name"] (defScope s_Unknown___init__) := ⟨rfl, rfl, rfl, by decide +kernel, rfl, by decide +kernel, by decide +kernel⟩
theorem sc_TooMany___init__ : FnScope ["self", "word"] ["self", "word"] (defScope s_TooMany___init__) := ⟨rfl, rfl, rfl, by decide +kernel, rfl, by decide +kernel, by decide +kernel⟩
theorem sc_TooLong___init__ : FnScope ["self", "number"] ["self", "number"] (defScope s_TooLong___init__) := ⟨rfl, rfl, rfl, by decide +kernel, rfl, by decide +kernel, by decide +kernel⟩
theorem sc_Unlike___init__ : FnScope ["self", "word"] ["self", "word"] (defScope s_Unlike___init__) := ⟨rfl, rfl, rfl, by decide +kernel, rfl, by decide +kernel, by decide +kernel⟩
theorem sc_is_whole : FnScope ["thing"] ["thing"] (defScope s_is_whole) := ⟨rfl, rfl, rfl, by decide +kernel, rfl, by decide +kernel, by decide +kernel⟩
theorem sc_is_below : FnScope ["thing", "many"] ["thing", "many"] (defScope s_is_below) := ⟨rfl, rfl, rfl, by decide +kernel, rfl, by decide +kernel, by decide +kernel⟩
theorem sc_is_listing : FnScope ["thing"] ["thing"] (defScope s_is_listing) := ⟨rfl, rfl, rfl, by decide +kernel, rfl, by decide +kernel, by decide +kernel⟩
theorem sc_is_name : FnScope ["thing", "letter"] ["thing"] (defScope s_is_name) := ⟨rfl, rfl, rfl, by decide +kernel, rfl, by decide +kernel, by decide +kernel⟩
theorem sc_has_bit : FnScope ["mask", "number"] ["mask", "number"] (defScope s_has_bit) := ⟨rfl, rfl, rfl, by decide +kernel, rfl, by decide +kernel, by decide +kernel⟩
theorem sc_mask_of : FnScope ["bits", "mask", "number", "bit"] ["bits"] (defScope s_mask_of) := ⟨rfl, rfl, rfl, by decide +kernel, rfl, by decide +kernel, by decide +kernel⟩
theorem sc_united : FnScope ["mask", "pictures", "whole", "number", "picture"] ["mask", "pictures"] (defScope s_united) := ⟨rfl, rfl, rfl, by decide +kernel, rfl, by decide +kernel, by decide +kernel⟩
theorem sc_spread : FnScope ["table", "column", "pictures", "number", "standing", "mask", "masks"] ["table", "column"] (defScope s_spread) := ⟨rfl, rfl, rfl, by decide +kernel, rfl, by decide +kernel, by decide +kernel⟩
theorem sc_is_move : FnScope ["thing", "letters", "standings", "standing"] ["thing", "letters", "standings"] (defScope s_is_move) := ⟨rfl, rfl, rfl, by decide +kernel, rfl, by decide +kernel, by decide +kernel⟩
theorem sc_kept_reader : FnScope ["alphabet", "side", "thing", "kept", "number", "move"] ["alphabet", "side", "thing"] (defScope s_kept_reader) := ⟨rfl, rfl, rfl, by decide +kernel, rfl, by decide +kernel, by decide +kernel⟩
theorem sc_standings_ahead : FnScope ["alphabet", "left", "row", "told", "standing", "letter"] ["alphabet", "left", "row"] (defScope s_standings_ahead) := ⟨rfl, rfl, rfl, by decide +kernel, rfl, by decide +kernel, by decide +kernel⟩
theorem sc_standings_behind : FnScope ["alphabet", "right", "row"] ["alphabet", "right", "row"] (defScope s_standings_behind) := ⟨rfl, rfl, rfl, by decide +kernel, rfl, by decide +kernel, by decide +kernel⟩
theorem sc_item_after : FnScope ["readers", "item", "letter", "reader", "standing"] ["readers", "item", "letter"] (defScope s_item_after) := ⟨rfl, rfl, rfl, by decide +kernel, rfl, by decide +kernel, by decide +kernel⟩
theorem sc_check_most : FnScope ["many", "most", "word"] ["many", "most", "word"] (defScope s_check_most) := ⟨rfl, rfl, rfl, by decide +kernel, rfl, by decide +kernel, by decide +kernel⟩
theorem sc_walked_ahead : FnScope ["alphabet", "readers", "begin", "most", "word", "items", "found", "rows", "moves", "at", "move", "number", "letter", "follower"] ["alphabet", "readers", "begin", "most", "word"] (defScope s_walked_ahead) := ⟨rfl, rfl, rfl, by decide +kernel, rfl, by decide +kernel, by decide +kernel⟩
theorem sc_walked_behind : FnScope ["alphabet", "readers", "begin", "most", "word", "items", "found", "rows", "level", "newer", "number", "letter", "at", "follower", "letters", "moves", "k", "item"] ["alphabet", "readers", "begin", "most", "word"] (defScope s_walked_behind) := ⟨rfl, rfl, rfl, by decide +kernel, rfl, by decide +kernel, by decide +kernel⟩
theorem sc_reached_ahead : FnScope ["alphabet", "readers", "most", "_"] ["alphabet", "readers", "most"] (defScope s_reached_ahead) := ⟨rfl, rfl, rfl, by decide +kernel, rfl, by decide +kernel, by decide +kernel⟩
theorem sc_reached_behind : FnScope ["alphabet", "readers", "most", "_"] ["alphabet", "readers", "most"] (defScope s_reached_behind) := ⟨rfl, rfl, rfl, by decide +kernel, rfl, by decide +kernel, by decide +kernel⟩
theorem sc_numbered : FnScope ["things", "found", "numbers", "thing"] ["things"] (defScope s_numbered) := ⟨rfl, rfl, rfl, by decide +kernel, rfl, by decide +kernel, by decide +kernel⟩
theorem sc_refined : FnScope ["moves", "colours", "most", "numbers", "many", "told", "newer", "follower", "move"] ["moves", "colours", "most"] (defScope s_refined) := ⟨rfl, rfl, rfl, by decide +kernel, rfl, by decide +kernel, by decide +kernel⟩
theorem sc_firsts_of : FnScope ["numbers", "found", "standing", "number"] ["numbers"] (defScope s_firsts_of) := ⟨rfl, rfl, rfl, by decide +kernel, rfl, by decide +kernel, by decide +kernel⟩
theorem sc_class_moves : FnScope ["moves", "numbers", "firsts", "follower", "standing"] ["moves", "numbers", "firsts"] (defScope s_class_moves) := ⟨rfl, rfl, rfl, by decide +kernel, rfl, by decide +kernel, by decide +kernel⟩
theorem sc_column_of : FnScope ["table", "standing", "masks", "mask"] ["table", "standing"] (defScope s_column_of) := ⟨rfl, rfl, rfl, by decide +kernel, rfl, by decide +kernel, by decide +kernel⟩
theorem sc_picked : FnScope ["masks", "standings", "standing", "mask"] ["masks", "standings"] (defScope s_picked) := ⟨rfl, rfl, rfl, by decide +kernel, rfl, by decide +kernel, by decide +kernel⟩
theorem sc_least_machine : FnScope ["alphabet", "left", "right", "table", "items", "_", "onward", "things", "backward", "rights", "live", "answers", "ahead", "firsts", "shorter", "columns", "behind", "lasts", "least_left", "least_right", "kept", "thing", "standing", "mask", "item", "first"] ["alphabet", "left", "right", "table"] (defScope s_least_machine) := ⟨rfl, rfl, rfl, by decide +kernel, rfl, by decide +kernel, by decide +kernel⟩
theorem sc_is_alphabet : FnScope ["thing", "known", "letter", "one", "other"] ["thing"] (defScope s_is_alphabet) := ⟨rfl, rfl, rfl, by decide +kernel, rfl, by decide +kernel, by decide +kernel⟩
theorem sc_check_alphabet : FnScope ["thing"] ["thing"] (defScope s_check_alphabet) := ⟨rfl, rfl, rfl, by decide +kernel, rfl, by decide +kernel, by decide +kernel⟩
theorem sc_is_letter : FnScope ["alphabet", "thing"] ["alphabet", "thing"] (defScope s_is_letter) := ⟨rfl, rfl, rfl, by decide +kernel, rfl, by decide +kernel, by decide +kernel⟩
theorem sc_wrong_at : FnScope ["alphabet", "thing", "at", "letter"] ["alphabet", "thing"] (defScope s_wrong_at) := ⟨rfl, rfl, rfl, by decide +kernel, rfl, by decide +kernel, by decide +kernel⟩
theorem sc_check_row : FnScope ["alphabet", "thing", "at"] ["alphabet", "thing"] (defScope s_check_row) := ⟨rfl, rfl, rfl, by decide +kernel, rfl, by decide +kernel, by decide +kernel⟩
theorem sc_check_place : FnScope ["row", "thing"] ["row", "thing"] (defScope s_check_place) := ⟨rfl, rfl, rfl, by decide +kernel, rfl, by decide +kernel, by decide +kernel⟩
theorem sc_is_triple : FnScope ["alphabet", "left", "right", "thing", "known"] ["alphabet", "left", "right", "thing"] (defScope s_is_triple) := ⟨rfl, rfl, rfl, by decide +kernel, rfl, by decide +kernel, by decide +kernel⟩
theorem sc_kept_marked : FnScope ["alphabet", "left", "right", "thing", "kept", "number", "triple"] ["alphabet", "left", "right", "thing"] (defScope s_kept_marked) := ⟨rfl, rfl, rfl, by decide +kernel, rfl, by decide +kernel, by decide +kernel⟩
theorem sc_masks_of_triples : FnScope ["alphabet", "many", "marked", "found", "standing", "letter", "other"] ["alphabet", "many", "marked"] (defScope s_masks_of_triples) := ⟨rfl, rfl, rfl, by decide +kernel, rfl, by decide +kernel, by decide +kernel⟩
theorem sc_triples_of_masks : FnScope ["alphabet", "many", "table", "triples", "standing", "masks", "letter", "mask", "other"] ["alphabet", "many", "table"] (defScope s_triples_of_masks) := ⟨rfl, rfl, rfl, by decide +kernel, rfl, by decide +kernel, by decide +kernel⟩
theorem sc_check_alphabets : FnScope ["one", "other"] ["one", "other"] (defScope s_check_alphabets) := ⟨rfl, rfl, rfl, by decide +kernel, rfl, by decide +kernel, by decide +kernel⟩
theorem sc_marks_in : FnScope ["pair", "row", "ahead", "behind", "letters", "letter", "p", "k", "q"] ["pair", "row"] (defScope s_marks_in) := ⟨rfl, rfl, rfl, by decide +kernel, rfl, by decide +kernel, by decide +kernel⟩
theorem sc_crossed : FnScope ["one", "other", "items", "_", "left", "things", "right", "first", "second", "q", "s", "p", "o"] ["one", "other"] (defScope s_crossed) := ⟨rfl, rfl, rfl, by decide +kernel, rfl, by decide +kernel, by decide +kernel⟩
theorem sc_Pair___init__ : FnScope ["self", "alphabet", "left", "right", "marked"] ["self", "alphabet", "left", "right", "marked"] (defScope s_Pair___init__) := ⟨rfl, rfl, rfl, by decide +kernel, rfl, by decide +kernel, by decide +kernel⟩
theorem sc_Pair___call__ : FnScope ["self", "row"] ["self", "row"] (defScope s_Pair___call__) := ⟨rfl, rfl, rfl, by decide +kernel, rfl, by decide +kernel, by decide +kernel⟩
theorem sc_Pair___contains__ : FnScope ["self", "placed", "row", "place"] ["self", "placed"] (defScope s_Pair___contains__) := ⟨rfl, rfl, rfl, by decide +kernel, rfl, by decide +kernel, by decide +kernel⟩
theorem sc_Pair___and__ : FnScope ["self", "other", "left", "right", "table", "both", "x", "y", "first", "second"] ["self", "other"] (defScope s_Pair___and__) := ⟨rfl, rfl, rfl, by decide +kernel, rfl, by decide +kernel, by decide +kernel⟩
theorem sc_Pair___or__ : FnScope ["self", "other", "left", "right", "table", "either", "x", "y", "first", "second"] ["self", "other"] (defScope s_Pair___or__) := ⟨rfl, rfl, rfl, by decide +kernel, rfl, by decide +kernel, by decide +kernel⟩
theorem sc_Pair___invert__ : FnScope ["self", "whole", "table", "mask", "masks"] ["self"] (defScope s_Pair___invert__) := ⟨rfl, rfl, rfl, by decide +kernel, rfl, by decide +kernel, by decide +kernel⟩
theorem sc_Pair___eq__ : FnScope ["self", "other"] ["self", "other"] (defScope s_Pair___eq__) := ⟨rfl, rfl, rfl, by decide +kernel, rfl, by decide +kernel, by decide +kernel⟩
theorem sc_Pair_of_letters : FnScope ["cls", "alphabet", "letters"] ["cls", "alphabet", "letters"] (defScope s_Pair_of_letters) := ⟨rfl, rfl, rfl, by decide +kernel, rfl, by decide +kernel, by decide +kernel⟩
theorem sc_least_pair : FnScope ["alphabet", "left", "right", "table", "ahead", "behind", "masks"] ["alphabet", "left", "right", "table"] (defScope s_least_pair) := ⟨rfl, rfl, rfl, by decide +kernel, rfl, by decide +kernel, by decide +kernel⟩
theorem sc_kept_marks : FnScope ["alphabet", "thing", "number", "entry", "name", "names", "pair"] ["alphabet", "thing"] (defScope s_kept_marks) := ⟨rfl, rfl, rfl, by decide +kernel, rfl, by decide +kernel, by decide +kernel⟩
theorem sc_check_letter : FnScope ["alphabet", "thing"] ["alphabet", "thing"] (defScope s_check_letter) := ⟨rfl, rfl, rfl, by decide +kernel, rfl, by decide +kernel, by decide +kernel⟩
theorem sc_row_behind : FnScope ["row", "deed", "word"] ["row", "deed"] (defScope s_row_behind) := ⟨rfl, rfl, rfl, by decide +kernel, rfl, by decide +kernel, by decide +kernel⟩
theorem sc_places_kept : FnScope ["deed", "length", "word", "place"] ["deed", "length"] (defScope s_places_kept) := ⟨rfl, rfl, rfl, by decide +kernel, rfl, by decide +kernel, by decide +kernel⟩
theorem sc_Kept___init__ : FnScope ["self", "state", "below"] ["self", "state", "below"] (defScope s_Kept___init__) := ⟨rfl, rfl, rfl, by decide +kernel, rfl, by decide +kernel, by decide +kernel⟩
theorem sc_Trial___init__ : FnScope ["self", "state"] ["self", "state"] (defScope s_Trial___init__) := ⟨rfl, rfl, rfl, by decide +kernel, rfl, by decide +kernel, by decide +kernel⟩
theorem sc_Trial___enter__ : FnScope ["self", "top"] ["self"] (defScope s_Trial___enter__) := ⟨rfl, rfl, rfl, by decide +kernel, rfl, by decide +kernel, by decide +kernel⟩
theorem sc_Trial___exit__ : FnScope ["self", "kind", "value", "trace", "top"] ["self", "kind", "value", "trace"] (defScope s_Trial___exit__) := ⟨rfl, rfl, rfl, by decide +kernel, rfl, by decide +kernel, by decide +kernel⟩
theorem sc_Desk___init__ : FnScope ["self", "alphabet", "row", "marks"] ["self", "alphabet", "row", "marks"] (defScope s_Desk___init__) := ⟨rfl, rfl, rfl, by decide +kernel, rfl, by decide +kernel, by decide +kernel⟩
theorem sc_Desk_state_now : FnScope ["self"] ["self"] (defScope s_Desk_state_now) := ⟨rfl, rfl, rfl, by decide +kernel, rfl, by decide +kernel, by decide +kernel⟩
theorem sc_Desk_live : FnScope ["self"] ["self"] (defScope s_Desk_live) := ⟨rfl, rfl, rfl, by decide +kernel, rfl, by decide +kernel, by decide +kernel⟩
theorem sc_Desk_live_set : FnScope ["self", "value"] ["self", "value"] (defScope s_Desk_live_set) := ⟨rfl, rfl, rfl, by decide +kernel, rfl, by decide +kernel, by decide +kernel⟩
theorem sc_Desk_mark_names : FnScope ["self", "name", "pair"] ["self"] (defScope s_Desk_mark_names) := ⟨rfl, rfl, rfl, by decide +kernel, rfl, by decide +kernel, by decide +kernel⟩
theorem sc_Desk_log : FnScope ["self"] ["self"] (defScope s_Desk_log) := ⟨rfl, rfl, rfl, by decide +kernel, rfl, by decide +kernel, by decide +kernel⟩
theorem sc_Desk_moved : FnScope ["self", "deed", "done", "undone", "before", "row", "places", "turned", "name", "pair", "old", "new", "top", "here", "there"] ["self", "deed", "done", "undone"] (defScope s_Desk_moved) := ⟨rfl, rfl, rfl, by decide +kernel, rfl, by decide +kernel, by decide +kernel⟩
theorem sc_Desk_doing : FnScope ["self", "deed"] ["self", "deed"] (defScope s_Desk_doing) := ⟨rfl, rfl, rfl, by decide +kernel, rfl, by decide +kernel, by decide +kernel⟩
theorem sc_Desk_put : FnScope ["self", "place", "letter", "row"] ["self", "place", "letter"] (defScope s_Desk_put) := ⟨rfl, rfl, rfl, by decide +kernel, rfl, by decide +kernel, by decide +kernel⟩
theorem sc_Desk_take : FnScope ["self", "place"] ["self", "place"] (defScope s_Desk_take) := ⟨rfl, rfl, rfl, by decide +kernel, rfl, by decide +kernel, by decide +kernel⟩
theorem sc_Desk_change : FnScope ["self", "place", "letter"] ["self", "place", "letter"] (defScope s_Desk_change) := ⟨rfl, rfl, rfl, by decide +kernel, rfl, by decide +kernel, by decide +kernel⟩
theorem sc_Desk_become : FnScope ["self", "row"] ["self", "row"] (defScope s_Desk_become) := ⟨rfl, rfl, rfl, by decide +kernel, rfl, by decide +kernel, by decide +kernel⟩
theorem sc_Desk_undo : FnScope ["self"] ["self"] (defScope s_Desk_undo) := ⟨rfl, rfl, rfl, by decide +kernel, rfl, by decide +kernel, by decide +kernel⟩
theorem sc_Desk_redo : FnScope ["self"] ["self"] (defScope s_Desk_redo) := ⟨rfl, rfl, rfl, by decide +kernel, rfl, by decide +kernel, by decide +kernel⟩
theorem sc_Desk_pair_called : FnScope ["self", "name", "other", "pair"] ["self", "name"] (defScope s_Desk_pair_called) := ⟨rfl, rfl, rfl, by decide +kernel, rfl, by decide +kernel, by decide +kernel⟩
theorem sc_Desk_marks : FnScope ["self", "name"] ["self", "name"] (defScope s_Desk_marks) := ⟨rfl, rfl, rfl, by decide +kernel, rfl, by decide +kernel, by decide +kernel⟩
theorem sc_Desk_trial : FnScope ["self"] ["self"] (defScope s_Desk_trial) := ⟨rfl, rfl, rfl, by decide +kernel, rfl, by decide +kernel, by decide +kernel⟩
theorem sc_Desk_put_on : FnScope ["self", "name", "pair"] ["self", "name", "pair"] (defScope s_Desk_put_on) := ⟨rfl, rfl, rfl, by decide +kernel, rfl, by decide +kernel, by decide +kernel⟩
theorem sc_Desk_take_off : FnScope ["self", "name"] ["self", "name"] (defScope s_Desk_take_off) := ⟨rfl, rfl, rfl, by decide +kernel, rfl, by decide +kernel, by decide +kernel⟩
theorem sc_Desk_copy : FnScope ["self"] ["self"] (defScope s_Desk_copy) := ⟨rfl, rfl, rfl, by decide +kernel, rfl, by decide +kernel, by decide +kernel⟩
theorem sc_Desk_told_deed : FnScope ["self", "deed"] ["self", "deed"] (defScope s_Desk_told_deed) := ⟨rfl, rfl, rfl, by decide +kernel, rfl, by decide +kernel, by decide +kernel⟩
theorem sc_Desk_tried : FnScope ["self", "deeds"] ["self", "deeds"] (defScope s_Desk_tried) := ⟨rfl, rfl, rfl, by decide +kernel, rfl, by decide +kernel, by decide +kernel⟩
theorem sc__law_source : FnScope ["_law_script", "_law_place_here", "_law_cell", "_law_seed", "_law_one", "_law_number"] ["_law_script", "_law_place_here"] (defScope s__law_source) := ⟨rfl, rfl, rfl, by decide +kernel, rfl, by decide +kernel, by decide +kernel⟩
theorem sc__law_pick : FnScope ["_law_source_here", "_law_many", "_law_digit", "_law_mixed"] ["_law_source_here", "_law_many"] (defScope s__law_pick) := ⟨rfl, rfl, rfl, by decide +kernel, rfl, by decide +kernel, by decide +kernel⟩
theorem sc__law_alphabet : FnScope ["_law_source_here", "_law_menu"] ["_law_source_here"] (defScope s__law_alphabet) := ⟨rfl, rfl, rfl, by decide +kernel, rfl, by decide +kernel, by decide +kernel⟩
theorem sc__law_word : FnScope ["_law_source_here", "_law_alphabet_here", "_law_most", "_law_size", "_law_k"] ["_law_source_here", "_law_alphabet_here", "_law_most"] (defScope s__law_word) := ⟨rfl, rfl, rfl, by decide +kernel, rfl, by decide +kernel, by decide +kernel⟩
theorem sc__law_reader : FnScope ["_law_source_here", "_law_many", "_law_most", "_law_size", "_law_t", "_law_p"] ["_law_source_here", "_law_many", "_law_most"] (defScope s__law_reader) := ⟨rfl, rfl, rfl, by decide +kernel, rfl, by decide +kernel, by decide +kernel⟩
theorem sc__law_steady_reader : FnScope ["_law_source_here", "_law_many", "_law_most", "_law_size", "_law_t", "_law_p", "_law_lines", "_law_first", "_law_names_here", "_law_rules"] ["_law_source_here", "_law_many", "_law_most"] (defScope s__law_steady_reader) := ⟨rfl, rfl, rfl, by decide +kernel, rfl, by decide +kernel, by decide +kernel⟩
theorem sc__law_marked : FnScope ["_law_source_here", "_law_alphabet_here", "_law_left", "_law_right", "_law_told", "_law_p", "_law_letter", "_law_q"] ["_law_source_here", "_law_alphabet_here", "_law_left", "_law_right"] (defScope s__law_marked) := ⟨rfl, rfl, rfl, by decide +kernel, rfl, by decide +kernel, by decide +kernel⟩
theorem sc__law_tables : FnScope ["_law_source_here", "_law_alphabet_here", "_law_most", "_law_steady", "_law_many", "_law_left", "_law_right"] ["_law_source_here", "_law_alphabet_here", "_law_most", "_law_steady"] (defScope s__law_tables) := ⟨rfl, rfl, rfl, by decide +kernel, rfl, by decide +kernel, by decide +kernel⟩
theorem sc__law_is_number : FnScope ["_law_thing", "_law_low", "_law_high"] ["_law_thing", "_law_low", "_law_high"] (defScope s__law_is_number) := ⟨rfl, rfl, rfl, by decide +kernel, rfl, by decide +kernel, by decide +kernel⟩
theorem sc__law_bools : FnScope ["_law_thing", "_law_size", "_law_one"] ["_law_thing", "_law_size"] (defScope s__law_bools) := ⟨rfl, rfl, rfl, by decide +kernel, rfl, by decide +kernel, by decide +kernel⟩
theorem sc__law_line : FnScope ["_law_alphabet_here", "_law_tables_here", "_law_row", "_law_ahead", "_law_letter", "_law_behind", "_law_size", "_law_k"] ["_law_alphabet_here", "_law_tables_here", "_law_row"] (defScope s__law_line) := ⟨rfl, rfl, rfl, by decide +kernel, rfl, by decide +kernel, by decide +kernel⟩
theorem sc__law_names : FnScope ["_law_source_here", "_law_many", "_law_shift", "_law_told", "_law_k", "_law_rest", "_law_at", "_law_m"] ["_law_source_here", "_law_many"] (defScope s__law_names) := ⟨rfl, rfl, rfl, by decide +kernel, rfl, by decide +kernel, by decide +kernel⟩
theorem sc__law_desk : FnScope ["_law_source_here", "_law_names_here", "_law_alphabet_here", "_law_row", "_law_listed", "_law_handed", "_law_name", "_law_tables_here", "_law_desk_here", "_law_one", "_law_own", "_law_k"] ["_law_source_here", "_law_names_here"] (defScope s__law_desk) := ⟨rfl, rfl, rfl, by decide +kernel, rfl, by decide +kernel, by decide +kernel⟩
theorem sc__law_carried : FnScope ["_law_own", "_law_deed_here", "_law_row", "_law_tags", "_law_place_here", "_law_before", "_law_name", "_law_tables_here", "_law_line_here", "_law_k", "_law_lines", "_law_due", "_law_one"] ["_law_own", "_law_deed_here"] (defScope s__law_carried) := ⟨rfl, rfl, rfl, by decide +kernel, rfl, by decide +kernel, by decide +kernel⟩
theorem sc__law_logged : FnScope ["_law_own", "_law_deed_here"] ["_law_own", "_law_deed_here"] (defScope s__law_logged) := ⟨rfl, rfl, rfl, by decide +kernel, rfl, by decide +kernel, by decide +kernel⟩
theorem sc__law_place : FnScope ["_law_source_here", "_law_many", "_law_way"] ["_law_source_here", "_law_many"] (defScope s__law_place) := ⟨rfl, rfl, rfl, by decide +kernel, rfl, by decide +kernel, by decide +kernel⟩
theorem sc__law_deed : FnScope ["_law_source_here", "_law_own", "_law_alphabet_here", "_law_size", "_law_letter", "_law_way"] ["_law_source_here", "_law_own"] (defScope s__law_deed) := ⟨rfl, rfl, rfl, by decide +kernel, rfl, by decide +kernel, by decide +kernel⟩
theorem sc__law_bad_deed : FnScope ["_law_source_here", "_law_own", "_law_alphabet_here", "_law_size", "_law_letter", "_law_place_here", "_law_wrong", "_law_far", "_law_way", "_law_off", "_law_row", "_law_at"] ["_law_source_here", "_law_own"] (defScope s__law_bad_deed) := ⟨rfl, rfl, rfl, by decide +kernel, rfl, by decide +kernel, by decide +kernel⟩
theorem sc__law_do : FnScope ["_law_desk_here", "_law_deed_here"] ["_law_desk_here", "_law_deed_here"] (defScope s__law_do) := ⟨rfl, rfl, rfl, by decide +kernel, rfl, by decide +kernel, by decide +kernel⟩
theorem sc__law_refused : FnScope ["_law_desk_here", "_law_deed_here", "_law_kind", "_law_thing", "error"] ["_law_desk_here", "_law_deed_here", "_law_kind", "_law_thing"] (defScope s__law_refused) := ⟨rfl, rfl, rfl, by decide +kernel, rfl, by decide +kernel, by decide +kernel⟩
theorem sc__law_alike : FnScope ["_law_told", "_law_due", "_law_one", "_law_other"] ["_law_told", "_law_due"] (defScope s__law_alike) := ⟨rfl, rfl, rfl, by decide +kernel, rfl, by decide +kernel, by decide +kernel⟩
theorem sc__law_same : FnScope ["_law_desk_here", "_law_own", "_law_name", "_law_tables_here", "_law_told", "_law_one"] ["_law_desk_here", "_law_own"] (defScope s__law_same) := ⟨rfl, rfl, rfl, by decide +kernel, rfl, by decide +kernel, by decide +kernel⟩
theorem sc_law : FnScope ["_law_script", "_law_first", "_law_names_here", "_law_pairs", "_law_third", "_law_step", "_law_desk_here", "_law_own", "_law_deed_here", "_law_kind", "_law_thing", "_law_logged_here", "_law_due"] ["_law_script"] (defScope s_law) := ⟨rfl, rfl, rfl, by decide +kernel, rfl, by decide +kernel, by decide +kernel⟩
structure Txt (K : PySem.W.Frag) (mg : Str → Option Value) : Prop where
  sd : He.SaysD fa fn K
  g : ∀ x : Str, He.Fa.glo x ∈ fa → mg x = some (.ref (He.ga K x))
  fr : ∀ x : Str, He.Fa.free x ∈ fa → mg x = none
  ex : extra K = true
  pr : He5.SaysA [] fnP K
  i_MOST_LETTERS : ∃ t, mg "MOST_LETTERS" = some (.int 200 t)
  i_MOST_STANDINGS : ∃ t, mg "MOST_STANDINGS" = some (.int 40 t)
  i_MOST_MARKS : ∃ t, mg "MOST_MARKS" = some (.int 20 t)
  i_MOST_NAME : ∃ t, mg "MOST_NAME" = some (.int 8 t)
  s_LETTERS : ∃ t, mg "LETTERS" = some (.str "abcdefgh" t)
  s_NAME_LETTERS : ∃ t, mg "NAME_LETTERS" = some (.str "abcdefghijklmnopqrstuvwxyz" t)
theorem fr_of {K mg} (T : Txt K mg) (i : Nat) {x : Str} (h : fa2[i]? = some (.free x) := by rfl) : mg x = none := T.fr x (by unfold fa; exact List.mem_append_left _ (List.mem_append_right _ (List.mem_of_getElem? h)))
theorem fr_ValueError {K mg} (T : Txt K mg) : mg "ValueError" = none := fr_of T 0
theorem fr_abs {K mg} (T : Txt K mg) : mg "abs" = none := fr_of T 1
theorem fr_all {K mg} (T : Txt K mg) : mg "all" = none := fr_of T 2
theorem fr_any {K mg} (T : Txt K mg) : mg "any" = none := fr_of T 3
theorem fr_bool {K mg} (T : Txt K mg) : mg "bool" = none := fr_of T 4
theorem fr_dict {K mg} (T : Txt K mg) : mg "dict" = none := fr_of T 5
theorem fr_enumerate {K mg} (T : Txt K mg) : mg "enumerate" = none := fr_of T 6
theorem fr_int {K mg} (T : Txt K mg) : mg "int" = none := fr_of T 7
theorem fr_isinstance {K mg} (T : Txt K mg) : mg "isinstance" = none := fr_of T 8
theorem fr_len {K mg} (T : Txt K mg) : mg "len" = none := fr_of T 9
theorem fr_list {K mg} (T : Txt K mg) : mg "list" = none := fr_of T 10
theorem fr_max {K mg} (T : Txt K mg) : mg "max" = none := fr_of T 11
theorem fr_min {K mg} (T : Txt K mg) : mg "min" = none := fr_of T 12
theorem fr_range {K mg} (T : Txt K mg) : mg "range" = none := fr_of T 13
theorem fr_repr {K mg} (T : Txt K mg) : mg "repr" = none := fr_of T 14
theorem fr_reversed {K mg} (T : Txt K mg) : mg "reversed" = none := fr_of T 15
theorem fr_set {K mg} (T : Txt K mg) : mg "set" = none := fr_of T 16
theorem fr_sorted {K mg} (T : Txt K mg) : mg "sorted" = none := fr_of T 17
theorem fr_str {K mg} (T : Txt K mg) : mg "str" = none := fr_of T 18
theorem fr_sum {K mg} (T : Txt K mg) : mg "sum" = none := fr_of T 19
theorem fr_tuple {K mg} (T : Txt K mg) : mg "tuple" = none := fr_of T 20
theorem fr_zip {K mg} (T : Txt K mg) : mg "zip" = none := fr_of T 21
theorem g_of0 {K mg} (T : Txt K mg) (i : Nat) {x : Str} (h : fa0[i]? = some (.glo x) := by rfl) : mg x = some (.ref (He.ga K x)) := T.g x (by unfold fa; exact List.mem_append_left _ (List.mem_append_left _ (List.mem_append_left _ (List.mem_of_getElem? h))))
theorem g_of1 {K mg} (T : Txt K mg) (i : Nat) {x : Str} (h : fa1[i]? = some (.glo x) := by rfl) : mg x = some (.ref (He.ga K x)) := T.g x (by unfold fa; exact List.mem_append_left _ (List.mem_append_left _ (List.mem_append_right _ (List.mem_of_getElem? h))))
theorem g_SaidError {K mg} (T : Txt K mg) : mg "SaidError" = some (.ref (He.ga K "SaidError")) := g_of0 T 0
theorem g_WrongThing {K mg} (T : Txt K mg) : mg "WrongThing" = some (.ref (He.ga K "WrongThing")) := g_of0 T 1
theorem g_WrongItem {K mg} (T : Txt K mg) : mg "WrongItem" = some (.ref (He.ga K "WrongItem")) := g_of0 T 2
theorem g_BadAlphabet {K mg} (T : Txt K mg) : mg "BadAlphabet" = some (.ref (He.ga K "BadAlphabet")) := g_of0 T 3
theorem g_BadPlace {K mg} (T : Txt K mg) : mg "BadPlace" = some (.ref (He.ga K "BadPlace")) := g_of0 T 4
theorem g_BadLetter {K mg} (T : Txt K mg) : mg "BadLetter" = some (.ref (He.ga K "BadLetter")) := g_of0 T 5
theorem g_BadMarked {K mg} (T : Txt K mg) : mg "BadMarked" = some (.ref (He.ga K "BadMarked")) := g_of0 T 6
theorem g_BadEntry {K mg} (T : Txt K mg) : mg "BadEntry" = some (.ref (He.ga K "BadEntry")) := g_of0 T 7
theorem g_BadRow {K mg} (T : Txt K mg) : mg "BadRow" = some (.ref (He.ga K "BadRow")) := g_of0 T 8
theorem g_BadReader {K mg} (T : Txt K mg) : mg "BadReader" = some (.ref (He.ga K "BadReader")) := g_of0 T 9
theorem g_Twice {K mg} (T : Txt K mg) : mg "Twice" = some (.ref (He.ga K "Twice")) := g_of0 T 10
theorem g_Unknown {K mg} (T : Txt K mg) : mg "Unknown" = some (.ref (He.ga K "Unknown")) := g_of0 T 11
theorem g_TooMany {K mg} (T : Txt K mg) : mg "TooMany" = some (.ref (He.ga K "TooMany")) := g_of0 T 12
theorem g_TooLong {K mg} (T : Txt K mg) : mg "TooLong" = some (.ref (He.ga K "TooLong")) := g_of0 T 13
theorem g_Unlike {K mg} (T : Txt K mg) : mg "Unlike" = some (.ref (He.ga K "Unlike")) := g_of0 T 14
theorem g_is_whole {K mg} (T : Txt K mg) : mg "is_whole" = some (.ref (He.ga K "is_whole")) := g_of0 T 15
theorem g_is_below {K mg} (T : Txt K mg) : mg "is_below" = some (.ref (He.ga K "is_below")) := g_of0 T 16
theorem g_is_listing {K mg} (T : Txt K mg) : mg "is_listing" = some (.ref (He.ga K "is_listing")) := g_of0 T 17
theorem g_is_name {K mg} (T : Txt K mg) : mg "is_name" = some (.ref (He.ga K "is_name")) := g_of0 T 18
theorem g_has_bit {K mg} (T : Txt K mg) : mg "has_bit" = some (.ref (He.ga K "has_bit")) := g_of0 T 19
theorem g_is_move {K mg} (T : Txt K mg) : mg "is_move" = some (.ref (He.ga K "is_move")) := g_of0 T 20
theorem g_kept_reader {K mg} (T : Txt K mg) : mg "kept_reader" = some (.ref (He.ga K "kept_reader")) := g_of0 T 21
theorem g_standings_ahead {K mg} (T : Txt K mg) : mg "standings_ahead" = some (.ref (He.ga K "standings_ahead")) := g_of0 T 22
theorem g_standings_behind {K mg} (T : Txt K mg) : mg "standings_behind" = some (.ref (He.ga K "standings_behind")) := g_of0 T 23
theorem g_is_alphabet {K mg} (T : Txt K mg) : mg "is_alphabet" = some (.ref (He.ga K "is_alphabet")) := g_of0 T 24
theorem g_check_alphabet {K mg} (T : Txt K mg) : mg "check_alphabet" = some (.ref (He.ga K "check_alphabet")) := g_of0 T 25
theorem g_is_letter {K mg} (T : Txt K mg) : mg "is_letter" = some (.ref (He.ga K "is_letter")) := g_of0 T 26
theorem g_wrong_at {K mg} (T : Txt K mg) : mg "wrong_at" = some (.ref (He.ga K "wrong_at")) := g_of0 T 27
theorem g_check_row {K mg} (T : Txt K mg) : mg "check_row" = some (.ref (He.ga K "check_row")) := g_of0 T 28
theorem g_check_place {K mg} (T : Txt K mg) : mg "check_place" = some (.ref (He.ga K "check_place")) := g_of0 T 29
theorem g_is_triple {K mg} (T : Txt K mg) : mg "is_triple" = some (.ref (He.ga K "is_triple")) := g_of0 T 30
theorem g_kept_marked {K mg} (T : Txt K mg) : mg "kept_marked" = some (.ref (He.ga K "kept_marked")) := g_of0 T 31
theorem g_masks_of_triples {K mg} (T : Txt K mg) : mg "masks_of_triples" = some (.ref (He.ga K "masks_of_triples")) := g_of0 T 32
theorem g_marks_in {K mg} (T : Txt K mg) : mg "marks_in" = some (.ref (He.ga K "marks_in")) := g_of0 T 33
theorem g_Pair {K mg} (T : Txt K mg) : mg "Pair" = some (.ref (He.ga K "Pair")) := g_of0 T 34
theorem g_kept_marks {K mg} (T : Txt K mg) : mg "kept_marks" = some (.ref (He.ga K "kept_marks")) := g_of0 T 35
theorem g_check_letter {K mg} (T : Txt K mg) : mg "check_letter" = some (.ref (He.ga K "check_letter")) := g_of0 T 36
theorem g_row_behind {K mg} (T : Txt K mg) : mg "row_behind" = some (.ref (He.ga K "row_behind")) := g_of0 T 37
theorem g_places_kept {K mg} (T : Txt K mg) : mg "places_kept" = some (.ref (He.ga K "places_kept")) := g_of0 T 38
theorem g_Kept {K mg} (T : Txt K mg) : mg "Kept" = some (.ref (He.ga K "Kept")) := g_of0 T 39
theorem g_Trial {K mg} (T : Txt K mg) : mg "Trial" = some (.ref (He.ga K "Trial")) := g_of1 T 0
theorem g_Desk {K mg} (T : Txt K mg) : mg "Desk" = some (.ref (He.ga K "Desk")) := g_of1 T 1
theorem g__law_source {K mg} (T : Txt K mg) : mg "_law_source" = some (.ref (He.ga K "_law_source")) := g_of1 T 2
theorem g__law_pick {K mg} (T : Txt K mg) : mg "_law_pick" = some (.ref (He.ga K "_law_pick")) := g_of1 T 3
theorem g__law_alphabet {K mg} (T : Txt K mg) : mg "_law_alphabet" = some (.ref (He.ga K "_law_alphabet")) := g_of1 T 4
theorem g__law_word {K mg} (T : Txt K mg) : mg "_law_word" = some (.ref (He.ga K "_law_word")) := g_of1 T 5
theorem g__law_reader {K mg} (T : Txt K mg) : mg "_law_reader" = some (.ref (He.ga K "_law_reader")) := g_of1 T 6
theorem g__law_steady_reader {K mg} (T : Txt K mg) : mg "_law_steady_reader" = some (.ref (He.ga K "_law_steady_reader")) := g_of1 T 7
theorem g__law_marked {K mg} (T : Txt K mg) : mg "_law_marked" = some (.ref (He.ga K "_law_marked")) := g_of1 T 8
theorem g__law_tables {K mg} (T : Txt K mg) : mg "_law_tables" = some (.ref (He.ga K "_law_tables")) := g_of1 T 9
theorem g__law_is_number {K mg} (T : Txt K mg) : mg "_law_is_number" = some (.ref (He.ga K "_law_is_number")) := g_of1 T 10
theorem g__law_bools {K mg} (T : Txt K mg) : mg "_law_bools" = some (.ref (He.ga K "_law_bools")) := g_of1 T 11
theorem g__law_line {K mg} (T : Txt K mg) : mg "_law_line" = some (.ref (He.ga K "_law_line")) := g_of1 T 12
theorem g__law_names {K mg} (T : Txt K mg) : mg "_law_names" = some (.ref (He.ga K "_law_names")) := g_of1 T 13
theorem g__law_desk {K mg} (T : Txt K mg) : mg "_law_desk" = some (.ref (He.ga K "_law_desk")) := g_of1 T 14
theorem g__law_carried {K mg} (T : Txt K mg) : mg "_law_carried" = some (.ref (He.ga K "_law_carried")) := g_of1 T 15
theorem g__law_logged {K mg} (T : Txt K mg) : mg "_law_logged" = some (.ref (He.ga K "_law_logged")) := g_of1 T 16
theorem g__law_place {K mg} (T : Txt K mg) : mg "_law_place" = some (.ref (He.ga K "_law_place")) := g_of1 T 17
theorem g__law_deed {K mg} (T : Txt K mg) : mg "_law_deed" = some (.ref (He.ga K "_law_deed")) := g_of1 T 18
theorem g__law_bad_deed {K mg} (T : Txt K mg) : mg "_law_bad_deed" = some (.ref (He.ga K "_law_bad_deed")) := g_of1 T 19
theorem g__law_do {K mg} (T : Txt K mg) : mg "_law_do" = some (.ref (He.ga K "_law_do")) := g_of1 T 20
theorem g__law_refused {K mg} (T : Txt K mg) : mg "_law_refused" = some (.ref (He.ga K "_law_refused")) := g_of1 T 21
theorem g__law_alike {K mg} (T : Txt K mg) : mg "_law_alike" = some (.ref (He.ga K "_law_alike")) := g_of1 T 22
theorem g__law_same {K mg} (T : Txt K mg) : mg "_law_same" = some (.ref (He.ga K "_law_same")) := g_of1 T 23
theorem g_law {K mg} (T : Txt K mg) : mg "law" = some (.ref (He.ga K "law")) := g_of1 T 24
theorem cls_Pair {K mg} (T : Txt K mg) : Cls K (He.ga K "Pair") := He.cls_ok (T.sd.fact 93 (f := .cls "Pair") rfl)
theorem mkr_Pair {K mg} (T : Txt K mg) : Mk K (He.ga K "Pair") (He.ma K (He.ga K "Pair") "__init__") := He.mkr_ok (T.sd.fact 94 (f := .mkr "Pair") rfl)
theorem noat_Pair_alphabet {K mg} (T : Txt K mg) : NoAttr K (He.ga K "Pair") "alphabet" := He.noat_ok (T.sd.fact 95 (f := .noat "Pair" "alphabet") rfl)
theorem noat_Pair_left {K mg} (T : Txt K mg) : NoAttr K (He.ga K "Pair") "left" := He.noat_ok (T.sd.fact 96 (f := .noat "Pair" "left") rfl)
theorem noat_Pair_right {K mg} (T : Txt K mg) : NoAttr K (He.ga K "Pair") "right" := He.noat_ok (T.sd.fact 97 (f := .noat "Pair" "right") rfl)
theorem noat_Pair_marked {K mg} (T : Txt K mg) : NoAttr K (He.ga K "Pair") "marked" := He.noat_ok (T.sd.fact 98 (f := .noat "Pair" "marked") rfl)
theorem noat_Pair_masks {K mg} (T : Txt K mg) : NoAttr K (He.ga K "Pair") "masks" := He.noat_ok (T.sd.fact 99 (f := .noat "Pair" "masks") rfl)
theorem cls_Kept {K mg} (T : Txt K mg) : Cls K (He.ga K "Kept") := He.cls_ok (T.sd.fact 100 (f := .cls "Kept") rfl)
theorem mkr_Kept {K mg} (T : Txt K mg) : Mk K (He.ga K "Kept") (He.ma K (He.ga K "Kept") "__init__") := He.mkr_ok (T.sd.fact 101 (f := .mkr "Kept") rfl)
theorem noat_Kept_state {K mg} (T : Txt K mg) : NoAttr K (He.ga K "Kept") "state" := He.noat_ok (T.sd.fact 102 (f := .noat "Kept" "state") rfl)
theorem noat_Kept_below {K mg} (T : Txt K mg) : NoAttr K (He.ga K "Kept") "below" := He.noat_ok (T.sd.fact 103 (f := .noat "Kept" "below") rfl)
theorem cls_Trial {K mg} (T : Txt K mg) : Cls K (He.ga K "Trial") := He.cls_ok (T.sd.fact 104 (f := .cls "Trial") rfl)
theorem mkr_Trial {K mg} (T : Txt K mg) : Mk K (He.ga K "Trial") (He.ma K (He.ga K "Trial") "__init__") := He.mkr_ok (T.sd.fact 105 (f := .mkr "Trial") rfl)
theorem noat_Trial_top {K mg} (T : Txt K mg) : NoAttr K (He.ga K "Trial") "top" := He.noat_ok (T.sd.fact 106 (f := .noat "Trial" "top") rfl)
theorem cls_Desk {K mg} (T : Txt K mg) : Cls K (He.ga K "Desk") := He.cls_ok (T.sd.fact 107 (f := .cls "Desk") rfl)
theorem mkr_Desk {K mg} (T : Txt K mg) : Mk K (He.ga K "Desk") (He.ma K (He.ga K "Desk") "__init__") := He.mkr_ok (T.sd.fact 108 (f := .mkr "Desk") rfl)
theorem noat_Desk_alphabet {K mg} (T : Txt K mg) : NoAttr K (He.ga K "Desk") "alphabet" := He.noat_ok (T.sd.fact 109 (f := .noat "Desk" "alphabet") rfl)
theorem noat_Desk_worn {K mg} (T : Txt K mg) : NoAttr K (He.ga K "Desk") "worn" := He.noat_ok (T.sd.fact 110 (f := .noat "Desk" "worn") rfl)
theorem noat_Desk_trials {K mg} (T : Txt K mg) : NoAttr K (He.ga K "Desk") "trials" := He.noat_ok (T.sd.fact 111 (f := .noat "Desk" "trials") rfl)
theorem meth_state_now {K mg} (T : Txt K mg) : Meth K (He.ga K "Desk") "state_now" (He.ma K (He.ga K "Desk") "state_now") := He.meth_ok (T.sd.fact 112 (f := .meth "Desk" "state_now") rfl)
theorem meth_moved {K mg} (T : Txt K mg) : Meth K (He.ga K "Desk") "moved" (He.ma K (He.ga K "Desk") "moved") := He.meth_ok (T.sd.fact 113 (f := .meth "Desk" "moved") rfl)
theorem meth_doing {K mg} (T : Txt K mg) : Meth K (He.ga K "Desk") "doing" (He.ma K (He.ga K "Desk") "doing") := He.meth_ok (T.sd.fact 114 (f := .meth "Desk" "doing") rfl)
theorem meth_put {K mg} (T : Txt K mg) : Meth K (He.ga K "Desk") "put" (He.ma K (He.ga K "Desk") "put") := He.meth_ok (T.sd.fact 115 (f := .meth "Desk" "put") rfl)
theorem meth_take {K mg} (T : Txt K mg) : Meth K (He.ga K "Desk") "take" (He.ma K (He.ga K "Desk") "take") := He.meth_ok (T.sd.fact 116 (f := .meth "Desk" "take") rfl)
theorem meth_change {K mg} (T : Txt K mg) : Meth K (He.ga K "Desk") "change" (He.ma K (He.ga K "Desk") "change") := He.meth_ok (T.sd.fact 117 (f := .meth "Desk" "change") rfl)
theorem meth_become {K mg} (T : Txt K mg) : Meth K (He.ga K "Desk") "become" (He.ma K (He.ga K "Desk") "become") := He.meth_ok (T.sd.fact 118 (f := .meth "Desk" "become") rfl)
theorem meth_pair_called {K mg} (T : Txt K mg) : Meth K (He.ga K "Desk") "pair_called" (He.ma K (He.ga K "Desk") "pair_called") := He.meth_ok (T.sd.fact 119 (f := .meth "Desk" "pair_called") rfl)
theorem meth_marks {K mg} (T : Txt K mg) : Meth K (He.ga K "Desk") "marks" (He.ma K (He.ga K "Desk") "marks") := He.meth_ok (T.sd.fact 120 (f := .meth "Desk" "marks") rfl)
abbrev FnP (K : PySem.W.Frag) (x q : Str) (st : Stmt) (f : Addr) (fd : FuncData) : Prop := FunD K x q (defArgs st) (defBody st) (defScope st) [] [] f fd
theorem F_WrongThing___init__ {K mg} (T : Txt K mg) : ∃ fd, FnP K "__init__" "WrongThing.__init__" s_WrongThing___init__ (He.ma K (He.ga K "WrongThing") "__init__") fd := T.sd.def_ 0 (d := dM "WrongThing" "__init__" "WrongThing.__init__" s_WrongThing___init__) rfl
theorem F_WrongItem___init__ {K mg} (T : Txt K mg) : ∃ fd, FnP K "__init__" "WrongItem.__init__" s_WrongItem___init__ (He.ma K (He.ga K "WrongItem") "__init__") fd := T.sd.def_ 1 (d := dM "WrongItem" "__init__" "WrongItem.__init__" s_WrongItem___init__) rfl
theorem F_BadRow___init__ {K mg} (T : Txt K mg) : ∃ fd, FnP K "__init__" "BadRow.__init__" s_BadRow___init__ (He.ma K (He.ga K "BadRow") "__init__") fd := T.sd.def_ 2 (d := dM "BadRow" "__init__" "BadRow.__init__" s_BadRow___init__) rfl
theorem F_BadReader___init__ {K mg} (T : Txt K mg) : ∃ fd, FnP K "__init__" "BadReader.__init__" s_BadReader___init__ (He.ma K (He.ga K "BadReader") "__init__") fd := T.sd.def_ 3 (d := dM "BadReader" "__init__" "BadReader.__init__" s_BadReader___init__) rfl
theorem F_Twice___init__ {K mg} (T : Txt K mg) : ∃ fd, FnP K "__init__" "Twice.__init__" s_Twice___init__ (He.ma K (He.ga K "Twice") "__init__") fd := T.sd.def_ 4 (d := dM "Twice" "__init__" "Twice.__init__" s_Twice___init__) rfl
theorem F_Unknown___init__ {K mg} (T : Txt K mg) : ∃ fd, FnP K "__init__" "Unknown.__init__" s_Unknown___init__ (He.ma K (He.ga K "Unknown") "__init__") fd := T.sd.def_ 5 (d := dM "Unknown" "__init__" "Unknown.__init__" s_Unknown___init__) rfl
theorem F_TooMany___init__ {K mg} (T : Txt K mg) : ∃ fd, FnP K "__init__" "TooMany.__init__" s_TooMany___init__ (He.ma K (He.ga K "TooMany") "__init__") fd := T.sd.def_ 6 (d := dM "TooMany" "__init__" "TooMany.__init__" s_TooMany___init__) rfl
theorem F_TooLong___init__ {K mg} (T : Txt K mg) : ∃ fd, FnP K "__init__" "TooLong.__init__" s_TooLong___init__ (He.ma K (He.ga K "TooLong") "__init__") fd := T.sd.def_ 7 (d := dM "TooLong" "__init__" "TooLong.__init__" s_TooLong___init__) rfl
theorem F_is_whole {K mg} (T : Txt K mg) : ∃ fd, FnP K "is_whole" "is_whole" s_is_whole (He.ga K "is_whole") fd := T.sd.def_ 8 (d := dD "is_whole" s_is_whole) rfl
theorem F_is_below {K mg} (T : Txt K mg) : ∃ fd, FnP K "is_below" "is_below" s_is_below (He.ga K "is_below") fd := T.sd.def_ 9 (d := dD "is_below" s_is_below) rfl
theorem F_is_listing {K mg} (T : Txt K mg) : ∃ fd, FnP K "is_listing" "is_listing" s_is_listing (He.ga K "is_listing") fd := T.sd.def_ 10 (d := dD "is_listing" s_is_listing) rfl
theorem F_is_name {K mg} (T : Txt K mg) : ∃ fd, FnP K "is_name" "is_name" s_is_name (He.ga K "is_name") fd := T.sd.def_ 11 (d := dD "is_name" s_is_name) rfl
theorem F_has_bit {K mg} (T : Txt K mg) : ∃ fd, FnP K "has_bit" "has_bit" s_has_bit (He.ga K "has_bit") fd := T.sd.def_ 12 (d := dD "has_bit" s_has_bit) rfl
theorem F_is_move {K mg} (T : Txt K mg) : ∃ fd, FnP K "is_move" "is_move" s_is_move (He.ga K "is_move") fd := T.sd.def_ 13 (d := dD "is_move" s_is_move) rfl
theorem F_kept_reader {K mg} (T : Txt K mg) : ∃ fd, FnP K "kept_reader" "kept_reader" s_kept_reader (He.ga K "kept_reader") fd := T.sd.def_ 14 (d := dD "kept_reader" s_kept_reader) rfl
theorem F_standings_ahead {K mg} (T : Txt K mg) : ∃ fd, FnP K "standings_ahead" "standings_ahead" s_standings_ahead (He.ga K "standings_ahead") fd := T.sd.def_ 15 (d := dD "standings_ahead" s_standings_ahead) rfl
theorem F_standings_behind {K mg} (T : Txt K mg) : ∃ fd, FnP K "standings_behind" "standings_behind" s_standings_behind (He.ga K "standings_behind") fd := T.sd.def_ 16 (d := dD "standings_behind" s_standings_behind) rfl
theorem F_is_alphabet {K mg} (T : Txt K mg) : ∃ fd, FnP K "is_alphabet" "is_alphabet" s_is_alphabet (He.ga K "is_alphabet") fd := T.sd.def_ 17 (d := dD "is_alphabet" s_is_alphabet) rfl
theorem F_check_alphabet {K mg} (T : Txt K mg) : ∃ fd, FnP K "check_alphabet" "check_alphabet" s_check_alphabet (He.ga K "check_alphabet") fd := T.sd.def_ 18 (d := dD "check_alphabet" s_check_alphabet) rfl
theorem F_is_letter {K mg} (T : Txt K mg) : ∃ fd, FnP K "is_letter" "is_letter" s_is_letter (He.ga K "is_letter") fd := T.sd.def_ 19 (d := dD "is_letter" s_is_letter) rfl
theorem F_wrong_at {K mg} (T : Txt K mg) : ∃ fd, FnP K "wrong_at" "wrong_at" s_wrong_at (He.ga K "wrong_at") fd := T.sd.def_ 20 (d := dD "wrong_at" s_wrong_at) rfl
theorem F_check_row {K mg} (T : Txt K mg) : ∃ fd, FnP K "check_row" "check_row" s_check_row (He.ga K "check_row") fd := T.sd.def_ 21 (d := dD "check_row" s_check_row) rfl
theorem F_check_place {K mg} (T : Txt K mg) : ∃ fd, FnP K "check_place" "check_place" s_check_place (He.ga K "check_place") fd := T.sd.def_ 22 (d := dD "check_place" s_check_place) rfl
theorem F_is_triple {K mg} (T : Txt K mg) : ∃ fd, FnP K "is_triple" "is_triple" s_is_triple (He.ga K "is_triple") fd := T.sd.def_ 23 (d := dD "is_triple" s_is_triple) rfl
theorem F_kept_marked {K mg} (T : Txt K mg) : ∃ fd, FnP K "kept_marked" "kept_marked" s_kept_marked (He.ga K "kept_marked") fd := T.sd.def_ 24 (d := dD "kept_marked" s_kept_marked) rfl
theorem F_masks_of_triples {K mg} (T : Txt K mg) : ∃ fd, FnP K "masks_of_triples" "masks_of_triples" s_masks_of_triples (He.ga K "masks_of_triples") fd := T.sd.def_ 25 (d := dD "masks_of_triples" s_masks_of_triples) rfl
theorem F_marks_in {K mg} (T : Txt K mg) : ∃ fd, FnP K "marks_in" "marks_in" s_marks_in (He.ga K "marks_in") fd := T.sd.def_ 26 (d := dD "marks_in" s_marks_in) rfl
theorem F_Pair___init__ {K mg} (T : Txt K mg) : ∃ fd, FnP K "__init__" "Pair.__init__" s_Pair___init__ (He.ma K (He.ga K "Pair") "__init__") fd := T.sd.def_ 27 (d := dM "Pair" "__init__" "Pair.__init__" s_Pair___init__) rfl
theorem F_kept_marks {K mg} (T : Txt K mg) : ∃ fd, FnP K "kept_marks" "kept_marks" s_kept_marks (He.ga K "kept_marks") fd := T.sd.def_ 28 (d := dD "kept_marks" s_kept_marks) rfl
theorem F_check_letter {K mg} (T : Txt K mg) : ∃ fd, FnP K "check_letter" "check_letter" s_check_letter (He.ga K "check_letter") fd := T.sd.def_ 29 (d := dD "check_letter" s_check_letter) rfl
theorem F_row_behind {K mg} (T : Txt K mg) : ∃ fd, FnP K "row_behind" "row_behind" s_row_behind (He.ga K "row_behind") fd := T.sd.def_ 30 (d := dD "row_behind" s_row_behind) rfl
theorem F_places_kept {K mg} (T : Txt K mg) : ∃ fd, FnP K "places_kept" "places_kept" s_places_kept (He.ga K "places_kept") fd := T.sd.def_ 31 (d := dD "places_kept" s_places_kept) rfl
theorem F_Kept___init__ {K mg} (T : Txt K mg) : ∃ fd, FnP K "__init__" "Kept.__init__" s_Kept___init__ (He.ma K (He.ga K "Kept") "__init__") fd := T.sd.def_ 32 (d := dM "Kept" "__init__" "Kept.__init__" s_Kept___init__) rfl
theorem F_Trial___init__ {K mg} (T : Txt K mg) : ∃ fd, FnP K "__init__" "Trial.__init__" s_Trial___init__ (He.ma K (He.ga K "Trial") "__init__") fd := T.sd.def_ 33 (d := dM "Trial" "__init__" "Trial.__init__" s_Trial___init__) rfl
theorem F_Desk___init__ {K mg} (T : Txt K mg) : ∃ fd, FnP K "__init__" "Desk.__init__" s_Desk___init__ (He.ma K (He.ga K "Desk") "__init__") fd := T.sd.def_ 34 (d := dM "Desk" "__init__" "Desk.__init__" s_Desk___init__) rfl
theorem F_Desk_state_now {K mg} (T : Txt K mg) : ∃ fd, FnP K "state_now" "Desk.state_now" s_Desk_state_now (He.ma K (He.ga K "Desk") "state_now") fd := T.sd.def_ 35 (d := dM "Desk" "state_now" "Desk.state_now" s_Desk_state_now) rfl
theorem F_Desk_moved {K mg} (T : Txt K mg) : ∃ fd, FnP K "moved" "Desk.moved" s_Desk_moved (He.ma K (He.ga K "Desk") "moved") fd := T.sd.def_ 36 (d := dM "Desk" "moved" "Desk.moved" s_Desk_moved) rfl
theorem F_Desk_doing {K mg} (T : Txt K mg) : ∃ fd, FnP K "doing" "Desk.doing" s_Desk_doing (He.ma K (He.ga K "Desk") "doing") fd := T.sd.def_ 37 (d := dM "Desk" "doing" "Desk.doing" s_Desk_doing) rfl
theorem F_Desk_put {K mg} (T : Txt K mg) : ∃ fd, FnP K "put" "Desk.put" s_Desk_put (He.ma K (He.ga K "Desk") "put") fd := T.sd.def_ 38 (d := dM "Desk" "put" "Desk.put" s_Desk_put) rfl
theorem F_Desk_take {K mg} (T : Txt K mg) : ∃ fd, FnP K "take" "Desk.take" s_Desk_take (He.ma K (He.ga K "Desk") "take") fd := T.sd.def_ 39 (d := dM "Desk" "take" "Desk.take" s_Desk_take) rfl
theorem F_Desk_change {K mg} (T : Txt K mg) : ∃ fd, FnP K "change" "Desk.change" s_Desk_change (He.ma K (He.ga K "Desk") "change") fd := T.sd.def_ 40 (d := dM "Desk" "change" "Desk.change" s_Desk_change) rfl
theorem F_Desk_become {K mg} (T : Txt K mg) : ∃ fd, FnP K "become" "Desk.become" s_Desk_become (He.ma K (He.ga K "Desk") "become") fd := T.sd.def_ 41 (d := dM "Desk" "become" "Desk.become" s_Desk_become) rfl
theorem F_Desk_pair_called {K mg} (T : Txt K mg) : ∃ fd, FnP K "pair_called" "Desk.pair_called" s_Desk_pair_called (He.ma K (He.ga K "Desk") "pair_called") fd := T.sd.def_ 42 (d := dM "Desk" "pair_called" "Desk.pair_called" s_Desk_pair_called) rfl
theorem F_Desk_marks {K mg} (T : Txt K mg) : ∃ fd, FnP K "marks" "Desk.marks" s_Desk_marks (He.ma K (He.ga K "Desk") "marks") fd := T.sd.def_ 43 (d := dM "Desk" "marks" "Desk.marks" s_Desk_marks) rfl
theorem F__law_source {K mg} (T : Txt K mg) : ∃ fd, FnP K "_law_source" "_law_source" s__law_source (He.ga K "_law_source") fd := T.sd.def_ 44 (d := dD "_law_source" s__law_source) rfl
theorem F__law_pick {K mg} (T : Txt K mg) : ∃ fd, FnP K "_law_pick" "_law_pick" s__law_pick (He.ga K "_law_pick") fd := T.sd.def_ 45 (d := dD "_law_pick" s__law_pick) rfl
theorem F__law_alphabet {K mg} (T : Txt K mg) : ∃ fd, FnP K "_law_alphabet" "_law_alphabet" s__law_alphabet (He.ga K "_law_alphabet") fd := T.sd.def_ 46 (d := dD "_law_alphabet" s__law_alphabet) rfl
theorem F__law_word {K mg} (T : Txt K mg) : ∃ fd, FnP K "_law_word" "_law_word" s__law_word (He.ga K "_law_word") fd := T.sd.def_ 47 (d := dD "_law_word" s__law_word) rfl
theorem F__law_reader {K mg} (T : Txt K mg) : ∃ fd, FnP K "_law_reader" "_law_reader" s__law_reader (He.ga K "_law_reader") fd := T.sd.def_ 48 (d := dD "_law_reader" s__law_reader) rfl
theorem F__law_steady_reader {K mg} (T : Txt K mg) : ∃ fd, FnP K "_law_steady_reader" "_law_steady_reader" s__law_steady_reader (He.ga K "_law_steady_reader") fd := T.sd.def_ 49 (d := dD "_law_steady_reader" s__law_steady_reader) rfl
theorem F__law_marked {K mg} (T : Txt K mg) : ∃ fd, FnP K "_law_marked" "_law_marked" s__law_marked (He.ga K "_law_marked") fd := T.sd.def_ 50 (d := dD "_law_marked" s__law_marked) rfl
theorem F__law_tables {K mg} (T : Txt K mg) : ∃ fd, FnP K "_law_tables" "_law_tables" s__law_tables (He.ga K "_law_tables") fd := T.sd.def_ 51 (d := dD "_law_tables" s__law_tables) rfl
theorem F__law_is_number {K mg} (T : Txt K mg) : ∃ fd, FnP K "_law_is_number" "_law_is_number" s__law_is_number (He.ga K "_law_is_number") fd := T.sd.def_ 52 (d := dD "_law_is_number" s__law_is_number) rfl
theorem F__law_bools {K mg} (T : Txt K mg) : ∃ fd, FnP K "_law_bools" "_law_bools" s__law_bools (He.ga K "_law_bools") fd := T.sd.def_ 53 (d := dD "_law_bools" s__law_bools) rfl
theorem F__law_line {K mg} (T : Txt K mg) : ∃ fd, FnP K "_law_line" "_law_line" s__law_line (He.ga K "_law_line") fd := T.sd.def_ 54 (d := dD "_law_line" s__law_line) rfl
theorem F__law_names {K mg} (T : Txt K mg) : ∃ fd, FnP K "_law_names" "_law_names" s__law_names (He.ga K "_law_names") fd := T.sd.def_ 55 (d := dD "_law_names" s__law_names) rfl
theorem F__law_desk {K mg} (T : Txt K mg) : ∃ fd, FnP K "_law_desk" "_law_desk" s__law_desk (He.ga K "_law_desk") fd := T.sd.def_ 56 (d := dD "_law_desk" s__law_desk) rfl
theorem F__law_carried {K mg} (T : Txt K mg) : ∃ fd, FnP K "_law_carried" "_law_carried" s__law_carried (He.ga K "_law_carried") fd := T.sd.def_ 57 (d := dD "_law_carried" s__law_carried) rfl
theorem F__law_logged {K mg} (T : Txt K mg) : ∃ fd, FnP K "_law_logged" "_law_logged" s__law_logged (He.ga K "_law_logged") fd := T.sd.def_ 58 (d := dD "_law_logged" s__law_logged) rfl
theorem F__law_place {K mg} (T : Txt K mg) : ∃ fd, FnP K "_law_place" "_law_place" s__law_place (He.ga K "_law_place") fd := T.sd.def_ 59 (d := dD "_law_place" s__law_place) rfl
theorem F__law_deed {K mg} (T : Txt K mg) : ∃ fd, FnP K "_law_deed" "_law_deed" s__law_deed (He.ga K "_law_deed") fd := T.sd.def_ 60 (d := dD "_law_deed" s__law_deed) rfl
theorem F__law_bad_deed {K mg} (T : Txt K mg) : ∃ fd, FnP K "_law_bad_deed" "_law_bad_deed" s__law_bad_deed (He.ga K "_law_bad_deed") fd := T.sd.def_ 61 (d := dD "_law_bad_deed" s__law_bad_deed) rfl
theorem F__law_do {K mg} (T : Txt K mg) : ∃ fd, FnP K "_law_do" "_law_do" s__law_do (He.ga K "_law_do") fd := T.sd.def_ 62 (d := dD "_law_do" s__law_do) rfl
theorem F__law_refused {K mg} (T : Txt K mg) : ∃ fd, FnP K "_law_refused" "_law_refused" s__law_refused (He.ga K "_law_refused") fd := T.sd.def_ 63 (d := dD "_law_refused" s__law_refused) rfl
theorem F__law_alike {K mg} (T : Txt K mg) : ∃ fd, FnP K "_law_alike" "_law_alike" s__law_alike (He.ga K "_law_alike") fd := T.sd.def_ 64 (d := dD "_law_alike" s__law_alike) rfl
theorem F__law_same {K mg} (T : Txt K mg) : ∃ fd, FnP K "_law_same" "_law_same" s__law_same (He.ga K "_law_same") fd := T.sd.def_ 65 (d := dD "_law_same" s__law_same) rfl
theorem F_law {K mg} (T : Txt K mg) : ∃ fd, FnP K "law" "law" s_law (He.ga K "law") fd := T.sd.def_ 66 (d := dD "law" s_law) rfl
theorem F_BadAlphabet___init__ {K mg} (T : Txt K mg) : ∃ fd, FnP K "__init__" "WrongThing.__init__" s_WrongThing___init__ (He.ma K (He.ga K "BadAlphabet") "__init__") fd := T.sd.def_ 67 (d := dM "BadAlphabet" "__init__" "WrongThing.__init__" s_WrongThing___init__) rfl
theorem F_BadPlace___init__ {K mg} (T : Txt K mg) : ∃ fd, FnP K "__init__" "WrongThing.__init__" s_WrongThing___init__ (He.ma K (He.ga K "BadPlace") "__init__") fd := T.sd.def_ 68 (d := dM "BadPlace" "__init__" "WrongThing.__init__" s_WrongThing___init__) rfl
theorem F_BadLetter___init__ {K mg} (T : Txt K mg) : ∃ fd, FnP K "__init__" "WrongThing.__init__" s_WrongThing___init__ (He.ma K (He.ga K "BadLetter") "__init__") fd := T.sd.def_ 69 (d := dM "BadLetter" "__init__" "WrongThing.__init__" s_WrongThing___init__) rfl
theorem F_BadMarked___init__ {K mg} (T : Txt K mg) : ∃ fd, FnP K "__init__" "WrongItem.__init__" s_WrongItem___init__ (He.ma K (He.ga K "BadMarked") "__init__") fd := T.sd.def_ 70 (d := dM "BadMarked" "__init__" "WrongItem.__init__" s_WrongItem___init__) rfl
theorem F_Desk_live {K mg} (T : Txt K mg) : ∃ fd, FnP K "live" "Desk.live" s_Desk_live (geA "Desk" "live" K) fd := T.pr.def_ 0 (d := ⟨geA "Desk" "live", "live", "Desk.live", defArgs s_Desk_live, defBody s_Desk_live, defScope s_Desk_live, [], []⟩) rfl
theorem F_Desk_mark_names {K mg} (T : Txt K mg) : ∃ fd, FnP K "mark_names" "Desk.mark_names" s_Desk_mark_names (geA "Desk" "mark_names" K) fd := T.pr.def_ 1 (d := ⟨geA "Desk" "mark_names", "mark_names", "Desk.mark_names", defArgs s_Desk_mark_names, defBody s_Desk_mark_names, defScope s_Desk_mark_names, [], []⟩) rfl
theorem F_Desk_log {K mg} (T : Txt K mg) : ∃ fd, FnP K "log" "Desk.log" s_Desk_log (geA "Desk" "log" K) fd := T.pr.def_ 2 (d := ⟨geA "Desk" "log", "log", "Desk.log", defArgs s_Desk_log, defBody s_Desk_log, defScope s_Desk_log, [], []⟩) rfl
end Kx
set_option Elab.async false
set_option linter.all false
set_option maxRecDepth 100000
set_option maxHeartbeats 1000000
namespace Kx
open PySem PySem.Spec PyProof.Rows L2
/-- a def that stands under the module's name x, with its promise -/
structure Cal (P : Program) (w : World) (K : PySem.W.Frag) (mg : Str → Option Value) (base : Heap) (CX : CXT) (k : Nat) (x : Str) (ps : List Str) (sp : Sp) : Prop where
  ok : ∃ fd, FnOk P w K mg base CX k (He.ga K x) fd ps sp ∧ Binds K fd ps []
  g : mg x = some (.ref (He.ga K x))
  kp : PySem.W.keepIn K (.ref (He.ga K x)) = true
section
variable {P : Program} {w : World} {K : PySem.W.Frag} {mg : Str → Option Value} {base : Heap}
theorem cal_mk {x q : Str} {st : Stmt} {fd : FuncData} {N ps : List Str} {k : Nat} {sp : Sp} {CX : CXT} (F : FnP K x q st (He.ga K x) fd) (g : mg x = some (.ref (He.ga K x))) (S : FnScope N ps (defScope st))
    (hb : ∀ (kV doc pm : Value) (an : Option Addr) (cdv ct : Value) (us : List Value), us.length = ps.length → bindArgs (PySem.W.fnOf x q (defArgs st) (defBody st) (defScope st) .none kV doc pm an cdv ct) ⟨us, []⟩ = pure (ps.zip us))
    (len : ∀ vs H Q E, sp vs H Q E → vs.length = ps.length)
    (hbody : ∀ (cdv : Value) (A : Around) (outer : List Env) (s : Shared) (H : Hp) (vs : List V) (Q : VK) (E : XK), Room k (A.deeper (envOfC q (defScope st) s.heap.objs.size (He.ga K x) cdv)) → sp vs H Q E →
      ∃ t, PSs (cxOf CX P w K mg base N q (defScope st) (He.ga K x) cdv A outer s H E) (defBody st) t ∧ t { nx := fun _ H' => Q .non H', rt := Q } (start N vs) H) : Cal P w K mg base CX (k + 1) x ps sp :=
  ⟨⟨fd, F.ok S len hbody, F.bindsN hb⟩, g, F.kp⟩
end
section
variable {X : Cx} {CX : CXT} {k : Nat} {x : Str} {ps : List Str} {sp : Sp} {E : XK} {e : Expr} {es : List Expr} {t : TA} {p pos : Pos}
/-- f(e, ..) -/
theorem pe_cal (F : Cal X.prog X.w X.K X.mg X.base CX k x ps sp) (hr : Room k X.A) (hx : Passes CX X E) (ha : PA X (e :: es) t) (hg : Gl X x := by rfl) (hdb : (x == ("__debug__" : Str)) = false := by decide)
    (he : starEach (e :: es) X.env = (false, eval e X.env) :: starEach es X.env := by rfl) (hpl : (backTo pos (starEach es X.env)).any (·.1) = false := by rfl) :
    PE X (.Call (.Name x p) (e :: es) [] pos) (tCall sp [] E t) := by
  obtain ⟨fd, h1, h2⟩ := F.ok
  exact pe_call h1 hr hg F.g F.kp h2 .nil hx ha hdb he hpl
end
/-! ### isinstance with a built-in class -/
/-- isinstance(e, T), T a built-in class -/
def tIs (K : PySem.W.Frag) (T : String) (t : TE) : TE := fun σ H Q => t σ H fun x H1 => ∃ a : String, TyX K H1 x (.type a) ∧ ∃ b, kitB a T = some b ∧ Q (.bl b) H1
end Kx
set_option Elab.async false
set_option linter.all false
set_option maxRecDepth 100000
set_option maxHeartbeats 1000000
namespace Kx
open PySem PySem.Spec PyProof.Rows L2
/-- kinds of things that are passed -/
inductive Kd where
  | non | bl | int | str | lst | tup | dct
  deriving DecidableEq
def Kd.nm : Kd → String
  | .non => "NoneType" | .bl => "bool" | .int => "int" | .str => "str" | .lst => "list" | .tup => "tuple" | .dct => "dict"
/-- the value is of the kind -/
def Ko (K : PySem.W.Frag) (H : Hp) (v : V) (k : Kd) : Prop := TyX K H v (.type k.nm)
def Kd.is : Kd → String → Bool
  | .bl, "int" => true
  | k, s => k.nm == s
section
variable {X : Cx}
theorem PE.imp {e : Expr} {t t' : TE} (h : PE X e t) (i : ∀ σ H Q, t' σ H Q → t σ H Q) : PE X e t' := ⟨fun pins s σ H Q I q => h.run pins s σ H Q I (i σ H Q q)⟩
theorem pe_ty {T : String} {u : Str} {p : Pos} (hT : X.mg u = none) (hv : bootBuiltins u = some (.type T)) (hgT : Gl X u := by rfl)
    (hn : u ≠ "__name__" := by decide) (hd : (u == ("__debug__" : Str)) = false := by decide) : PE X (.Name u p) (tC (.ty T)) := pe_bltn (v := .ty T) hgT hT hv rfl hn hd
theorem CallR.imp {f : Value} {r r' : List V → Hp → VK → Prop} (h : CallR X f r) (i : ∀ xs H Q, r' xs H Q → r xs H Q) : CallR X f r' := fun pins s σ H vs us Q I rv q => h pins s σ H vs us Q I rv (i _ _ _ q)
end
theorem k_int : ∀ a : Kd, kitB a.nm "int" = some (a.is "int") := by intro a; cases a <;> decide +kernel
theorem k_bool : ∀ a : Kd, kitB a.nm "bool" = some (a.is "bool") := by intro a; cases a <;> decide +kernel
theorem k_str : ∀ a : Kd, kitB a.nm "str" = some (a.is "str") := by intro a; cases a <;> decide +kernel
theorem k_tuple : ∀ a : Kd, kitB a.nm "tuple" = some (a.is "tuple") := by intro a; cases a <;> decide +kernel
theorem k_list : ∀ a : Kd, kitB a.nm "list" = some (a.is "list") := by intro a; cases a <;> decide +kernel

/-- isinstance(x, T), T one of these built-in classes -/
def rIsB (K : PySem.W.Frag) : List V → Hp → VK → Prop := fun xs H Q => ∃ (x : V) (T : String) (a : Kd), xs = [x, .ty T] ∧ Ko K H x a ∧ kitB a.nm T = some (a.is T) ∧ Q (.bl (a.is T)) H
theorem call_isB {X : Cx} : CallR X (.builtin "isinstance") (rIsB X.K) := CallR.imp call_isi fun xs H Q ⟨x, T, a, e, ko, kb, q⟩ => ⟨x, .ty T, _, _, _, e, .ty T, ko, kit_ty kb, q⟩
theorem Ko.same {K : PySem.W.Frag} {H H' : Hp} {v : V} {a : Kd} (s : Same H H') (h : Ko K H v a) : Ko K H' v a := by
  have h' : TyX K H v (.type a.nm) := h
  show TyX K H' v (.type a.nm)
  generalize Value.type a.nm = z at h' ⊢
  cases h' with
  | base b =>
    refine .base ?_
    cases b with
    | non => exact .non
    | bl x => exact .bl x
    | int i => exact .int i
    | str x => exact .str x
    | flt x => exact .flt x
    | lst e => exact .lst (s _ _ e)
    | frz e => exact .frz (s _ _ e)
    | tup e => exact .tup (s _ _ e)
    | dK e => exact .dK (s _ _ e)
    | dT e => exact .dT (s _ _ e)
    | ins e cl ha hn htk hm => exact .ins (s _ _ e) cl ha hn htk hm
  | byt b => exact .byt b
  | set e => exact .set (s _ _ e)
  | kList e c => exact .kList e c
  | kTuple e c => exact .kTuple e c
  | kDict e c => exact .kDict e c
  | fTuple e => exact .fTuple (s _ _ e)
  | fDict e => exact .fDict (s _ _ e)
section
variable {P : Program} {w : World} {K : PySem.W.Frag} {mg : Str → Option Value} {base : Heap}
theorem b_isinstance : bootBuiltins "isinstance" = some (.builtin "isinstance") := by decide +kernel
theorem b_int : bootBuiltins "int" = some (.type "int") := by decide +kernel
theorem b_bool : bootBuiltins "bool" = some (.type "bool") := by decide +kernel
theorem b_str : bootBuiltins "str" = some (.type "str") := by decide +kernel
theorem b_tuple : bootBuiltins "tuple" = some (.type "tuple") := by decide +kernel
theorem b_list : bootBuiltins "list" = some (.type "list") := by decide +kernel
/-! ### is_whole -/
def sp_is_whole (K : PySem.W.Frag) : Sp := fun vs H Q _ => ∃ (v : V) (a : Kd), vs = [v] ∧ Ko K H v a ∧ Q (.bl (a == .int)) H
theorem ok_is_whole (T : Txt K mg) : Cal P w K mg base CX0 1 "is_whole" ["thing"] (sp_is_whole K) := by
  obtain ⟨fd, F⟩ := F_is_whole T
  refine cal_mk F (g_is_whole T) sc_is_whole (fun _ _ _ _ _ _ us hl => match us, hl with | [_], _ => rfl) (fun vs H Q E h => ?_) (fun cdv A outer s H vs Q E hr h => ?_)
  · obtain ⟨v, a, rfl, _⟩ := h; rfl
  · refine ⟨_, PSs.nox (pss_one (ps_ret (pe_and (pe_callB call_isB (by rfl) (fr_isinstance T) b_isinstance (pa_cons (pv 0) (pa_cons (pe_ty (fr_int T) b_int) pa_nil)))
      (pe_one (pe_not (pe_callB call_isB (by rfl) (fr_isinstance T) b_isinstance (pa_cons (pv 0) (pa_cons (pe_ty (fr_bool T) b_bool) pa_nil)))))))), ?_⟩
    obtain ⟨v, a, rfl, ko, q⟩ := h
    refine ⟨v, rfl, v, "int", a, rfl, ko, k_int a, _, rfl, ?_⟩
    cases hb : a.is "int" with
    | false =>
      refine iteF ?_
      have : (a == Kd.int) = false := by cases a <;> first | rfl | (exact Bool.noConfusion hb)
      rw [this] at q; exact q
    | true =>
      refine iteT ?_
      refine ⟨v, rfl, v, "bool", a, rfl, ko, k_bool a, _, rfl, ?_⟩
      have : (a == Kd.int) = (!a.is "bool") := by cases a <;> first | rfl | (exact Bool.noConfusion hb)
      rw [this] at q; exact q
/-! ### is_below -/
/-- the int of a value, if it is one -/
def below (v : V) (m : Int) : Bool := match v with
  | .int i => decide (0 ≤ i) && decide (i < m)
  | _ => false
theorem ko_int {K : PySem.W.Frag} {H : Hp} {v : V} (h : Ko K H v .int) : ∃ i, v = .int i := by
  have h' : TyX K H v (.type "int") := h
  generalize hx : Value.type "int" = z at h'
  cases h' with
  | base b => cases b <;> first | exact ⟨_, rfl⟩ | (exfalso; simp at hx)
  | _ => exfalso; simp at hx
theorem ko_notint {K : PySem.W.Frag} {H : Hp} {i : Int} {a : Kd} (h : Ko K H (.int i) a) : a = .int := by
  have h' : TyX K H (.int i) (.type a.nm) := h
  generalize hx : Value.type a.nm = z at h'
  cases h' with
  | base b => cases b; cases a <;> first | rfl | (exfalso; simp [Kd.nm] at hx)
def sp_is_below (K : PySem.W.Frag) : Sp := fun vs H Q _ => ∃ (v : V) (m : Int) (a : Kd), vs = [v, .int m] ∧ Ko K H v a ∧ Q (.bl (below v m)) H
theorem ok_is_below (T : Txt K mg) : Cal P w K mg base CX0 2 "is_below" ["thing", "many"] (sp_is_below K) := by
  obtain ⟨fd, F⟩ := F_is_below T
  refine cal_mk F (g_is_below T) sc_is_below (fun _ _ _ _ _ _ us hl => match us, hl with | [_, _], _ => rfl) (fun vs H Q E h => ?_) (fun cdv A outer s H vs Q E hr h => ?_)
  · obtain ⟨v, m, a, rfl, _⟩ := h; rfl
  · refine ⟨_, PSs.nox (pss_one (ps_ret (pe_and (pe_cal (ok_is_whole T) hr pass0 (pa_cons (pv 0) pa_nil))
      (pe_one (pe_chain op_le op_lt pe_int (pv 0) (pv 1)))))), ?_⟩
    obtain ⟨v, m, a, rfl, ko, q⟩ := h
    refine ⟨v, rfl, v, a, rfl, ko, _, rfl, ?_⟩
    cases hb : (a == Kd.int) with
    | false =>
      refine iteF ?_
      have : below v m = false := by
        cases v <;> first | rfl | (have := ko_notint ko; subst this; exact Bool.noConfusion hb)
      rw [this] at q; exact q
    | true =>
      refine iteT ?_
      have ha : a = .int := by cases a <;> first | rfl | (exact Bool.noConfusion hb)
      subst ha
      obtain ⟨i, rfl⟩ := ko_int ko
      refine ⟨.int i, rfl, 0, i, rfl, rfl, _, rfl, ?_⟩
      have e : below (.int i) m = (decide (0 ≤ i) && decide (i < m)) := rfl
      rw [e] at q
      cases hc : decide ((0 : Int) ≤ i) with
      | false =>
        rw [hc] at q
        exact iteF q
      | true =>
        rw [hc] at q
        refine iteT ⟨.int m, rfl, i, m, rfl, rfl, ?_⟩
        exact q
/-! ### is_listing -/
def sp_is_listing (K : PySem.W.Frag) : Sp := fun vs H Q _ => ∃ (v : V) (a : Kd), vs = [v] ∧ Ko K H v a ∧ ∀ H', Same H H' → Q (.bl (a == .lst || a == .tup)) H'
/-- isinstance(x, (T1, T2)): the tuple laid in the call, of built-in classes -/
def rIsT (K : PySem.W.Frag) : List V → Hp → VK → Prop := fun xs H Q => ∃ (x : V) (tp : Addr) (Ts : List String) (a : Kd), xs = [x, .ref tp] ∧ H tp = some (.tup (Ts.map V.ty)) ∧ Ko K H x a ∧ (∀ t ∈ Ts, kitB a.nm t = some (a.is t)) ∧ Q (.bl (Ts.any a.is)) H
theorem kitAny_ts {K : PySem.W.Frag} {a : Kd} : ∀ {Ts : List String}, (∀ t ∈ Ts, kitB a.nm t = some (a.is t)) → PySem.W.kitAny K (.type a.nm) (Ts.map Value.type) = some (Ts.any a.is)
  | [], _ => rfl
  | t :: Ts, h => by
    refine kitAny_cons (kit_ty (h t (List.mem_cons_self ..))) (fun e => ?_) (fun e => ?_)
    · rw [List.any_cons, e, Bool.false_or]
      exact kitAny_ts fun z hz => h z (List.mem_cons_of_mem _ hz)
    · rw [List.any_cons, e, Bool.true_or]
theorem paired_ts : ∀ {Ts : List String}, Paired ClsV (Ts.map V.ty) (Ts.map Value.type)
  | [] => .nil
  | t :: Ts => .cons (.ty t) paired_ts
theorem call_isT {X : Cx} : CallR X (.builtin "isinstance") (rIsT X.K) := CallR.imp call_isiT fun xs H Q ⟨x, tp, Ts, a, e, ht, ko, kb, q⟩ =>
  ⟨x, tp, _, _, _, _, e, ht, paired_ts, ko, kitAny_ts kb, q⟩
theorem ok_is_listing (T : Txt K mg) : Cal P w K mg base CX0 1 "is_listing" ["thing"] (sp_is_listing K) := by
  obtain ⟨fd, F⟩ := F_is_listing T
  refine cal_mk F (g_is_listing T) sc_is_listing (fun _ _ _ _ _ _ us hl => match us, hl with | [_], _ => rfl) (fun vs H Q E h => ?_) (fun cdv A outer s H vs Q E hr h => ?_)
  · obtain ⟨v, a, rfl, _⟩ := h; rfl
  · refine ⟨_, PSs.nox (pss_one (ps_ret (pe_callB call_isT (by rfl) (fr_isinstance T) b_isinstance (pa_cons (pv 0) (pa_cons (pe_tup (pa_cons (pe_ty (fr_tuple T) b_tuple) (pa_cons (pe_ty (fr_list T) b_list) pa_nil))) pa_nil))))), ?_⟩
    obtain ⟨v, a, rfl, ko, q⟩ := h
    refine ⟨v, rfl, (by show 2 ≤ sizeLine; decide), fun t ht => ⟨v, t, ["tuple", "list"], a, rfl, upd_same, ?_, ?_, ?_⟩⟩
    · exact Ko.same (fun b o hb => by rw [upd_ne (ne_of_none hb ht)]; exact hb) ko
    · intro t ht
      rcases List.mem_cons.mp ht with rfl | ht
      · exact k_tuple a
      · rcases List.mem_cons.mp ht with rfl | ht
        · exact k_list a
        · cases ht
    · have e : (["tuple", "list"].any a.is) = (a == .lst || a == .tup) := by cases a <;> rfl
      rw [e]
      exact q _ fun b o hb => by rw [upd_ne (ne_of_none hb ht)]; exact hb
end
end Kx
set_option Elab.async false
set_option linter.all false
set_option maxRecDepth 100000
set_option maxHeartbeats 1000000
namespace Kx
open PySem PySem.Spec PyProof.Rows L2
/-! ### walks over lists or tuples -/
/-- at a: a list or a tuple of xs -/
def SqS (K : PySem.W.Frag) (H : Hp) (a : Addr) (xs : List V) : Prop := SqL K H a xs ∨ SqT K H a xs
theorem sqS_same {K : PySem.W.Frag} {H H' : Hp} {a : Addr} {xs : List V} (s : Same H H') (h : SqS K H a xs) : SqS K H' a xs := by
  rcases h with h | h
  · exact .inl (s.seq h)
  · right
    rcases h with (h | ⟨o, h⟩) | h
    · exact .inl (.inl (s _ _ h))
    · exact .inl (.inr ⟨o, s _ _ h⟩)
    · exact .inr h
/-- a walk: whatever the iterator, it goes n turns while G holds, giving what Y says -/
def iW (te : TE) (n : V → Hp → Nat) (G : V → Hp → Hp → Prop) (Y : V → Hp → Nat → Hp → V → Hp → Prop) (ok : V → Hp → Prop) : TI := fun σ H R => te σ H fun x H1 => ok x H1 ∧ ∀ J, Walk J (n x H1) (G x H1) (Y x H1) → R J H1
/-- over a list or a tuple -/
def iSeq (K : PySem.W.Frag) (te : TE) : TI := fun σ H R => te σ H fun x H1 => ∃ a xs, x = .ref a ∧ ((SqL K H1 a xs ∧ ∀ J, Walk J xs.length (fun H => SqL K H a xs) (YAt xs) → R J H1) ∨ (SqT K H1 a xs ∧ ∀ J, Walk J xs.length (fun H => SqT K H a xs) (YAt xs) → R J H1))
section
variable {X : Cx} {tg : Expr}
theorem pi_seq {l : Expr} {tl : TE} (hl : PE X l tl) : PI X tg l (iSeq X.K tl) := by
  refine ⟨fun pins s σ H R I h => ?_⟩
  refine thn (hl.run pins s σ H _ I h) fun v s1 ⟨x, H1, I1, r1, a, xs, e, q⟩ => ?_
  subst e
  cases r1
  rcases q with ⟨hq, q⟩ | ⟨hq, q⟩
  · obtain ⟨its, rv, p, hz⟩ := I1.list hq
    refine wpAny_pyIter_list p.isList ?_
    refine ⟨s1.heap.objs.size, [s1.heap.objs.size], _, _, H1, rfl, I1.kept (t' := s1.toks) fun b o e => Heap.get?_push_of_some _ e, turn_list a _, ⟨_, Heap.get?_push_size _ rfl, rfl, rfl⟩, fun b hb => ?_, q _ walk_list⟩
    have e : b = s1.heap.objs.size := by simpa using hb
    subst e
    exact I1.fpOk (Nat.le_refl _) (I1.hok.fresh (Nat.le_refl _))
  · obtain ⟨its, rv, p, hz⟩ := I1.tuple hq
    refine wpAny_pyIter_tuple (show s1.heap.IsTuple a its.toArray from p) ?_
    refine ⟨s1.heap.objs.size, [s1.heap.objs.size], _, _, H1, rfl, I1.kept (t' := s1.toks) fun b o e => Heap.get?_push_of_some _ e, turn_tuple a _, ⟨_, Heap.get?_push_size _ rfl, rfl, rfl⟩, fun b hb => ?_, q _ walk_tup⟩
    have e : b = s1.heap.objs.size := by simpa using hb
    subst e
    exact I1.fpOk (Nat.le_refl _) (I1.hok.fresh (Nat.le_refl _))
end
end Kx
set_option Elab.async false
set_option linter.all false
set_option maxRecDepth 100000
set_option maxHeartbeats 1000000
namespace Kx
open PySem PySem.Spec PyProof.Rows L2
/-! ### what an iterator draws, by what stands in the heap of values -/
/-- at `it` an iterator that draws n things while G holds; the i-th is told by E; own: the iterator's own record -/
structure SrcI (P : Program) (w : World) (K : PySem.W.Frag) (it : Addr) (n : Nat) (G : Hp → Prop) (E : Nat → V → Prop) (own : Nat → Heap → Prop) (kf : List Addr) : Prop where
  obj : ∀ i h, own i h → ∃ o, h.get? it = some o ∧ ∀ v, o.data ≠ .cell v
  keep : ∀ i h h', own i h → (∀ o, h.get? it = some o → h'.get? it = some o) → own i h'
  dr : ∀ (X : Cx), X.prog = P → X.w = w → X.K = K → X.calm = true → ∀ (pins : List (Addr × Obj)) (s : Shared) (σ : L2.St) (H : Hp), Inv X pins σ H s → G H → H it = none →
    ∃ (fs : List Addr) (Pv : Nat → Value → Prop) (Sd : Nat → Heap → Prop), Draws P w X.A.in1 it (it :: fs) n Pv Sd ∧ (∀ b ∈ fs, (∃ o, H b = some o) ∨ b ∈ kf) ∧ (∀ i, own i s.heap → Sd i s.heap) ∧ (∀ i h, Sd i h → own i h) ∧ (∀ i u, Pv i u → ∃ v, RelV v u ∧ E i v)
/-- what a thing that is walked is: a tracked list, a tracked tuple, a text -/
inductive Src (K : PySem.W.Frag) : V → Nat → (Hp → Prop) → (Nat → V → Prop) → Prop
  | lst (a : Addr) (xs : List V) : Src K (.ref a) xs.length (fun H => H a = some (.lst xs)) (fun i v => xs[i]? = some v)
  | tup (a : Addr) (xs : List V) : Src K (.ref a) xs.length (fun H => H a = some (.tup xs)) (fun i v => xs[i]? = some v)
  | txt (z : Str) : Src K (.str z) z.cps.size (fun _ => True) (fun i v => ∃ c, z.cps[i]? = some c ∧ v = .str ⟨#[c]⟩)
  | ktp (a : Addr) (xs : List V) (h : ∃ (o : Obj) (its : Array Value) (n : Nat), K.lookup a = some o ∧ o.cls = .type "tuple" ∧ o.data = .seq its n ∧ its.size ≤ sizeLine ∧ Vals xs its.toList) : Src K (.ref a) xs.length (fun _ => True) (fun i v => xs[i]? = some v)
section
variable {P : Program} {w : World} {K : PySem.W.Frag} {it : Addr}
theorem handled_in1 {A : Around} (h : A.handled = none) : A.in1.handled = none := h
theorem srcI_list (a : Addr) (xs : List V) : SrcI P w K it xs.length (fun H => H a = some (.lst xs)) (fun i v => xs[i]? = some v) (fun i h => h.IsListIter it a i) [] where
  obj := fun i h ⟨o, ho, hc, hd⟩ => ⟨o, ho, fun v q => by rw [hd] at q; cases q⟩
  keep := fun i h h' st k => st.at k
  dr := by
    intro X hP hw hK hc pins s σ H I hg hn
    subst hP hw hK
    have hq : SqL X.K H a xs := SqL.of hg
    obtain ⟨its, rv, p, hz⟩ := I.list hq
    have hne : a ≠ it := fun z => by rw [z, hn] at hg; cases hg
    have el : its.toArray.size = xs.length := by simp [rv.length]
    refine ⟨[a], _, _, el ▸ Draws.list (handled_in1 (I.ok.hd hc)) it a hne its.toArray, fun b hb => ?_, fun i st => ⟨st, p.isList⟩, fun i h st => st.1, fun i u hu => ?_⟩
    · rw [List.mem_singleton.mp hb]; exact .inl ⟨_, hg⟩
    · have hu' : its[i]? = some u := by simpa using hu
      have hl : i < its.length := (List.getElem?_eq_some_iff.mp hu').1
      have hl2 : i < xs.length := by rw [rv.length]; exact hl
      obtain ⟨u', e1, e2⟩ := rv.get (i := i) (List.getElem?_eq_getElem hl2)
      rw [hu'] at e1
      cases e1
      exact ⟨xs[i], e2, List.getElem?_eq_getElem hl2⟩
theorem srcI_tup (a : Addr) (xs : List V) : SrcI P w K it xs.length (fun H => H a = some (.tup xs)) (fun i v => xs[i]? = some v) (fun i h => h.IsTupleIter it a i) [] where
  obj := fun i h ⟨o, ho, hc, hd⟩ => ⟨o, ho, fun v q => by rw [hd] at q; cases q⟩
  keep := fun i h h' st k => st.at k
  dr := by
    intro X hP hw hK hc pins s σ H I hg hn
    subst hP hw hK
    have hq : SqT X.K H a xs := SqT.of hg
    obtain ⟨its, rv, p, hz⟩ := I.tuple hq
    have hne : a ≠ it := fun z => by rw [z, hn] at hg; cases hg
    have el : its.toArray.size = xs.length := by simp [rv.length]
    refine ⟨[a], _, _, el ▸ Draws.tuple (handled_in1 (I.ok.hd hc)) it a hne its.toArray, fun b hb => ?_, fun i st => ⟨st, p⟩, fun i h st => st.1, fun i u hu => ?_⟩
    · rw [List.mem_singleton.mp hb]; exact .inl ⟨_, hg⟩
    · have hu' : its[i]? = some u := by simpa using hu
      have hl : i < its.length := (List.getElem?_eq_some_iff.mp hu').1
      have hl2 : i < xs.length := by rw [rv.length]; exact hl
      obtain ⟨u', e1, e2⟩ := rv.get (i := i) (List.getElem?_eq_getElem hl2)
      rw [hu'] at e1
      cases e1
      exact ⟨xs[i], e2, List.getElem?_eq_getElem hl2⟩
theorem srcI_txt (z : Str) (t : Tok) : SrcI P w K it z.cps.size (fun _ => True) (fun i v => ∃ c, z.cps[i]? = some c ∧ v = .str ⟨#[c]⟩) (fun i h => h.IsStrIter it (strIterType z) z t i) [] where
  obj := fun i h ⟨o, ho, hc, hd⟩ => ⟨o, ho, fun v q => by rw [hd] at q; cases q⟩
  keep := fun i h h' st k => let ⟨o, ho, r⟩ := st; ⟨o, k o ho, r⟩
  dr := by
    intro X hP hw hK hc pins s σ H I hg hn
    subst hP hw hK
    refine ⟨[], _, _, Draws.text (handled_in1 (I.ok.hd hc)) it z t, (fun b hb => absurd hb (by simp)), fun i st => st, fun i h st => st, fun i u hu => ?_⟩
    obtain ⟨c, t', hc', rfl⟩ := hu
    exact ⟨.str ⟨#[c]⟩, ⟨t', rfl⟩, c, hc', rfl⟩
theorem srcI_ktp (a : Addr) (xs : List V) (hk : ∃ (o : Obj) (its : Array Value) (n : Nat), K.lookup a = some o ∧ o.cls = .type "tuple" ∧ o.data = .seq its n ∧ its.size ≤ sizeLine ∧ Vals xs its.toList) (hne : a ≠ it) : SrcI P w K it xs.length (fun _ => True) (fun i v => xs[i]? = some v) (fun i h => h.IsTupleIter it a i) [a] where
  obj := fun i h ⟨o, ho, hc, hd⟩ => ⟨o, ho, fun v q => by rw [hd] at q; cases q⟩
  keep := fun i h h' st k => st.at k
  dr := by
    intro X hP hw hK hc pins s σ H I hg hn
    subst hP hw hK
    have hq : SqT X.K H a xs := .inr hk
    obtain ⟨its, rv, p, hz⟩ := I.tuple hq
    have el : its.toArray.size = xs.length := by simp [rv.length]
    refine ⟨[a], _, _, el ▸ Draws.tuple (handled_in1 (I.ok.hd hc)) it a hne its.toArray, fun b hb => ?_, fun i st => ⟨st, p⟩, fun i h st => st.1, fun i u hu => ?_⟩
    · exact .inr hb
    · have hu' : its[i]? = some u := by simpa using hu
      have hl : i < its.length := (List.getElem?_eq_some_iff.mp hu').1
      have hl2 : i < xs.length := by rw [rv.length]; exact hl
      obtain ⟨u', e1, e2⟩ := rv.get (i := i) (List.getElem?_eq_getElem hl2)
      rw [hu'] at e1
      cases e1
      exact ⟨xs[i], e2, List.getElem?_eq_getElem hl2⟩
/-- how a walked thing begins -/
theorem src_begins {X : Cx} {pins : List (Addr × Obj)} {s : Shared} {σ : L2.St} {H : Hp} {x : V} {u : Value} {n : Nat} {G : Hp → Prop} {E : Nat → V → Prop} (S : Src X.K x n G E) (I : Inv X pins σ H s) (hg : G H) (r : RelV x u) :
    ∃ (o : Obj) (Hs : Heap → Prop) (kf : List Addr), Begins u o Hs ∧ Hs s.heap ∧ (∀ b ∈ kf, b < s.heap.objs.size) ∧ ∀ it, it ∉ kf → ∃ own, SrcI X.prog X.w X.K it n G E own kf ∧ ∀ h', h'.get? it = some o → own 0 h' := by
  cases S with
  | lst a xs =>
    cases (show u = Value.ref a from r)
    obtain ⟨its, rv, p, hz⟩ := I.list (SqL.of hg)
    exact ⟨_, _, [], begins_list a its.toArray, p.isList, (fun b hb => by cases hb), fun it _ => ⟨_, srcI_list a xs, fun h' e => ⟨_, e, rfl, rfl⟩⟩⟩
  | tup a xs =>
    cases (show u = Value.ref a from r)
    obtain ⟨its, rv, p, hz⟩ := I.tuple (SqT.of hg)
    exact ⟨_, _, [], begins_tuple a its.toArray, p, (fun b hb => by cases hb), fun it _ => ⟨_, srcI_tup a xs, fun h' e => ⟨_, e, rfl, rfl⟩⟩⟩
  | txt z =>
    obtain ⟨t, rfl⟩ := (show ∃ t, u = Value.str z t from r)
    exact ⟨_, _, [], begins_text z t, trivial, (fun b hb => by cases hb), fun it _ => ⟨_, srcI_txt z t, fun h' e => ⟨_, e, rfl, rfl⟩⟩⟩
  | ktp a xs hk =>
    cases (show u = Value.ref a from r)
    obtain ⟨its, rv, p, hz⟩ := I.tuple (.inr hk)
    have hlt : a < s.heap.objs.size := by
      obtain ⟨o, ho, _⟩ := p
      exact Heap.lt_size ho
    exact ⟨_, _, [a], begins_tuple a its.toArray, p, (fun b hb => by rw [List.mem_singleton.mp hb]; exact hlt), fun it hn => ⟨_, srcI_ktp a xs hk (fun z => hn (by rw [z]; exact List.mem_singleton.mpr rfl)), fun h' e => ⟨_, e, rfl, rfl⟩⟩⟩
end
/-! ### from the library's walks that hand out new tuples to a loop's turns -/
/-- n turns while G holds, each gives a new tuple vs that Y tells -/
def ItN (n : Nat) (G : Hp → Prop) (Y : Nat → List V → Prop) : It :=
  ⟨fun i H => i < n ∧ G H, fun i H v H' => ∃ T vs, v = .ref T ∧ H T = none ∧ H' = upd H T (.tup vs) ∧ Y i vs, fun i H => i = n ∧ G H⟩
def YNew (Y : Nat → List V → Prop) : Nat → Hp → V → Hp → Prop := fun i H v H' => ∃ T vs, v = .ref T ∧ H T = none ∧ H' = upd H T (.tup vs) ∧ Y i vs
theorem walk_new {n : Nat} {G : Hp → Prop} {Y : Nat → List V → Prop} : Walk (ItN n G Y) n G (YNew Y) :=
  ⟨fun i _ hi q => ⟨hi, q⟩, fun _ q => ⟨rfl, q⟩, fun _ _ _ _ _ _ y => y⟩
theorem turn_of {P : Program} {w : World} {K : PySem.W.Frag} {elts : List Expr} {kk : Nat} {tpos : Pos} {e : Addr} {wr : List Addr} {n : Nat} {G : Hp → Prop} {own : Nat → Heap → Prop} {Y : Nat → List V → Prop} (hmem : e ∈ wr) (hY : ∀ i vs, Y i vs → vs.length ≤ sizeLine)
    (obj : ∀ i h, own i h → ∀ b ∈ wr, ∃ o, h.get? b = some o ∧ ∀ v, o.data ≠ .cell v)
    (keep : ∀ i h h', own i h → (∀ b ∈ wr, ∀ o, h.get? b = some o → h'.get? b = some o) → own i h')
    (dr : ∀ (X : Cx), X.prog = P → X.w = w → X.K = K → X.calm = true → ∀ (pins : List (Addr × Obj)) (s : Shared) (σ : L2.St) (H : Hp) (j : Nat), Inv X pins σ H s → (∀ b ∈ wr, H b = none) → own j s.heap → G H →
      ∃ fp wr0 Pt Sd Mid, (∀ b ∈ wr0, b ∈ wr) ∧ WalksT P w X.A e fp wr0 n Pt Sd Mid ∧ (∀ i, own i s.heap → Sd i s.heap) ∧ (∀ i h, Sd i h → own i h) ∧ (∀ i vals, i < n → Pt i vals → ∃ vs, Vals vs vals.toList ∧ Y i vs))
    (self : ∀ (A : Around) (i : Nat) (s : Shared) (Q : Value → Shared → Prop) (E : Value → Shared → Prop), own i s.heap → Q (.ref e) s → wpAny (model P w) A (pyIter (.ref e)) Q E s) :
    Turn P w K (.Tuple elts kk tpos) (ItN n G Y) wr e own where
  mem := hmem
  obj := obj
  keep := keep
  item := by
    intro X hP hw hK hc i pins s σ H E I hf st hg
    obtain ⟨fp, wr0, Pt, St', Mid, sub, W, h1, h2, h3⟩ := dr X hP hw hK hc pins s σ H i I (fun b hb => (hf b hb).1) st hg.2
    subst hP hw hK
    refine W.item i s _ _ hg.1 (h1 i st) fun T vals h' tk hp hT hTup hm fr => ?_
    refine ⟨_, rfl, W.go elts kk tpos i T { s with heap := h', toks := tk } _ _ hm fun h'' st2 fr2 => ?_⟩
    obtain ⟨vs, rv, hy⟩ := h3 i vals hg.1 hp
    have hTw : T ∉ wr := fun z => by
      obtain ⟨o, q, _⟩ := obj i s.heap st T z
      exact absurd (Heap.lt_size q) (Nat.not_lt.mpr hT)
    obtain ⟨oT, hTo, hTc, nT, hTd⟩ := hTup
    have hT2 : h''.get? T = some oT := fr2 T oT (fun z => hTw (sub T z)) hTo
    have new : ObjOk X.prog X.w (upd H T (.tup vs)) h'' T (.tup vs) := ⟨hY i vs hy, vals.toList, rv, ⟨oT, hT2, hTc, nT, by simpa using hTd⟩⟩
    have I1 : Inv X pins σ (upd H T (.tup vs)) { s with heap := h'', toks := tk } :=
      I.turnedNew (ch := wr) (fun b o hb q => fr2 b o (fun z => hb (sub b z)) (fr b o (fun z => hb (sub b z)) q)) hf hT new
    have nT : ∀ b ∈ wr, b ≠ T := fun b hb z => hTw (z ▸ hb)
    exact ⟨.ref T, _, I1, rfl, ⟨T, vs, rfl, I.hok.fresh hT, rfl, hy⟩, h2 _ _ st2, fun b hb => by rw [upd_ne (nT b hb)]; exact (hf b hb).1⟩
  done := by
    intro X hP hw hK hc i pins s σ H E I hf st hg
    obtain ⟨e1, hg⟩ := hg
    subst e1
    obtain ⟨fp, wr0, Pt, St', Mid, sub, W, h1, h2, h3⟩ := dr X hP hw hK hc pins s σ H i I (fun b hb => (hf b hb).1) st hg
    subst hP hw hK
    exact W.done s _ _ (h1 i st) fun h' tk fr => ⟨rfl, I.turnedL (ch := wr) (fun b o hb q => fr b o (fun z => hb (sub b z)) q) hf⟩
  self := self
end Kx
set_option Elab.async false
set_option linter.all false
set_option maxRecDepth 100000
set_option maxHeartbeats 2000000
namespace PySem
open Sem (wp)
/-- enumerate(v), v anything that begins -/
theorem meets_enumerate_new1B {v : Value} {o : Obj} {H : Heap → Prop} (B : Begins v o H) :
    Meets (Builtin.«enumerate.__new__» ⟨[.type "enumerate", v], []⟩) (fun _ R s => H s.heap ∧
      R (.ok (.ret (.ref (s.heap.push o).objs.size))) { s with heap := (s.heap.push o).push { cls := .type "enumerate", data := .fields #[.none, .bool false, .ref s.heap.objs.size, rawInt 0, .none, .none] } }) :=
  .of_wp fun prog w A R s h => by
    obtain ⟨hp, g, d, tk, os⟩ := s; obtain ⟨h1, h⟩ := h
    have hsub := sub_enumerate
    have q1 : ∀ {A' : Around} {E : Value → Shared → Prop} {Q : Value → Shared → Prop}, Q (.ref hp.objs.size) ⟨hp.push o, g, d, tk, os⟩ → wpAny (model prog w) A' (pyIter v) Q E ⟨hp, g, d, tk, os⟩ :=
      fun q => B.iter prog w _ _ ⟨hp, g, d, tk, os⟩ _ h1 q
    wp_walk using q1
    refine wpAny_stack_any fun st => wpAny_pure ?_
    split
    · rename_i c _ _ _ _ _
      cases (c == Value.type "enumerate")
      · wp_walk using q1
        exact ⟨_, rfl, h⟩
      · wp_walk using q1
        exact ⟨_, rfl, h⟩
    · wp_walk using q1
      exact ⟨_, rfl, h⟩
section
variable {prog : Program} {w : World} {A : Around} {E : Value → Shared → Prop} {s : Shared}
theorem enum_begins1 {v : Value} {o : Obj} {H : Heap → Prop} {Q : Value → Shared → Prop} (B : Begins v o H) (h1 : H s.heap)
    (h : ∀ h', IsEnum h' (s.heap.objs.size + 1) s.heap.objs.size 0 .none → h'.get? s.heap.objs.size = some o →
      (∀ b o, s.heap.get? b = some o → h'.get? b = some o) → Q (.ref (s.heap.objs.size + 1)) { s with heap := h' }) :
    wpAny (model prog w) A (call (.type "enumerate") [v]) Q E s := by
  refine callType_new F.called_enumerate (by decide) (F.typeCall_enumerate_1 _) (F.newCall_enumerate_1 _) (fun obj => F.args_object_init_2 obj _) F.entry_enumerate_new
    (meets_enumerate_new1B B) ⟨h1, ?_⟩
  have hz : (s.heap.push o).objs.size = s.heap.objs.size + 1 := Heap.size_push ..
  show _ ∧ _
  rw [hz]
  have he : IsEnum ((s.heap.push o).push { cls := .type "enumerate", data := .fields #[.none, .bool false, .ref s.heap.objs.size, rawInt 0, .none, .none] }) (s.heap.objs.size + 1) s.heap.objs.size 0 .none := by
    have := Heap.get?_push_size (s.heap.push o) (o := { cls := .type "enumerate", data := .fields #[.none, .bool false, .ref s.heap.objs.size, rawInt 0, .none, .none] }) rfl
    rw [hz] at this; exact this
  exact ⟨⟨_, he, rfl⟩, h _ he (Heap.get?_push_of_some _ (Heap.get?_push_size _ B.free)) fun b o x => Heap.get?_push_of_some _ (Heap.get?_push_of_some _ x)⟩
end
end PySem
namespace Kx
open PySem PySem.Spec PyProof.Rows L2
def YEn (E : Nat → V → Prop) : Nat → List V → Prop := fun i vs => ∃ y, vs = [.int (i : Nat), y] ∧ E i y
def YZ2 (E1 E2 : Nat → V → Prop) : Nat → List V → Prop := fun i vs => ∃ x y, vs = [x, y] ∧ E1 i x ∧ E2 i y
def YZ3 (E1 E2 E3 : Nat → V → Prop) : Nat → List V → Prop := fun i vs => ∃ x y z, vs = [x, y, z] ∧ E1 i x ∧ E2 i y ∧ E3 i z
theorem small3 {vs : List V} (h : vs.length ≤ 3) : vs.length ≤ sizeLine := Nat.le_trans h (by decide)
/-- enumerate(v) -/
def iEnumS (K : PySem.W.Frag) (ta : TA) : TI := fun σ H R => ta σ H fun vs H1 => ∃ x n G E, vs = [x] ∧ Src K x n G E ∧ G H1 ∧ R (ItN n G (YEn E)) H1
/-- zip(v1, v2), zip(v1, v2, v3) -/
def iZip2S (K : PySem.W.Frag) (ta : TA) : TI := fun σ H R => ta σ H fun vs H1 => ∃ x1 n1 G1 E1 x2 n2 G2 E2, vs = [x1, x2] ∧ Src K x1 n1 G1 E1 ∧ Src K x2 n2 G2 E2 ∧ G1 H1 ∧ G2 H1 ∧ R (ItN (min n1 n2) (fun H => G1 H ∧ G2 H) (YZ2 E1 E2)) H1
section
variable {X : Cx}
theorem cell_ne {h : Heap} {b : Addr} {o : Obj} (hb : h.get? b = some o) (hd : ∀ v, o.data ≠ .cell v) : ∃ o, h.get? b = some o ∧ ∀ v, o.data ≠ .cell v := ⟨o, hb, hd⟩
theorem turn_enumS {P : Program} {w : World} {K : PySem.W.Frag} {elts : List Expr} {kk : Nat} {tpos : Pos} {e it : Addr} {n : Nat} {G : Hp → Prop} {E : Nat → V → Prop} {own : Nat → Heap → Prop} {kf : List Addr} (hkf : e ∉ kf) (hne : e ≠ it) (S : SrcI P w K it n G E own kf) :
    Turn P w K (.Tuple elts kk tpos) (ItN n G (YEn E)) [e, it] e (fun i h => (∃ old, IsEnum h e it (0 + ((i : Nat) : Int)) old) ∧ own i h) := by
  refine turn_of (by simp) (fun i vs ⟨y, e, _⟩ => by rw [e]; exact small3 (by simp)) (fun i h st b hb => ?_) (fun i h h' st k => ?_) (fun X hP hw hK hc pins s σ H j I hn st hg => ?_) (fun A i s Q E st h => ?_)
  · obtain ⟨⟨old, he⟩, ho⟩ := st
    have e' : b = e ∨ b = it := by simpa using hb
    rcases e' with z | z
    · rw [z]; exact ⟨_, he, fun v q => nomatch q⟩
    · rw [z]; exact S.obj i h ho
  · obtain ⟨⟨old, he⟩, ho⟩ := st
    exact ⟨⟨old, k e (by simp) _ he⟩, S.keep i h h' ho fun o q => k it (by simp) o q⟩
  · obtain ⟨fs, Pv, Sd, D, hf, h1, h2, h3⟩ := S.dr X hP hw hK hc pins s σ H I hg (hn it (by simp))
    have hef : e ∉ it :: fs := fun hm => by
      rcases List.mem_cons.mp hm with z | z
      · exact hne z
      · rcases hf e z with ⟨o, q⟩ | q
        · rw [hn e (by simp)] at q
          cases q
        · exact hkf q
    refine ⟨_, _, _, _, _, fun b hb => hb, WalksT.enumFrom 0 D e hne hef (List.mem_cons_self ..), fun i st => ⟨st.1, h1 i st.2⟩, fun i h st => ⟨st.1, h2 i h st.2⟩, fun i vals hi hv => ?_⟩
    obtain ⟨t, x, hx, rfl⟩ := hv
    obtain ⟨v, rv, ev⟩ := h3 i x hx
    refine ⟨[.int (i : Nat), v], .cons ⟨t, ?_⟩ (.cons rv .nil), v, rfl, ev⟩
    rw [Int.zero_add]
  · obtain ⟨⟨old, he⟩, ho⟩ := st
    exact wpAny_pyIter_enum he h
theorem pi_enumS {e : Expr} {ta : TA} {p pos tpos : Pos} {elts : List Expr} {kk : Nat} (hg : Gl X "enumerate") (hm : X.mg "enumerate" = none) (ha : PA X [e] ta) (hs : starEach [e] X.env = [(false, eval e X.env)] := by rfl) :
    PI X (.Tuple elts kk tpos) (.Call (.Name "enumerate" p) [e] [] pos) (iEnumS X.K ta) := by
  refine ⟨fun pins s σ H R I h => ?_⟩
  refine Call_ (ld_blt I hg hm boot_enumerate (PyProof.Rows.callWith_type1 (thn (ha.run pos pins s σ H _ I h) fun us s1 ⟨vs, H1, I1, r1, q1⟩ => ?_) hs rfl))
  obtain ⟨x, n, G, E, ex, S, hg1, q⟩ := q1
  subst ex
  cases r1 with
  | cons r rr =>
    cases rr
    obtain ⟨o, Hs, kf, B, b1, hkf, hown⟩ := src_begins S I1 hg1 r
    have nkf : ∀ b, s1.heap.objs.size ≤ b → b ∉ kf := fun b hb hm => absurd (hkf b hm) (Nat.not_lt.mpr hb)
    obtain ⟨own, SI, hst⟩ := hown s1.heap.objs.size (nkf _ (Nat.le_refl _))
    refine enum_begins1 B b1 fun h' he hit hk => wpAny_pyIter_enum he ?_
    have I2 : Inv X pins σ H1 { s1 with heap := h' } := I1.kept (t' := s1.toks) hk
    refine ⟨s1.heap.objs.size + 1, [s1.heap.objs.size + 1, s1.heap.objs.size], _, _, H1, rfl, I2, turn_enumS (nkf _ (Nat.le_succ _)) (Nat.succ_ne_self _) SI, ⟨⟨.none, by rw [show (0 : Int) + ((0 : Nat) : Int) = 0 from rfl]; exact he⟩, hst h' hit⟩, fun b hb => ?_, q⟩
    have e' : b = s1.heap.objs.size + 1 ∨ b = s1.heap.objs.size := by simpa using hb
    have hle : s1.heap.objs.size ≤ b := by
      rcases e' with z | z
      · rw [z]; exact Nat.le_add_right _ _
      · rw [z]; exact Nat.le_refl _
    exact I1.fpOk hle (I1.hok.fresh hle)
theorem mem2 {b x y : Addr} {l : List Addr} (h : b ∈ x :: y :: l) : b = x ∨ b = y ∨ b ∈ l := by simpa using h
theorem turn_zip2S {P : Program} {w : World} {K : PySem.W.Frag} {elts : List Expr} {kk : Nat} {tpos : Pos} {z TI TO i1 i2 : Addr} {n1 n2 : Nat} {G1 G2 : Hp → Prop} {E1 E2 : Nat → V → Prop} {own1 own2 : Nat → Heap → Prop}
    {kf1 kf2 : List Addr} (hk1 : ∀ b ∈ [z, TI, TO, i1, i2], b ∉ kf1) (hk2 : ∀ b ∈ [z, TI, TO, i1, i2], b ∉ kf2) (d : [z, TI, TO, i1, i2].Nodup) (S1 : SrcI P w K i1 n1 G1 E1 own1 kf1) (S2 : SrcI P w K i2 n2 G2 E2 own2 kf2) :
    Turn P w K (.Tuple elts kk tpos) (ItN (min n1 n2) (fun H => G1 H ∧ G2 H) (YZ2 E1 E2)) [z, TI, TO, i1, i2] z
      (fun i h => IsZip h z TI TO .none ∧ IsTupOf2 h TI (.ref i1) (.ref i2) ∧ (∃ a1 a2, IsTupOf2 h TO a1 a2) ∧ own1 i h ∧ own2 i h) := by
  simp only [List.nodup_cons, List.mem_cons, List.not_mem_nil, or_false, not_or, not_false_eq_true, List.nodup_nil, and_true] at d
  obtain ⟨⟨d1, d2, d3, d4⟩, ⟨d5, d6, d7⟩, ⟨d8, d9⟩, d10⟩ := d
  refine turn_of (by simp) (fun i vs ⟨x, y, e, _⟩ => by rw [e]; exact small3 (by simp)) (fun i h st b hb => ?_) (fun i h h' st k => ?_) (fun X hP hw hK hc pins s σ H j I hn st hg => ?_) (fun A i s Q E st h => ?_)
  · obtain ⟨hz, hTI, ⟨a1, a2, hTO⟩, o1, o2⟩ := st
    have e' : b = z ∨ b = TI ∨ b = TO ∨ b = i1 ∨ b = i2 := by simpa using hb
    rcases e' with q | q | q | q | q
    · rw [q]; exact ⟨_, hz, fun v q => nomatch q⟩
    · rw [q]; exact ⟨_, hTI, fun v q => nomatch q⟩
    · rw [q]; exact ⟨_, hTO, fun v q => nomatch q⟩
    · rw [q]; exact S1.obj i h o1
    · rw [q]; exact S2.obj i h o2
  · obtain ⟨hz, hTI, ⟨a1, a2, hTO⟩, o1, o2⟩ := st
    exact ⟨k z (by simp) _ hz, k TI (by simp) _ hTI, ⟨a1, a2, k TO (by simp) _ hTO⟩, S1.keep i h h' o1 fun o q => k i1 (by simp) o q, S2.keep i h h' o2 fun o q => k i2 (by simp) o q⟩
  · obtain ⟨f1, Pv1, Sd1, D1, hf1, a1, b1, c1⟩ := S1.dr X hP hw hK hc pins s σ H I hg.1 (hn i1 (by simp))
    obtain ⟨f2, Pv2, Sd2, D2, hf2, a2, b2, c2⟩ := S2.dr X hP hw hK hc pins s σ H I hg.2 (hn i2 (by simp))
    have no : ∀ {b : Addr} {fs kf : List Addr}, b ∉ kf → H b = none → (∀ b ∈ fs, (∃ o, H b = some o) ∨ b ∈ kf) → b ∉ fs := fun {b fs kf} hk h hf hm => by
      rcases hf b hm with ⟨o, q⟩ | q
      · rw [h] at q; cases q
      · exact hk q
    have nc : ∀ {b c : Addr} {fs kf : List Addr}, b ≠ c → b ∉ kf → H b = none → (∀ b ∈ fs, (∃ o, H b = some o) ∨ b ∈ kf) → b ∉ c :: fs := fun {b c fs kf} h1 hk h2 h3 hm => (List.mem_cons.mp hm).elim h1 (no hk h2 h3)
    have SP : ZipSep2 z TI TO i1 i2 (i1 :: f1) (i2 :: f2) := {
      TIz := Ne.symm d1, TOz := Ne.symm d2, TITO := d5, TIi1 := d6, mem1 := List.mem_cons_self .., zf1 := nc d3 (hk1 z (by simp)) (hn z (by simp)) hf1, Tf1 := nc d8 (hk1 TO (by simp)) (hn TO (by simp)) hf1,
      TIi2 := d7, mem2 := List.mem_cons_self .., zf2 := nc d4 (hk2 z (by simp)) (hn z (by simp)) hf2, Tf2 := nc d9 (hk2 TO (by simp)) (hn TO (by simp)) hf2, sep1_2 := nc d10 (hk2 i1 (by simp)) (hn i1 (by simp)) hf2, sep2_1 := nc (Ne.symm d10) (hk1 i2 (by simp)) (hn i2 (by simp)) hf1 }
    refine ⟨_, _, _, _, _, (fun b hb => ?_), WalksT.zipD2 SP D1 D2, fun i st => ⟨st.1, st.2.1, st.2.2.1, a1 i st.2.2.2.1, a2 i st.2.2.2.2⟩, fun i h st => ⟨st.1, st.2.1, st.2.2.1, b1 i h st.2.2.2.1, b2 i h st.2.2.2.2⟩, fun i vals hi hv => ?_⟩
    · have e' : b = z ∨ b = TO ∨ b = i1 ∨ b = i2 := by simpa using hb
      rcases e' with q | q | q | q <;> rw [q] <;> simp
    · obtain ⟨x, y, hx, hy, rfl⟩ := hv
      obtain ⟨v1, r1, e1⟩ := c1 i x hx
      obtain ⟨v2, r2, e2⟩ := c2 i y hy
      exact ⟨[v1, v2], .cons r1 (.cons r2 .nil), v1, v2, rfl, e1, e2⟩
  · obtain ⟨hz, _⟩ := st
    exact wpAny_pyIter_zip hz h
theorem pi_zip2S {e e2 : Expr} {ta : TA} {p pos tpos : Pos} {elts : List Expr} {kk : Nat} (hg : Gl X "zip") (hm : X.mg "zip" = none) (ha : PA X [e, e2] ta)
    (hs : starEach [e, e2] X.env = (false, eval e X.env) :: starEach [e2] X.env := by rfl) (hpl : (backTo pos (starEach [e2] X.env)).any (·.1) = false := by rfl) :
    PI X (.Tuple elts kk tpos) (.Call (.Name "zip" p) [e, e2] [] pos) (iZip2S X.K ta) := by
  refine ⟨fun pins s σ H R I h => ?_⟩
  refine Call_ (ld_blt I hg hm boot_zip (PyProof.Rows.callWith_type1 (thn (ha.run pos pins s σ H _ I h) fun us s1 ⟨vs, H1, I1, r1, q1⟩ => ?_) hs hpl))
  obtain ⟨x1, n1, G1, E1, x2, n2, G2, E2, ex, S1, S2, hg1, hg2, q⟩ := q1
  subst ex
  cases r1 with
  | cons r rr =>
    cases rr with
    | cons r2 rr2 =>
      cases rr2
      obtain ⟨o1, Hs1, kf1, B1, b1, hkf1, hown1⟩ := src_begins S1 I1 hg1 r
      obtain ⟨o2, Hs2, kf2, B2, b2, hkf2, hown2⟩ := src_begins S2 I1 hg2 r2
      have nk1 : ∀ b, s1.heap.objs.size ≤ b → b ∉ kf1 := fun b hb hm => absurd (hkf1 b hm) (Nat.not_lt.mpr hb)
      have nk2 : ∀ b, s1.heap.objs.size ≤ b → b ∉ kf2 := fun b hb hm => absurd (hkf2 b hm) (Nat.not_lt.mpr hb)
      have own5 : ∀ b ∈ [s1.heap.objs.size + 4, s1.heap.objs.size + 2, s1.heap.objs.size + 3, s1.heap.objs.size, s1.heap.objs.size + 1], s1.heap.objs.size ≤ b := fun b hb => by
        have e' : b = s1.heap.objs.size + 4 ∨ b = s1.heap.objs.size + 2 ∨ b = s1.heap.objs.size + 3 ∨ b = s1.heap.objs.size ∨ b = s1.heap.objs.size + 1 := by simpa using hb
        rcases e' with q | q | q | q | q <;> (rw [q]; first | exact Nat.le_add_right _ _ | exact Nat.le_refl _)
      obtain ⟨own1, SI1, hst1⟩ := hown1 s1.heap.objs.size (nk1 _ (Nat.le_refl _))
      obtain ⟨own2, SI2, hst2⟩ := hown2 (s1.heap.objs.size + 1) (nk2 _ (Nat.le_succ _))
      refine zip_begins2 B1 B2 b1 b2 fun h' hz hTI hTO h1 h2 hsz hk => wpAny_pyIter_zip hz ?_
      have I2 : Inv X pins σ H1 { s1 with heap := h' } := I1.kept (t' := s1.toks) hk
      refine ⟨s1.heap.objs.size + 4, [s1.heap.objs.size + 4, s1.heap.objs.size + 2, s1.heap.objs.size + 3, s1.heap.objs.size, s1.heap.objs.size + 1], _, _, H1, rfl, I2, turn_zip2S (fun b hb => nk1 b (own5 b hb)) (fun b hb => nk2 b (own5 b hb)) (by simp) SI1 SI2, ⟨hz, hTI, ⟨_, _, hTO⟩, hst1 h' h1, hst2 h' h2⟩, fun b hb => ?_, q⟩
      have hle : s1.heap.objs.size ≤ b := by
        have e' : b = s1.heap.objs.size + 4 ∨ b = s1.heap.objs.size + 2 ∨ b = s1.heap.objs.size + 3 ∨ b = s1.heap.objs.size ∨ b = s1.heap.objs.size + 1 := by simpa using hb
        rcases e' with q | q | q | q | q <;> (rw [q]; first | exact Nat.le_add_right _ _ | exact Nat.le_refl _)
      exact I1.fpOk hle (I1.hok.fresh hle)
end
end Kx
set_option Elab.async false
set_option linter.all false
set_option maxRecDepth 100000
set_option maxHeartbeats 1000000
namespace Kx
open PySem PySem.Spec PyProof.Rows L2
/-! ### data -/
/-- tuples stay -/
def Tups (H H' : Hp) : Prop := ∀ b xs, H b = some (.tup xs) → H' b = some (.tup xs)
theorem Same.tups {H H' : Hp} (s : Same H H') : Tups H H' := fun b xs e => s b _ e
theorem Tups.refl (H : Hp) : Tups H H := fun _ _ h => h
theorem Tups.trans {H H1 H2 : Hp} (a : Tups H H1) (b : Tups H1 H2) : Tups H H2 := fun c o h => b c o (a c o h)
theorem tups_upd {H : Hp} {D : Addr} {o o' : HO} (e : H D = some o) (ho : ∀ xs, o ≠ .tup xs) : Tups H (upd H D o') := fun b xs hb => by
  rw [upd_ne (fun z => by rw [z, e] at hb; exact ho xs (Option.some.inj hb))]
  exact hb
theorem tups_upd_none {H : Hp} {D : Addr} {o' : HO} (e : H D = none) : Tups H (upd H D o') := fun b xs hb => by
  rw [upd_ne (ne_of_none hb e)]
  exact hb
mutual
/-- data of tuples alone -/
inductive Rt (H : Hp) : V → PyData → Prop
  | non : Rt H .non .none
  | bl (b : Bool) : Rt H (.bl b) (.bool b)
  | int (i : Int) : Rt H (.int i) (.int i)
  | str (z : Str) : Rt H (.str z) (.str z)
  | tup {a : Addr} {xs : List V} {ds : List PyData} : H a = some (.tup xs) → RtL H xs ds → Rt H (.ref a) (.tuple ds)
inductive RtL (H : Hp) : List V → List PyData → Prop
  | nil : RtL H [] []
  | cons {v : V} {vs : List V} {d : PyData} {ds : List PyData} : Rt H v d → RtL H vs ds → RtL H (v :: vs) (d :: ds)
end
mutual
/-- data as it is passed -/
inductive Rp (H : Hp) : V → PyData → Prop
  | non : Rp H .non .none
  | bl (b : Bool) : Rp H (.bl b) (.bool b)
  | int (i : Int) : Rp H (.int i) (.int i)
  | str (z : Str) : Rp H (.str z) (.str z)
  | lst {a : Addr} {xs : List V} {ds : List PyData} : H a = some (.lst xs) → RpL H xs ds → Rp H (.ref a) (.list ds)
  | tup {a : Addr} {xs : List V} {ds : List PyData} : H a = some (.tup xs) → RpL H xs ds → Rp H (.ref a) (.tuple ds)
  | dct {a : Addr} : H a = some (.dK []) → Rp H (.ref a) (.dict [])
inductive RpL (H : Hp) : List V → List PyData → Prop
  | nil : RpL H [] []
  | cons {v : V} {vs : List V} {d : PyData} {ds : List PyData} : Rp H v d → RpL H vs ds → RpL H (v :: vs) (d :: ds)
end
mutual
theorem Rt.tups {H H' : Hp} (s : Tups H H') : ∀ {v : V} {d : PyData}, Rt H v d → Rt H' v d
  | _, _, .non => .non
  | _, _, .bl b => .bl b
  | _, _, .int i => .int i
  | _, _, .str z => .str z
  | _, _, .tup e h => .tup (s _ _ e) (RtL.tups s h)
theorem RtL.tups {H H' : Hp} (s : Tups H H') : ∀ {vs : List V} {ds : List PyData}, RtL H vs ds → RtL H' vs ds
  | _, _, .nil => .nil
  | _, _, .cons h hs => .cons (Rt.tups s h) (RtL.tups s hs)
end
mutual
theorem Rp.same {H H' : Hp} (s : Same H H') : ∀ {v : V} {d : PyData}, Rp H v d → Rp H' v d
  | _, _, .non => .non
  | _, _, .bl b => .bl b
  | _, _, .int i => .int i
  | _, _, .str z => .str z
  | _, _, .lst e h => .lst (s _ _ e) (RpL.same s h)
  | _, _, .tup e h => .tup (s _ _ e) (RpL.same s h)
  | _, _, .dct e => .dct (s _ _ e)
theorem RpL.same {H H' : Hp} (s : Same H H') : ∀ {vs : List V} {ds : List PyData}, RpL H vs ds → RpL H' vs ds
  | _, _, .nil => .nil
  | _, _, .cons h hs => .cons (Rp.same s h) (RpL.same s hs)
end
mutual
theorem Rt.rp {H : Hp} : ∀ {v : V} {d : PyData}, Rt H v d → Rp H v d
  | _, _, .non => .non
  | _, _, .bl b => .bl b
  | _, _, .int i => .int i
  | _, _, .str z => .str z
  | _, _, .tup e h => .tup e (RtL.rp h)
theorem RtL.rp {H : Hp} : ∀ {vs : List V} {ds : List PyData}, RtL H vs ds → RpL H vs ds
  | _, _, .nil => .nil
  | _, _, .cons h hs => .cons (Rt.rp h) (RtL.rp hs)
end
theorem RpL.length {H : Hp} : ∀ {vs : List V} {ds : List PyData}, RpL H vs ds → vs.length = ds.length
  | _, _, .nil => rfl
  | _, _, .cons _ h => congrArg Nat.succ h.length
theorem RtL.length {H : Hp} : ∀ {vs : List V} {ds : List PyData}, RtL H vs ds → vs.length = ds.length
  | _, _, .nil => rfl
  | _, _, .cons _ h => congrArg Nat.succ h.length
theorem RpL.get {H : Hp} : ∀ {vs : List V} {ds : List PyData} {i : Nat} {v : V}, RpL H vs ds → vs[i]? = some v → ∃ d, ds[i]? = some d ∧ Rp H v d
  | _, _, 0, _, .cons h _, e => ⟨_, rfl, by cases e; exact h⟩
  | _, _, i + 1, _, .cons _ h, e => RpL.get (i := i) h e
theorem RtL.get {H : Hp} : ∀ {vs : List V} {ds : List PyData} {i : Nat} {v : V}, RtL H vs ds → vs[i]? = some v → ∃ d, ds[i]? = some d ∧ Rt H v d
  | _, _, 0, _, .cons h _, e => ⟨_, rfl, by cases e; exact h⟩
  | _, _, i + 1, _, .cons _ h, e => RtL.get (i := i) h e
theorem RtL.append {H : Hp} {v : V} {d : PyData} (h : Rt H v d) : ∀ {vs : List V} {ds : List PyData}, RtL H vs ds → RtL H (vs ++ [v]) (ds ++ [d])
  | _, _, .nil => .cons h .nil
  | _, _, .cons a b => .cons a (RtL.append h b)
/-! ### kinds of data -/
def kd : PyData → Kd
  | .none => .non | .bool _ => .bl | .int _ => .int | .str _ => .str | .list _ => .lst | .tuple _ => .tup | .dict _ => .dct
theorem Rp.ko {K : PySem.W.Frag} {H : Hp} {v : V} {d : PyData} (h : Rp H v d) : Ko K H v (kd d) := by
  cases h with
  | non => exact .base .non
  | bl b => exact .base (.bl b)
  | int i => exact .base (.int i)
  | str z => exact .base (.str z)
  | lst e _ => exact .base (.lst e)
  | tup e _ => exact .base (.tup e)
  | dct e => exact .base (.dK e)
def belowD (m : Int) : PyData → Bool
  | .int i => decide (0 ≤ i) && decide (i < m)
  | _ => false
theorem rp_below {H : Hp} {v : V} {d : PyData} (h : Rp H v d) (m : Int) : Kx.below v m = belowD m d := by
  cases h <;> rfl
/-- the items of a list or a tuple -/
def itemsD : PyData → Option (List PyData)
  | .list ds => some ds
  | .tuple ds => some ds
  | _ => none
/-! ### comprehensions that only lay new things -/
section
variable {J : It} {n : Nat} {G : Hp → Prop} {Y : Nat → Hp → V → Hp → Prop}
theorem lc_new (W : Walk J n G Y) {g : TG} {te : TE} {vs : List Nat} {σ : L2.St} {H1 : Hp} {D : Addr} {Qd : Hp → Prop} (hD : H1 D = none) (hn : n ≤ sizeLine) (Ev : Nat → Hp → V → Prop) (hE : ∀ i H H' v, Tups H H' → Ev i H v → Ev i H' v)
    (hG : ∀ H, Same H1 H → G H)
    (hs : ∀ i x H H' (Qk : VK), i < n → Same H1 H → Y i H x H' → (∀ y H4, Same H H4 → Ev i H4 y → Qk y H4) → g x (wipe σ vs) H' fun σ2 H2 => wipe σ2 vs = wipe σ vs ∧ te σ2 H2 Qk)
    (hd : ∀ H acc, Same H1 H → H D = some (.lst acc) → acc.length = n → (∀ i v, acc[i]? = some v → Ev i H v) → Qd H) :
    ∃ W : Nat → Nat → Hp → Prop, (∃ m, W 0 m (upd H1 D (.lst []))) ∧ ∀ i m H, W i m H →
      (J.stop i H ∧ Qd H) ∨ (J.go i H ∧ ∃ Nx : Hp → Prop, (∀ H', Nx H' → ∃ m', m' < m ∧ W (i + 1) m' H') ∧ ∀ x H', J.yld i H x H' → g x (wipe σ vs) H' fun σ2 H2 => wipe σ2 vs = wipe σ vs ∧ tYes σ2 H2 fun b H3 =>
        if b = true then te σ2 H3 fun y H4 => ∃ acc, H4 D = some (.lst acc) ∧ acc.length < sizeLine ∧ Nx (upd H4 D (.lst (acc ++ [y]))) else Nx H3) := by
  have up : ∀ {H : Hp} {o : HO}, Same H1 H → Same H1 (upd H D o) := fun {H o} s b u e => by
    rw [upd_ne (ne_of_none e hD)]
    exact s b u e
  refine lc_it W (tt := tYes) (fun i H => Same H1 H ∧ ∃ acc, H D = some (.lst acc) ∧ acc.length = i ∧ ∀ j v, acc[j]? = some v → Ev j H v) ⟨up (Same.refl _), [], upd_same, rfl, fun j v e => by simp at e⟩ (fun i H _ ⟨s, _⟩ => hG H s) ?_ fun H ⟨s, acc, e, l, h⟩ => hd H acc s e l h
  rintro i x H H' hi ⟨s, acc, e, l, hv⟩ y
  have q := hs i x H H' (fun y H4 => ∃ acc, H4 D = some (.lst acc) ∧ acc.length < sizeLine ∧ (Same H1 (upd H4 D (.lst (acc ++ [y]))) ∧ ∃ acc', (upd H4 D (.lst (acc ++ [y]))) D = some (.lst acc') ∧ acc'.length = i + 1 ∧ ∀ j v, acc'[j]? = some v → Ev j (upd H4 D (.lst (acc ++ [y]))) v)) hi s y
    (fun y H4 s4 ev => by
      have e4 : H4 D = some (.lst acc) := s4 _ _ e
      have tu : Tups H4 (upd H4 D (.lst (acc ++ [y]))) := tups_upd e4 fun xs z => by cases z
      refine ⟨acc, e4, by omega, up (s.trans s4), _, upd_same, by simp [l], fun j v hj => ?_⟩
      by_cases hlt : j < acc.length
      · rw [List.getElem?_append_left hlt] at hj
        exact hE j _ _ v ((Same.tups s4).trans tu) (hv j v hj)
      · rw [List.getElem?_append_right (by omega)] at hj
        have hj0 : j - acc.length = 0 := by
          cases hq : j - acc.length with
          | zero => rfl
          | succ k => rw [hq] at hj; simp at hj
        rw [hj0] at hj
        have ev' : v = y := by simpa using hj.symm
        have ej : j = i := by omega
        rw [ev', ej]
        exact hE i _ _ y tu ev)
  exact q
end
end Kx
set_option Elab.async false
set_option linter.all false
set_option maxRecDepth 100000
set_option maxHeartbeats 2000000
namespace Kx
open PySem PySem.Spec PyProof.Rows L2
/-! ### own errors: what the written part must say of a class, as a test -/
theorem clsB_ok {K : PySem.W.Frag} {C : Addr} (h : clsB K C = true) : ∃ nm q N bs bm sn sub ab col dd k0 k1 k2 k3 k5, K.lookup C = some (excClassObj nm q C N bs bm true sn sub ab col dd k0 k1 k2 k3 k5 "ValueError.__new__") ∧ PySem.HandSPX.refsVE bm = true := by
  unfold clsB at h
  split at h
  · rename_i ty od cd sl ho
    split at h
    · rename_i C' bm a0 a1 a2 a3 n a5 hm hs
      simp only [Bool.and_eq_true, decide_eq_true_eq, Bool.not_eq_true'] at h
      obtain ⟨⟨⟨⟨⟨h1, h2⟩, h3⟩, h4⟩, h5⟩, h6⟩ := h
      subst h1 h2 h3
      obtain ⟨nm, bs, mro, ns, qn, hd, sn, sb, ab, col, del⟩ := cd
      dsimp only at hm h4 h5
      subst hm h4 h5
      obtain ⟨sl⟩ := sl
      dsimp only at hs
      subst hs
      exact ⟨_, _, _, _, bm, _, _, _, _, od, a0, a1, a2, a3, a5, ho, h6⟩
    · cases h
  · cases h
end Kx
set_option Elab.async false
set_option linter.all false
set_option maxRecDepth 100000
set_option maxHeartbeats 2000000
namespace Kx
open PySem PySem.Spec PyProof.Rows L2
/-- an own error class, as it must stand -/
structure Ex (K : PySem.W.Frag) (x : Str) (fs : List Str) : Prop where
  c : OexC K (He.ga K x)
  ini : PySem.W.findIn K (.ref (He.ga K x)) "__init__" = some (some (.ref (He.ma K (He.ga K x) "__init__")))
  ty : PySem.W.typeIn K (.ref (He.ma K (He.ga K x) "__init__")) = some (.type "function")
  no : ∀ f ∈ fs, PySem.W.findIn K (.ref (He.ga K x)) f = some none
  xf : XfC K (He.ga K x)
theorem exB_ok {K : PySem.W.Frag} {x : Str} {fs : List Str} (h : exB K x fs = true) : Ex K x fs := by
  unfold exB at h
  simp only [Bool.and_eq_true, decide_eq_true_eq] at h
  obtain ⟨h1, h2, h3, h4, h5, h6, h789⟩ := h
  obtain ⟨h7, h8, h9⟩ : PySem.W.typeIn K (.ref (He.ma K (He.ga K x) "__init__")) = some (.type "function") ∧ fs.all (fun f => decide (PySem.W.findIn K (.ref (He.ga K x)) f = some none)) = true ∧ xfB K (He.ga K x) = true := by
    first | exact h789 | exact ⟨h789.1.1, h789.1.2, h789.2⟩
  exact ⟨⟨clsB_ok h1, h2, h3, h4, h5⟩, h6, h7, fun f hf => of_decide_eq_true (List.all_eq_true.mp h8 f hf), xfB_ok h9⟩
theorem ex_of {K mg} (T : Txt K mg) (i : Nat) {x : Str} {fs : List Str} (h : excl[i]? = some (x, fs) := by rfl) : Ex K x fs := by
  have e := (Bool.and_eq_true_iff.mp (Bool.and_eq_true_iff.mp T.ex).1).1
  exact exB_ok (List.all_eq_true.mp e (x, fs) (List.mem_of_getElem? h))
theorem said_of {K mg} (T : Txt K mg) (i : Nat) {x : Str} {fs : List Str} (h : excl[i]? = some (x, fs) := by rfl) : PySem.W.exmOne K (.ref (He.ga K x)) (.ref (He.ga K "SaidError")) = some true := by
  have e := (Bool.and_eq_true_iff.mp (Bool.and_eq_true_iff.mp T.ex).1).2
  exact of_decide_eq_true (List.all_eq_true.mp e x (List.mem_map.mpr ⟨(x, fs), List.mem_of_getElem? h, rfl⟩))
section
variable {X : Cx} {e : Expr} {es : List Expr} {ta : TA} {p pos : Pos}
/-- C(e, ..), where nothing is handled: an exception whose context is None -/
theorem pmk_oexN {CX : CXT} {x : Str} {C fI : Addr} {k : Nat} {fd : FuncData} {ps : List Str} {sp : Sp} (T : OexC X.K C) (iC : PySem.W.findIn X.K (.ref C) "__init__" = some (some (.ref fI))) (tI : PySem.W.typeIn X.K (.ref fI) = some (.type "function"))
    (F1 : FnOk X.prog X.w X.K X.mg X.base CX k fI fd ps sp) (hr : Room (k + 1) X.A) (hb : Binds X.K fd ps []) (hx : Passes CX X (fun _ _ _ => False)) (hg : Gl X x) (hm : X.mg x = some (.ref C)) (ha : PA X (e :: es) ta) {M : List V → Hp → XK → Prop}
    (hM : ∀ vs H1 Q, M vs H1 Q → vs.length ≤ 1000 ∧ ∀ a, H1 a = none → sp (.ref a :: vs) (upd H1 a (exo a C none)) (fun v H2 => v = .non ∧ ∃ (d : Addr) (fs : List (Str × V)), H2 a = some (exo a C (some d)) ∧ H2 d = some (exd d fs) ∧ H1 d = none ∧ Q (.ref C) (some d) (upd (del H2 a) d (.xd fs))) (fun _ _ _ => False))
    (hdb : (x == ("__debug__" : Str)) = false := by decide) (he : starEach (e :: es) X.env = (false, eval e X.env) :: starEach es X.env := by rfl) (hpl : (backTo pos (starEach es X.env)).any (·.1) = false := by rfl) :
    L2N.PMk X (.Call (.Name x p) (e :: es) [] pos) (fun σ H Q => ta σ H fun vs H1 => M vs H1 Q) := by
  intro pins s σ H Q I h
  obtain ⟨nm, q, N, bs, bm, sn, sub, ab, col, dd, k0, k1, k2, k3, k5, hC, hbm⟩ := T.cls
  refine wpAny_Call_Name_kw (ld_glob I hg hm ?_ hdb)
  refine PySem.W.callWith_K (h₀ := X.base) I.ok.mod.kin T.kC (thn (ha.run pos pins s σ H _ I h) fun us s1 hh => ?_) he hpl
  obtain ⟨vs, H1, I1, r1, hm1⟩ := hh
  obtain ⟨hz, q1⟩ := hM _ _ _ hm1
  refine ⟨I1.kIn, ?_⟩
  show wpAny _ _ (call (.ref C) us) _ _ _
  obtain ⟨hp, g, dr, tk, os⟩ := s1
  generalize ea0 : hp.objs.size + 1 = a0
  have hsz : hp.objs.size ≤ a0 := by rw [← ea0]; exact Nat.le_succ _
  have hq := q1 a0 (I1.hok.fresh hsz)
  have kk : ∀ b o, hp.get? b = some o → ((hp.push (PySem.W.kdv_tup us)).push (PySem.HandSPX.excO C hp.objs.size)).get? b = some o := fun b o z => Heap.get?_push_of_some _ (Heap.get?_push_of_some _ z)
  have hget : ((hp.push (PySem.W.kdv_tup us)).push (PySem.HandSPX.excO C hp.objs.size)).get? a0 = some (PySem.HandSPX.excO C hp.objs.size) := by
    rw [← ea0]
    heap_get
  have I2 : Inv X pins σ (upd H1 a0 (exo a0 C none)) ⟨(hp.push (PySem.W.kdv_tup us)).push (PySem.HandSPX.excO C hp.objs.size), g, dr, tk, os⟩ := I1.laid (t' := tk) kk hsz (exo_ok hget)
  have r2 : Vals (V.ref a0 :: vs) (Value.ref a0 :: us) := .cons rfl r1
  have hl : (Value.ref a0 :: us ++ []).length = ps.length := by
    rw [List.append_nil, ← F1.len _ _ _ _ hq, r2.length]
  have hus : us.length ≤ sizeLine := by
    rw [← Paired.length r1, sizeLine_eq]
    omega
  have b2 := hb _ (Value.ref a0 :: us) I2.kIn hl
  rw [List.append_nil] at b2
  subst ea0
  refine wpAny_call (PySem.HandSPX.call_own F.excBase_ValueError (fun Y => PySem.HandSPX.refsVE_contains Y bm hbm) (I1.kIn _ _ hC) (PySem.W.looks_findIn I1.kIn iC) (fun self => PySem.W.bind_fn I1.kIn self tI) hus
    (codeAny_mono (F1.run _ X.stack _ _ ⟨_, []⟩ _ _ _ (fun _ _ _ => False) (hr.make C us []) (I2.env0.make C us []) b2 r2 hq) fun r s' hq' => ?_))
  cases r with
  | error er => exact hx pins σ _ _ er s' I2 hq'
  | ok fl =>
    cases fl with
    | ret u =>
      obtain ⟨v, H2, os2, bare2, un2, hok2, rv, ev, d, fs, ea, ed, hd1, q2⟩ := hq'
      subst ev
      obtain ⟨h2, g2, d2, t2, os'⟩ := s'
      obtain ⟨t0, G, J, kG, ge, hoe, na⟩ := mk_end0 (d2 := d2) (t2 := t2) I1 hsz kk un2 hok2 os2 bare2 ea ed hd1
      exact ⟨rv, hp.objs.size + 1, _, _, ⟨G, g2, d2, t2, os'⟩, _, .ref C, some d, rfl, J, kG, ge, hoe, ⟨rfl, rfl, fun vs hv => by cases hv; rfl⟩, rfl, rfl, na, rfl, bare2, raises_own T.exC T.tyC, q2⟩
    | next => exact False.elim hq'
    | brk => exact False.elim hq'
    | cont => exact False.elim hq'
/-- self.f = e, twice at most: what an error's __init__ leaves -/
theorem heap_made {H1 : Hp} {a d : Addr} {C : Addr} {o : HO} {fs : List (Str × V)} (ha : H1 a = none) (hd : upd H1 a (exo a C none) d = none) (hne : d ≠ a) (H2 : Hp) (h2 : ∀ b, b ≠ a → b ≠ d → H2 b = H1 b) :
    upd (del H2 a) d (.xd fs) = upd H1 d (.xd fs) := by
  funext b
  by_cases hb : b = d
  · subst hb
    rw [upd_same, upd_same]
  · rw [upd_ne hb, upd_ne hb]
    by_cases hba : b = a
    · subst hba
      rw [del_same, ha]
    · rw [del_ne hba, h2 b hba hb]
end
end Kx
set_option Elab.async false
set_option linter.all false
set_option maxRecDepth 100000
set_option maxHeartbeats 2000000
namespace Kx
open PySem PySem.Spec PyProof.Rows L2
def sp_init1 (K : PySem.W.Frag) (C : Addr) (f : Str) : Sp := fun vs H Q _ => ∃ (a : Addr) (v : V), vs = [.ref a, v] ∧ OexC K C ∧ PySem.W.findIn K (.ref C) f = some none ∧ H a = some (exo a C none) ∧
  ∀ dx, H dx = none → dx ≠ a → Q .non (upd (upd H dx (exd dx [(f, v)])) a (exo a C (some dx)))
def sp_init2 (K : PySem.W.Frag) (C : Addr) (f g : Str) : Sp := fun vs H Q _ => ∃ (a : Addr) (v u : V), vs = [.ref a, v, u] ∧ OexC K C ∧ PySem.W.findIn K (.ref C) f = some none ∧ PySem.W.findIn K (.ref C) g = some none ∧ H a = some (exo a C none) ∧
  ∀ dx, H dx = none → dx ≠ a → Q .non (upd (upd (upd H dx (exd dx [(f, v)])) a (exo a C (some dx))) dx (exd dx [(g, u), (f, v)]))
section
variable {P : Program} {w : World} {K : PySem.W.Frag} {mg : Str → Option Value} {base : Heap} {C f : Addr} {fd : FuncData}
theorem ini_thing (F : FnP K "__init__" "WrongThing.__init__" s_WrongThing___init__ f fd) : FnOk P w K mg base CX0 1 f fd ["self", "thing"] (sp_init1 K C "thing") := by
  refine F.ok sc_WrongThing___init__ (fun vs H Q E h => ?_) (fun cdv A outer s H vs Q E hr h => ⟨_, PSs.nox (pss_one (ps_ost (pv 0) (pv 1))), ?_⟩)
  · obtain ⟨a, v, rfl, _⟩ := h; rfl
  · obtain ⟨a, v, rfl, T, hno, ha, q⟩ := h
    exact ⟨v, rfl, .ref a, rfl, a, C, rfl, T, hno, .inl ⟨ha, q⟩⟩
theorem ini_number (F : FnP K "__init__" "TooLong.__init__" s_TooLong___init__ f fd) : FnOk P w K mg base CX0 1 f fd ["self", "number"] (sp_init1 K C "number") := by
  refine F.ok sc_TooLong___init__ (fun vs H Q E h => ?_) (fun cdv A outer s H vs Q E hr h => ⟨_, PSs.nox (pss_one (ps_ost (pv 0) (pv 1))), ?_⟩)
  · obtain ⟨a, v, rfl, _⟩ := h; rfl
  · obtain ⟨a, v, rfl, T, hno, ha, q⟩ := h
    exact ⟨v, rfl, .ref a, rfl, a, C, rfl, T, hno, .inl ⟨ha, q⟩⟩
theorem ini_at (F : FnP K "__init__" "BadRow.__init__" s_BadRow___init__ f fd) : FnOk P w K mg base CX0 1 f fd ["self", "at"] (sp_init1 K C "at") := by
  refine F.ok sc_BadRow___init__ (fun vs H Q E h => ?_) (fun cdv A outer s H vs Q E hr h => ⟨_, PSs.nox (pss_one (ps_ost (pv 0) (pv 1))), ?_⟩)
  · obtain ⟨a, v, rfl, _⟩ := h; rfl
  · obtain ⟨a, v, rfl, T, hno, ha, q⟩ := h
    exact ⟨v, rfl, .ref a, rfl, a, C, rfl, T, hno, .inl ⟨ha, q⟩⟩
end
/-! ### raising -/
section
variable {X : Cx} {e : Expr} {es : List Expr} {ta : TA} {p pos pos2 : Pos} {W : WX} {k : Nat} {x f g : Str} {ps : List Str} {fd : FuncData}
/-- what an error's making is worth: at every new d its own dict -/
def tRaise1 (C : Addr) (f : Str) (W : WX) (ta : TA) : TS := fun _ σ H => ta σ H fun vs H1 => ∃ v, vs = [v] ∧ ∀ d, H1 d = none → W (.ref C) (some d) σ (upd H1 d (.xd [(f, v)]))
def tRaise2 (C : Addr) (f g : Str) (W : WX) (ta : TA) : TS := fun _ σ H => ta σ H fun vs H1 => ∃ v u, vs = [v, u] ∧ ∀ d, H1 d = none → W (.ref C) (some d) σ (upd H1 d (.xd [(g, u), (f, v)]))
theorem ps_raise1 {fs : List Str} (T : Ex X.K x fs) (hf : f ∈ fs) (hc : X.calm = true) (F1 : FnOk X.prog X.w X.K X.mg X.base CX0 1 (He.ma X.K (He.ga X.K x) "__init__") fd ps (sp_init1 X.K (He.ga X.K x) f)) (hb : Binds X.K fd ps []) (hr : Room 2 X.A) (tk : L2N.Takes X W)
    (hm : X.mg x = some (.ref (He.ga X.K x))) (ha : PA X (e :: es) ta) (hg : Gl X x := by rfl) (hdb : (x == ("__debug__" : Str)) = false := by decide) (he : starEach (e :: es) X.env = (false, eval e X.env) :: starEach es X.env := by rfl)
    (hpl : (backTo pos (starEach es X.env)).any (·.1) = false := by rfl) : PS X (.Raise (some (.Call (.Name x p) (e :: es) [] pos)) none pos2) (tRaise1 (He.ga X.K x) f W ta) := by
  refine L2N.ps_raise hc tk (pmk_oexN T.c T.ini T.ty F1 hr hb pass0 hg hm ha (M := fun vs H1 Q => ∃ v, vs = [v] ∧ ∀ d, H1 d = none → Q (.ref (He.ga X.K x)) (some d) (upd H1 d (.xd [(f, v)]))) (fun vs H1 Q hM => ?_) hdb he hpl)
  obtain ⟨v, rfl, q⟩ := hM
  refine ⟨(by show 1 ≤ 1000; decide), fun a na => ⟨a, v, rfl, T.c, T.no f hf, upd_same, fun dx nx ne => ⟨rfl, dx, [(f, v)], upd_same, ?_, ?_, ?_⟩⟩⟩
  · rw [upd_ne ne, upd_same]
  · rw [upd_ne ne] at nx; exact nx
  · have nx' : H1 dx = none := by rw [upd_ne ne] at nx; exact nx
    rw [heap_made (o := exo a (He.ga X.K x) none) na nx ne _ fun b hb hd => by rw [upd_ne hb, upd_ne hd, upd_ne hb]]
    exact q dx nx'
theorem ps_raise2 {fs : List Str} (T : Ex X.K x fs) (hf : f ∈ fs) (hgm : g ∈ fs) (hc : X.calm = true) (F1 : FnOk X.prog X.w X.K X.mg X.base CX0 1 (He.ma X.K (He.ga X.K x) "__init__") fd ps (sp_init2 X.K (He.ga X.K x) f g)) (hb : Binds X.K fd ps []) (hr : Room 2 X.A) (tk : L2N.Takes X W)
    (hm : X.mg x = some (.ref (He.ga X.K x))) (ha : PA X (e :: es) ta) (hg : Gl X x := by rfl) (hdb : (x == ("__debug__" : Str)) = false := by decide) (he : starEach (e :: es) X.env = (false, eval e X.env) :: starEach es X.env := by rfl)
    (hpl : (backTo pos (starEach es X.env)).any (·.1) = false := by rfl) : PS X (.Raise (some (.Call (.Name x p) (e :: es) [] pos)) none pos2) (tRaise2 (He.ga X.K x) f g W ta) := by
  refine L2N.ps_raise hc tk (pmk_oexN T.c T.ini T.ty F1 hr hb pass0 hg hm ha (M := fun vs H1 Q => ∃ v u, vs = [v, u] ∧ ∀ d, H1 d = none → Q (.ref (He.ga X.K x)) (some d) (upd H1 d (.xd [(g, u), (f, v)]))) (fun vs H1 Q hM => ?_) hdb he hpl)
  obtain ⟨v, u, rfl, q⟩ := hM
  refine ⟨(by show 2 ≤ 1000; decide), fun a na => ⟨a, v, u, rfl, T.c, T.no f hf, T.no g hgm, upd_same, fun dx nx ne => ⟨rfl, dx, [(g, u), (f, v)], ?_, upd_same, ?_, ?_⟩⟩⟩
  · rw [upd_ne (Ne.symm ne), upd_same]
  · rw [upd_ne ne] at nx; exact nx
  · have nx' : H1 dx = none := by rw [upd_ne ne] at nx; exact nx
    rw [heap_made (o := exo a (He.ga X.K x) none) na nx ne _ fun b hb hd => by rw [upd_ne hd, upd_ne hb, upd_ne hd, upd_ne hb]]
    exact q dx nx'
end
end Kx
set_option Elab.async false
set_option linter.all false
set_option maxRecDepth 100000
set_option maxHeartbeats 2000000
namespace Kx
open PySem PySem.Spec PyProof.Rows L2
theorem b_all : bootBuiltins "all" = some (.builtin "all") := by decide +kernel
theorem itemsD_kd {d : PyData} (h : (kd d == .lst || kd d == .tup) = true) : ∃ ds, itemsD d = some ds := by
  cases d <;> first | exact ⟨_, rfl⟩ | (exact Bool.noConfusion h)
theorem itemsD_none {d : PyData} (h : (kd d == .lst || kd d == .tup) = false) : itemsD d = none := by
  cases d <;> first | rfl | (exact Bool.noConfusion h)
/-- the first that is not so -/
def firstBad (p : PyData → Bool) : List PyData → Int → Option Int
  | [], _ => none
  | d :: ds, k => if p d then firstBad p ds (k + 1) else some k
/-- the sequence that stands there -/
theorem rp_seq {H : Hp} {v : V} {d : PyData} {ds : List PyData} (h : Rp H v d) (e : itemsD d = some ds) : ∃ a xs, v = .ref a ∧ RpL H xs ds ∧ (H a = some (.lst xs) ∨ H a = some (.tup xs)) := by
  cases h with
  | lst e1 h1 => cases e; exact ⟨_, _, rfl, h1, .inl e1⟩
  | tup e1 h1 => cases e; exact ⟨_, _, rfl, h1, .inr e1⟩
  | _ => cases e
theorem lenV_seq {K : PySem.W.Frag} {H : Hp} {a : Addr} {xs : List V} (h : H a = some (.lst xs) ∨ H a = some (.tup xs)) : LenV K (.ref a) H xs.length := by
  rcases h with h | h
  · exact .inl ⟨xs, SqL.of h, rfl⟩
  · exact .inr ⟨xs, SqT.of h, rfl⟩
theorem src_seq {K : PySem.W.Frag} {H : Hp} {a : Addr} {xs : List V} (h : H a = some (.lst xs) ∨ H a = some (.tup xs)) : ∃ G, Src K (.ref a) xs.length G (fun i v => xs[i]? = some v) ∧ G H ∧ ∀ H', Same H H' → G H' := by
  rcases h with h | h
  · exact ⟨_, .lst a xs, h, fun H' s => s _ _ h⟩
  · exact ⟨_, .tup a xs, h, fun H' s => s _ _ h⟩
theorem lenV_str {K : PySem.W.Frag} {H : Hp} {z : Str} (h : z.length ≤ 100000) : LenV K (.str z) H z.length := ⟨Nat.le_trans h (by decide), rfl⟩
theorem dec_int (i j : Int) : decide (V.int i = V.int j) = decide (i = j) := by
  by_cases h : i = j
  · rw [h]; simp
  · simp [h]
end Kx
set_option Elab.async false
set_option linter.all false
set_option maxRecDepth 100000
set_option maxHeartbeats 2000000
namespace Kx
open PySem PySem.Spec PyProof.Rows L2
theorem cut1 (z : Str) : (cutS z (some 1) none).cps.toList = z.cps.toList.drop 1 := by
  unfold cutS
  have hz : z.cps.toList.length = z.length := Array.length_toList
  have e1 : HT.sIx z.length 0 (some 1) = min 1 z.length := by
    unfold HT.sIx
    simp
    try omega
  have e2 : HT.sIx z.length z.length none = z.length := rfl
  rw [e1, e2]
  show ((z.cps.toList.drop (min 1 z.length)).take (z.length - min 1 z.length)) = _
  rw [List.take_of_length_le (by rw [List.length_drop, hz]; exact Nat.le_refl _)]
  by_cases h : 1 ≤ z.length
  · rw [Nat.min_eq_left h]
  · have : z.length = 0 := by omega
    have hl : z.cps.toList = [] := List.length_eq_zero_iff.mp (by rw [hz]; exact this)
    rw [hl]
    simp
/-! ### alphabets -/
def lettersL : List Nat := ("abcdefgh" : Str).cps.toList
def ascL (l : List Nat) : Bool := (l.zip (l.drop 1)).all fun p => decide ([p.1] < [p.2])
def alphaL (l : List Nat) : Bool := decide (1 ≤ l.length ∧ l.length ≤ 8) && (l.all (fun c => decide (c ∈ lettersL)) && ascL l)
def alphaD : PyData → Bool
  | .str z => alphaL z.cps.toList
  | _ => false
/-- a text that is passed is not very long -/
def smallT (d : PyData) : Prop := ∀ z, d = .str z → z.length ≤ 100000
theorem len_abc : ("abcdefgh" : Str).length = 8 := by decide +kernel
section
variable {P : Program} {w : World} {K : PySem.W.Frag} {mg : Str → Option Value} {base : Heap}
def sp_is_alphabet : Sp := fun vs H Q _ => ∃ (v : V) (d : PyData), vs = [v] ∧ Rp H v d ∧ smallT d ∧ ∀ H', Same H H' → Q (.bl (alphaD d)) H'
theorem kd_str {d : PyData} (h : (kd d).is "str" = true) : ∃ z, d = .str z := by
  cases d <;> first | exact ⟨_, rfl⟩ | (exact Bool.noConfusion h)
theorem kd_nstr {d : PyData} (h : (kd d).is "str" = false) : alphaD d = false := by
  cases d <;> first | rfl | (exact Bool.noConfusion h)
/-- a list of bools that was just made is what all is asked of -/
theorem bls_of {acc : List V} {bs : List Bool} (hl : acc.length = bs.length) (h : ∀ (i : Nat) (v : V), acc[i]? = some v → ∀ b, bs[i]? = some b → v = .bl b) : acc = bs.map V.bl := by
  apply List.ext_getElem?
  intro i
  by_cases hi : i < bs.length
  · have h1 : acc[i]? = some (acc[i]'(by omega)) := List.getElem?_eq_getElem (by omega)
    rw [h1, h i _ h1 bs[i] (List.getElem?_eq_getElem hi)]
    simp [hi]
  · rw [List.getElem?_eq_none (by omega), List.getElem?_eq_none (by simp; omega)]
theorem ok_is_alphabet (T : Txt K mg) : Cal P w K mg base CX0 1 "is_alphabet" ["thing"] sp_is_alphabet := by
  obtain ⟨fd, F⟩ := F_is_alphabet T
  obtain ⟨t8, h8⟩ := T.s_LETTERS
  refine cal_mk F (g_is_alphabet T) sc_is_alphabet (fun _ _ _ _ _ _ us hl => match us, hl with | [_], _ => rfl) (fun vs H Q E h => ?_) (fun cdv A outer s H vs Q E hr h => ?_)
  · obtain ⟨v, d, rfl, _⟩ := h; rfl
  · refine ⟨_, PSs.nox (pss_cons (ps_if (PW.pt (pw_or (pt_not (pt_val (pe_callB call_isB (by rfl) (fr_isinstance T) b_isinstance (pa_cons (pv 0) (pa_cons (pe_ty (fr_str T) b_str) pa_nil)))))
        (pw_or1 (pt_not (pt_chain op_le op_le pe_int (pe_callB call_len (by rfl) (fr_len T) boot_len (pa_cons (pv 0) pa_nil)) (pe_callB call_len (by rfl) (fr_len T) boot_len (pa_cons (pe_glob (v := .str "abcdefgh") (by rfl) h8 ⟨t8, rfl⟩) pa_nil))))))) (pss_one (ps_ret pe_bl)) pss_nil)
      (pss_cons (ps_set (i := 1) sc_is_alphabet.nd rfl (Or.inl rfl) (pe_callB (cr_all rfl) (by rfl) (fr_all T) b_all (pa_cons (pe_lc (own := [("letter", 2)]) (g := gName 2) (tt := tYes) rfl sc_is_alphabet.nd (pi_str (pv 0)) (blkOk_by (N := N_is_alphabet) (sc := defScope s_is_alphabet) (by decide +kernel))
        (fun _ _ _ _ _ => pg_name (i := 2) sc_is_alphabet.nd rfl (Or.inl rfl)) (fun _ _ _ _ _ => pts_nil) (fun _ _ _ _ _ => pe_cmpR op_in_sign (pv 2) (pe_glob (v := .str "abcdefgh") (by rfl) h8 ⟨t8, rfl⟩) rfl)) pa_nil)))
      (pss_one (ps_ret (pe_and (pv 1) (pe_one (pe_callB (cr_all rfl) (by rfl) (fr_all T) b_all (pa_cons (pe_lc (own := [("one", 3), ("other", 4)]) (g := gTup K 2 (gCons (gName 3) (gCons (gName 4) gNil))) (tt := tYes) rfl sc_is_alphabet.nd
        (pi_zip2S (by rfl) (fr_zip T) (pa_cons (pv 0) (pa_cons (pe_slice sl_str (pv 0) (po_some pe_int) po_none) pa_nil))) (blkOk_by (N := N_is_alphabet) (sc := defScope s_is_alphabet) (by decide +kernel))
        (fun _ _ _ _ _ => by exact pg_tup rfl (pgs_cons (pg_name (i := 3) sc_is_alphabet.nd rfl (Or.inl rfl)) (pgs_cons (pg_name (i := 4) sc_is_alphabet.nd rfl (Or.inl rfl)) pgs_nil))) (fun _ _ _ _ _ => pts_nil) (fun _ _ _ _ _ => pe_cmpR op_lt_str (pv 3) (pv 4) (nomark _))) pa_nil)))))))), ?_⟩
    obtain ⟨v, d, rfl, rd, sm, q⟩ := h
    refine ⟨v, rfl, v, "str", kd d, rfl, rd.ko, k_str _, _, rfl, ?_⟩
    cases hb : (kd d).is "str" with
    | false =>
      refine iteT (iteT ?_)
      rw [kd_nstr hb] at q
      exact q H (Same.refl H)
    | true =>
      refine iteF ?_
      obtain ⟨z, rfl⟩ := kd_str hb
      cases rd
      have hz : z.cps.toList.length = z.length := Array.length_toList
      have hzs : z.length ≤ 100000 := sm z rfl
      have hal : ¬ (1 ≤ z.length ∧ z.length ≤ 8) → alphaD (.str z) = false := fun hn => by
        show alphaL z.cps.toList = false
        unfold alphaL
        rw [hz, decide_eq_false hn, Bool.false_and]
      refine ⟨.str z, rfl, _, _, rfl, lenV_str hzs, 1, _, rfl, rfl, _, rfl, ?_⟩
      by_cases h1 : (1 : Int) ≤ (z.length : Int)
      · rw [decide_eq_true h1]
        refine iteT ⟨.str "abcdefgh", 8, rfl, ⟨by decide, len_abc.symm⟩, _, _, rfl, rfl, _, rfl, ?_⟩
        by_cases h2 : (z.length : Int) ≤ ((8 : Nat) : Int)
        · rw [decide_eq_true h2]
          refine iteF ?_
          refine ⟨.str z, rfl, z, rfl, fun D hD => ?_⟩
          refine lc_new walk_str hD (Nat.le_trans (by show z.length ≤ 100000; exact hzs) (by decide)) (fun (i : Nat) _ v => ∀ c, z.cps.toList[i]? = some c → v = V.bl (decide (c ∈ lettersL))) (fun _ _ _ _ _ h => h) (fun _ _ => trivial)
            (fun i x H2 H3 Qk hi sH hy hk => ?_) (fun H2 acc s2 hD2 hl hv => ?_)
          · obtain ⟨e, c, hc, rfl⟩ := hy
            subst e
            refine ⟨rfl, .str ⟨#[c]⟩, rfl, c, "abcdefgh", rfl, rfl, hk _ _ (Same.refl _) fun c' hc' => ?_⟩
            rw [Array.getElem?_toList, hc] at hc'
            cases hc'
            rfl
          · have ea : acc = (z.cps.toList.map fun c => decide (c ∈ lettersL)).map V.bl := by
              refine bls_of (by rw [List.length_map, hz]; exact hl) fun i v hi b hb => ?_
              rw [List.getElem?_map] at hb
              cases hc : z.cps.toList[i]? with
              | none => rw [hc] at hb; cases hb
              | some c =>
                rw [hc] at hb
                cases hb
                exact hv i v hi c hc
            refine ⟨D, _, rfl, SqL.of (by rw [hD2, ea]), ?_⟩
            refine ⟨_, rfl, _, rfl, ?_⟩
            have hmain : alphaD (.str z) = ((z.cps.toList.map fun c => decide (c ∈ lettersL)).all id && ascL z.cps.toList) := by
              show alphaL z.cps.toList = _
              unfold alphaL
              have hn : 1 ≤ z.length ∧ z.length ≤ 8 := by omega
              rw [hz, decide_eq_true hn, Bool.true_and, List.all_map]
              rfl
            cases hk1 : (z.cps.toList.map fun c => decide (c ∈ lettersL)).all id with
            | false =>
              refine iteF ?_
              rw [hmain, hk1, Bool.false_and] at q
              exact q H2 s2
            | true =>
              refine iteT ?_
              rw [hmain, hk1, Bool.true_and] at q
              refine ⟨.str z, rfl, .str z, rfl, 1, rfl, z, rfl, Nat.le_trans hzs (by decide), .str z, _, _, _, .str (cutS z (some 1) none), _, _, _, rfl, .txt z, .txt _, trivial, trivial, fun D2 hD3 => ?_⟩
              have hz2 : (cutS z (some 1) none).cps.size = z.length - 1 := by
                rw [← Array.length_toList, cut1, List.length_drop, hz]
              have hmin : min z.cps.size (cutS z (some 1) none).cps.size = z.length - 1 := by
                rw [hz2]
                show min z.length (z.length - 1) = z.length - 1
                omega
              refine lc_new (walk_new (n := min z.cps.size (cutS z (some 1) none).cps.size)) hD3 (by rw [hmin]; exact Nat.le_trans (Nat.sub_le _ _) (Nat.le_trans hzs (by decide)))
                (fun (i : Nat) _ v => ∀ c d, z.cps.toList[i]? = some c → (z.cps.toList.drop 1)[i]? = some d → v = V.bl (decide ([c] < [d]))) (fun _ _ _ _ _ h => h) (fun _ _ => ⟨trivial, trivial⟩)
                (fun i x H3 H4 Qk hi sH hy hk => ?_) (fun H3 acc2 s3 hD4 hl2 hv2 => ?_)
              · obtain ⟨Tt, vs, rfl, hTn, rfl, a, b, rfl, ⟨c, hc, rfl⟩, ⟨d, hd, rfl⟩⟩ := hy
                have s4 : Same H3 (upd H3 Tt (.tup [.str ⟨#[c]⟩, .str ⟨#[d]⟩])) := fun b o e => by rw [upd_ne (ne_of_none e hTn)]; exact e
                refine ⟨Tt, _, rfl, SqT.of upd_same, rfl, _, _, rfl, _, _, rfl, rfl, rfl, _, rfl, _, rfl, ⟨#[c]⟩, ⟨#[d]⟩, rfl, rfl, hk _ _ s4 fun c' d' hc' hd' => ?_⟩
                rw [Array.getElem?_toList, hc] at hc'
                rw [← cut1, Array.getElem?_toList, hd] at hd'
                cases hc'
                cases hd'
                rfl
              · have ea2 : acc2 = ((z.cps.toList.zip (z.cps.toList.drop 1)).map fun p => decide ([p.1] < [p.2])).map V.bl := by
                  refine bls_of (by rw [List.length_map, List.length_zip, List.length_drop, hz, hl2, hmin]; omega) fun i v hi b hb => ?_
                  rw [List.getElem?_map] at hb
                  cases hp : (z.cps.toList.zip (z.cps.toList.drop 1))[i]? with
                  | none => rw [hp] at hb; cases hb
                  | some p =>
                    rw [hp] at hb
                    cases hb
                    obtain ⟨h5, h6⟩ := List.getElem?_zip_eq_some.mp hp
                    exact hv2 i v hi _ _ h5 h6
                refine ⟨D2, _, rfl, SqL.of (by rw [hD4, ea2]), ?_⟩
                have e5 : ((z.cps.toList.zip (z.cps.toList.drop 1)).map fun p => decide ([p.1] < [p.2])).all id = ascL z.cps.toList := by
                  unfold ascL
                  rw [List.all_map]
                  rfl
                rw [e5]
                exact q H3 (s2.trans s3)
        · rw [decide_eq_false h2]
          refine iteT ?_
          rw [hal (by omega)] at q
          exact q H (Same.refl H)
      · rw [decide_eq_false h1]
        refine iteF ⟨_, rfl, ?_⟩
        refine iteT ?_
        rw [hal (by omega)] at q
        exact q H (Same.refl H)
end
end Kx
set_option Elab.async false
set_option linter.all false
set_option maxRecDepth 100000
set_option maxHeartbeats 2000000
namespace Kx
open PySem PySem.Spec PyProof.Rows L2
/-- a one-field error, at every new own dict -/
def errAt (C : Addr) (f : Str) (v : V) (H : Hp) (E : XK) : Prop := ∀ H', Same H H' → ∀ dx, H' dx = none → E (.ref C) (some dx) (upd H' dx (.xd [(f, v)]))
section
variable {P : Program} {w : World} {K : PySem.W.Frag} {mg : Str → Option Value} {base : Heap}
def sp_check_alphabet (K : PySem.W.Frag) : Sp := fun vs H Q E => ∃ (v : V) (d : PyData), vs = [v] ∧ Rp H v d ∧ smallT d ∧ (alphaD d = false → errAt (He.ga K "BadAlphabet") "thing" v H E) ∧ (alphaD d = true → ∀ H', Same H H' → Q .non H')
theorem ok_check_alphabet (T : Txt K mg) : Cal P w K mg base (L2N.CX P w) 3 "check_alphabet" ["thing"] (sp_check_alphabet K) := by
  obtain ⟨fd, F⟩ := F_check_alphabet T
  obtain ⟨fdR, FR⟩ := F_BadAlphabet___init__ T
  have bR : Binds K fdR ["self", "thing"] [] := FR.bindsN fun _ _ _ _ _ _ us hl => match us, hl with | [_, _], _ => rfl
  have ex : Ex K "BadAlphabet" ["thing"] := ex_of T 0
  refine cal_mk F (g_check_alphabet T) sc_check_alphabet (fun _ _ _ _ _ _ us hl => match us, hl with | [_], _ => rfl) (fun vs H Q E h => ?_) (fun cdv A outer s H vs Q E hr h => ?_)
  · obtain ⟨v, d, rfl, _⟩ := h; rfl
  · refine ⟨_, pss_one (ps_if (pt_not (pt_val (pe_cal (ok_is_alphabet T) (hr.mono (by decide)) pass0 (pa_cons (pv 0) pa_nil))))
      (pss_one (ps_raise1 ex (f := "thing") (by decide) rfl (ini_thing FR) bR hr (L2N.takes_of rfl rfl rfl rfl) (g_BadAlphabet T) (pa_cons (pv 0) pa_nil))) pss_nil), ?_⟩
    obtain ⟨v, d, rfl, rd, sm, kE, kQ⟩ := h
    refine ⟨v, rfl, v, d, rfl, rd, sm, fun H1 s1 => ⟨_, rfl, ?_⟩⟩
    cases hb : alphaD d with
    | false => exact iteT ⟨v, rfl, v, rfl, fun dx hd => kE hb H1 s1 dx hd⟩
    | true => exact iteF (kQ hb H1 s1)
end
end Kx
set_option Elab.async false
set_option linter.all false
set_option maxRecDepth 100000
set_option maxHeartbeats 2000000
namespace Kx
open PySem PySem.Spec PyProof.Rows L2
section
variable {P : Program} {w : World} {K : PySem.W.Frag} {mg : Str → Option Value} {base : Heap}
def firstNot (al : List Nat) : List Nat → Nat → Option Int
  | [], _ => none
  | c :: cs, k => if c ∈ al then firstNot al cs (k + 1) else some (k : Nat)
def wrongL (al : List Nat) : PyData → Option Int
  | .str z => if z.length ≤ 200 then firstNot al z.cps.toList 0 else some (-1)
  | _ => some (-1)
theorem firstNot_at {al : List Nat} : ∀ {cs : List Nat} {k i c : Nat}, cs[i]? = some c → (∀ j x, j < i → cs[j]? = some x → x ∈ al) → c ∉ al → firstNot al cs k = some ((k + i : Nat) : Int)
  | [], _, i, _, h, _, _ => by simp at h
  | d :: cs, k, 0, x, h, _, hp => by
    have e : d = x := by simpa using h
    unfold firstNot
    rw [e, if_neg hp]
    rfl
  | d :: cs, k, i + 1, x, h, ha, hp => by
    have h0 := ha 0 d (Nat.succ_pos _) rfl
    unfold firstNot
    rw [if_pos h0, firstNot_at (k := k + 1) (i := i) (by simpa using h) (fun j y hj hy => ha (j + 1) y (by omega) (by simpa using hy)) hp]
    congr 2
    omega
theorem firstNot_none {al : List Nat} : ∀ {cs : List Nat} {k : Nat}, (∀ (j : Nat) x, cs[j]? = some x → x ∈ al) → firstNot al cs k = none
  | [], _, _ => rfl
  | d :: cs, k, h => by
    unfold firstNot
    rw [if_pos (h 0 d rfl)]
    exact firstNot_none fun j y hy => h (j + 1) y (by simpa using hy)
def optV : Option Int → V
  | none => .non
  | some k => .int k
def sp_wrong_at : Sp := fun vs H Q _ => ∃ (al : Str) (v : V) (d : PyData), vs = [.str al, v] ∧ Rp H v d ∧ smallT d ∧ ∀ H', Same H H' → Q (optV (wrongL al.cps.toList d)) H'
theorem kd_nstr3 {d : PyData} {al : List Nat} (h : (kd d).is "str" = false) : wrongL al d = some (-1) := by
  cases d <;> first | rfl | (exact Bool.noConfusion h)
theorem ok_wrong_at (T : Txt K mg) : Cal P w K mg base CX0 1 "wrong_at" ["alphabet", "thing"] sp_wrong_at := by
  obtain ⟨fd, F⟩ := F_wrong_at T
  obtain ⟨t2, h200⟩ := T.i_MOST_LETTERS
  refine cal_mk F (g_wrong_at T) sc_wrong_at (fun _ _ _ _ _ _ us hl => match us, hl with | [_, _], _ => rfl) (fun vs H Q E h => ?_) (fun cdv A outer s H vs Q E hr h => ?_)
  · obtain ⟨al, v, d, rfl, _⟩ := h; rfl
  · refine ⟨_, PSs.nox (pss_cons (ps_if (PW.pt (pw_or (pt_not (pt_val (pe_callB call_isB (by rfl) (fr_isinstance T) b_isinstance (pa_cons (pv 1) (pa_cons (pe_ty (fr_str T) b_str) pa_nil)))))
        (pw_or1 (pt_cmpR op_gt (pe_callB call_len (by rfl) (fr_len T) boot_len (pa_cons (pv 1) pa_nil)) (pe_glob (v := .int 200) (by rfl) h200 ⟨t2, rfl⟩) (nomark _))))) (pss_one (ps_ret (pe_un un_neg pe_int))) pss_nil)
      (pss_cons (ps_for PassesOwn.never rfl (pi_enumS (by rfl) (fr_enumerate T) (pa_cons (pv 1) pa_nil)) (pg_tup rfl (pgs_cons (pg_name (i := 2) sc_wrong_at.nd rfl (Or.inl rfl)) (pgs_cons (pg_name (i := 3) sc_wrong_at.nd rfl (Or.inl rfl)) pgs_nil)))
        (pss_one (ps_if (pt_cmpR op_notIn_sign (pv 3) (pv 0) rfl) (pss_one (ps_ret (pv 2))) pss_nil)))
      (pss_one (ps_ret pe_non)))), ?_⟩
    obtain ⟨al, v, d, rfl, rd, sm, q⟩ := h
    refine ⟨v, rfl, v, "str", kd d, rfl, rd.ko, k_str _, _, rfl, ?_⟩
    cases hb : (kd d).is "str" with
    | false =>
      refine iteT (iteT ?_)
      rw [kd_nstr3 hb] at q
      exact ⟨1, rfl, q H (Same.refl H)⟩
    | true =>
      refine iteF ?_
      obtain ⟨z, rfl⟩ := kd_str hb
      cases rd
      have hz : z.cps.toList.length = z.length := Array.length_toList
      refine ⟨.str z, rfl, _, _, rfl, lenV_str (sm z rfl), _, 200, rfl, rfl, _, rfl, ?_⟩
      by_cases h1 : (z.length : Int) > 200
      · rw [decide_eq_true h1]
        refine iteT ⟨1, rfl, ?_⟩
        have e : wrongL al.cps.toList (.str z) = some (-1) := if_neg (by omega)
        rw [e] at q
        exact q H (Same.refl H)
      · rw [decide_eq_false h1]
        refine iteF ?_
        have e : wrongL al.cps.toList (.str z) = firstNot al.cps.toList z.cps.toList 0 := if_pos (by omega)
        rw [e] at q
        refine ⟨_, rfl, .str z, _, _, _, rfl, .txt z, trivial, for_it walk_new (fun i σ H2 => ∃ (v2 v3 : Option V), σ = [some (.str al), some (.str z), v2, v3] ∧ Same H H2 ∧ ∀ (j : Nat) x, j < i → z.cps.toList[j]? = some x → x ∈ al.cps.toList)
          ⟨none, none, rfl, Same.refl H, fun j x hj => absurd hj (Nat.not_lt_zero _)⟩ (fun _ _ _ _ _ => trivial) ?_ ?_⟩
        · rintro i x σ H2 H3 hi ⟨v2, v3, rfl, s2, hall⟩ ⟨Tt, vs, rfl, hTn, rfl, y, rfl, c, hc, rfl⟩
          have s4 : Same H2 (upd H2 Tt (.tup [.int (i : Nat), .str ⟨#[c]⟩])) := fun b o e => by rw [upd_ne (ne_of_none e hTn)]; exact e
          have hc' : z.cps.toList[i]? = some c := by rw [Array.getElem?_toList]; exact hc
          refine ⟨Tt, _, rfl, SqT.of upd_same, rfl, _, _, rfl, _, _, rfl, rfl, .str ⟨#[c]⟩, rfl, .str al, rfl, c, al, rfl, rfl, _, rfl, ?_⟩
          by_cases hm : c ∈ al.cps.toList
          · rw [decide_eq_true hm]
            refine iteF ⟨_, _, rfl, s2.trans s4, fun j x hj hx => ?_⟩
            by_cases hji : j < i
            · exact hall j x hji hx
            · have : j = i := by omega
              subst this
              rw [hc'] at hx
              cases hx
              exact hm
          · rw [decide_eq_false hm]
            refine iteT ⟨.int (i : Nat), rfl, ?_⟩
            rw [firstNot_at hc' hall hm, Nat.zero_add] at q
            exact q _ (s2.trans s4)
        · rintro σ H2 ⟨v2, v3, rfl, s2, hall⟩
          rw [firstNot_none fun j x hx => hall j x (by rw [← Array.length_toList]; exact (List.getElem?_eq_some_iff.mp hx).1) hx] at q
          exact q H2 s2
def sp_check_row (K : PySem.W.Frag) : Sp := fun vs H Q E => ∃ (al : Str) (v : V) (d : PyData), vs = [.str al, v] ∧ Rp H v d ∧ smallT d ∧ (∀ k, wrongL al.cps.toList d = some k → errAt (He.ga K "BadRow") "at" (.int k) H E) ∧ (wrongL al.cps.toList d = none → ∀ H', Same H H' → Q .non H')
theorem ok_check_row (T : Txt K mg) : Cal P w K mg base (L2N.CX P w) 3 "check_row" ["alphabet", "thing"] (sp_check_row K) := by
  obtain ⟨fd, F⟩ := F_check_row T
  obtain ⟨fdR, FR⟩ := F_BadRow___init__ T
  have bR : Binds K fdR ["self", "at"] [] := FR.bindsN fun _ _ _ _ _ _ us hl => match us, hl with | [_, _], _ => rfl
  have ex : Ex K "BadRow" ["at"] := ex_of T 1
  refine cal_mk F (g_check_row T) sc_check_row (fun _ _ _ _ _ _ us hl => match us, hl with | [_, _], _ => rfl) (fun vs H Q E h => ?_) (fun cdv A outer s H vs Q E hr h => ?_)
  · obtain ⟨al, v, d, rfl, _⟩ := h; rfl
  · refine ⟨_, pss_cons (ps_set (i := 2) sc_check_row.nd rfl (Or.inl rfl) (pe_cal (ok_wrong_at T) (hr.mono (by decide)) pass0 (pa_cons (pv 0) (pa_cons (pv 1) pa_nil))))
      (pss_one (ps_if (pt_cmpR op_notN (pv 2) pe_non (nomark _)) (pss_one (ps_raise1 ex (f := "at") (by decide) rfl (ini_at FR) bR hr (L2N.takes_of rfl rfl rfl rfl) (g_BadRow T) (pa_cons (pv 2) pa_nil))) pss_nil)), ?_⟩
    obtain ⟨al, v, d, rfl, rd, sm, kE, kQ⟩ := h
    refine ⟨.str al, rfl, v, rfl, al, v, d, rfl, rd, sm, fun H1 s1 => ?_⟩
    cases hb : wrongL al.cps.toList d with
    | none =>
      refine ⟨_, rfl, rfl, _, rfl, ?_⟩
      exact iteF (kQ hb H1 s1)
    | some k =>
      refine ⟨_, rfl, rfl, _, rfl, ?_⟩
      exact iteT ⟨.int k, rfl, .int k, rfl, fun dx hd => kE k hb H1 s1 dx hd⟩
end
end Kx
set_option Elab.async false
set_option linter.all false
set_option maxRecDepth 100000
set_option maxHeartbeats 2000000
namespace Kx
open PySem PySem.Spec PyProof.Rows L2
section
variable {P : Program} {w : World} {K : PySem.W.Frag} {mg : Str → Option Value} {base : Heap} {C f : Addr} {fd : FuncData}
theorem ini_item (F : FnP K "__init__" "WrongItem.__init__" s_WrongItem___init__ f fd) : FnOk P w K mg base CX0 1 f fd ["self", "number"] (sp_init1 K C "number") := by
  refine F.ok sc_WrongItem___init__ (fun vs H Q E h => ?_) (fun cdv A outer s H vs Q E hr h => ⟨_, PSs.nox (pss_one (ps_ost (pv 0) (pv 1))), ?_⟩)
  · obtain ⟨a, v, rfl, _⟩ := h; rfl
  · obtain ⟨a, v, rfl, T, hno, ha, q⟩ := h
    exact ⟨v, rfl, .ref a, rfl, a, C, rfl, T, hno, .inl ⟨ha, q⟩⟩
theorem ini_reader (F : FnP K "__init__" "BadReader.__init__" s_BadReader___init__ f fd) : FnOk P w K mg base CX0 1 f fd ["self", "side", "number"] (sp_init2 K C "side" "number") := by
  refine F.ok sc_BadReader___init__ (fun vs H Q E h => ?_) (fun cdv A outer s H vs Q E hr h => ⟨_, PSs.nox (pss_cons (ps_ost (pv 0) (pv 1)) (pss_one (ps_ost (pv 0) (pv 2)))), ?_⟩)
  · obtain ⟨a, v, u, rfl, _⟩ := h; rfl
  · obtain ⟨a, v, u, rfl, T, hf, hg, ha, q⟩ := h
    refine ⟨v, rfl, .ref a, rfl, a, C, rfl, T, hf, .inl ⟨ha, fun dx n ne => ?_⟩⟩
    refine ⟨u, rfl, .ref a, rfl, a, C, rfl, T, hg, .inr ⟨dx, [("side", v)], upd_same, ?_, (by show 1 ≤ 900; decide), q dx n ne⟩⟩
    rw [upd_ne ne, upd_same]
end
end Kx
set_option Elab.async false
set_option linter.all false
set_option maxRecDepth 100000
set_option maxHeartbeats 2000000
namespace Kx
open PySem PySem.Spec PyProof.Rows L2
section
variable {P : Program} {w : World} {K : PySem.W.Frag} {mg : Str → Option Value} {base : Heap}
/-! ### letters -/
def letterL (al : List Nat) : PyData → Bool
  | .str z => match z.cps.toList with
    | [c] => decide (c ∈ al)
    | _ => false
  | _ => false
def sp_is_letter : Sp := fun vs H Q _ => ∃ (al : Str) (v : V) (d : PyData), vs = [.str al, v] ∧ Rp H v d ∧ smallT d ∧ Q (.bl (letterL al.cps.toList d)) H
theorem kd_nstr2 {d : PyData} {al : List Nat} (h : (kd d).is "str" = false) : letterL al d = false := by
  cases d <;> first | rfl | (exact Bool.noConfusion h)
theorem ok_is_letter (T : Txt K mg) : Cal P w K mg base CX0 1 "is_letter" ["alphabet", "thing"] sp_is_letter := by
  obtain ⟨fd, F⟩ := F_is_letter T
  refine cal_mk F (g_is_letter T) sc_is_letter (fun _ _ _ _ _ _ us hl => match us, hl with | [_, _], _ => rfl) (fun vs H Q E h => ?_) (fun cdv A outer s H vs Q E hr h => ?_)
  · obtain ⟨al, v, d, rfl, _⟩ := h; rfl
  · refine ⟨_, PSs.nox (pss_one (ps_ret (pe_and (pe_callB call_isB (by rfl) (fr_isinstance T) b_isinstance (pa_cons (pv 1) (pa_cons (pe_ty (fr_str T) b_str) pa_nil)))
      (pe_and (pe_cmpR op_eq (pe_callB call_len (by rfl) (fr_len T) boot_len (pa_cons (pv 1) pa_nil)) pe_int (nomark _)) (pe_one (pe_cmpR op_in_sign (pv 1) (pv 0) rfl)))))), ?_⟩
    obtain ⟨al, v, d, rfl, rd, sm, q⟩ := h
    refine ⟨v, rfl, v, "str", kd d, rfl, rd.ko, k_str _, _, rfl, ?_⟩
    cases hb : (kd d).is "str" with
    | false =>
      refine iteF ?_
      rw [kd_nstr2 hb] at q
      exact q
    | true =>
      refine iteT ?_
      obtain ⟨z, rfl⟩ := kd_str hb
      cases rd
      have hz : z.cps.toList.length = z.length := Array.length_toList
      refine ⟨.str z, rfl, _, _, rfl, lenV_str (sm z rfl), rfl, _, rfl, ?_⟩
      rw [show decide (V.int (z.length : Int) = V.int 1) = decide ((z.length : Int) = 1) from dec_int _ _]
      by_cases h1 : (z.length : Int) = 1
      · rw [decide_eq_true h1]
        refine iteT ?_
        cases hl : z.cps.toList with
        | nil => rw [hl] at hz; simp at hz; omega
        | cons c r =>
          cases r with
          | cons c2 r2 => rw [hl] at hz; simp at hz; omega
          | nil =>
            have ez : z = ⟨#[c]⟩ := by
              obtain ⟨⟨l⟩⟩ := z
              have hl' : l = [c] := hl
              rw [hl']
            subst ez
            exact ⟨_, rfl, _, rfl, c, al, rfl, rfl, q⟩
      · rw [decide_eq_false h1]
        refine iteF ?_
        have e : letterL al.cps.toList (.str z) = false := by
          show (match z.cps.toList with | [c] => decide (c ∈ al.cps.toList) | _ => false) = false
          split
          · rename_i c hc
            rw [hc] at hz
            simp at hz
            omega
          · rfl
        rw [e] at q
        exact q
def sp_check_place (K : PySem.W.Frag) : Sp := fun vs H Q E => ∃ (row : Str) (v : V) (d : PyData), vs = [.str row, v] ∧ Rp H v d ∧ row.length ≤ 100000 ∧ (belowD row.length d = false → errAt (He.ga K "BadPlace") "thing" v H E) ∧ (belowD row.length d = true → Q .non H)
theorem ok_check_place (T : Txt K mg) : Cal P w K mg base (L2N.CX P w) 3 "check_place" ["row", "thing"] (sp_check_place K) := by
  obtain ⟨fd, F⟩ := F_check_place T
  obtain ⟨fdR, FR⟩ := F_BadPlace___init__ T
  have bR : Binds K fdR ["self", "thing"] [] := FR.bindsN fun _ _ _ _ _ _ us hl => match us, hl with | [_, _], _ => rfl
  have ex : Ex K "BadPlace" ["thing"] := ex_of T 3
  refine cal_mk F (g_check_place T) sc_check_place (fun _ _ _ _ _ _ us hl => match us, hl with | [_, _], _ => rfl) (fun vs H Q E h => ?_) (fun cdv A outer s H vs Q E hr h => ?_)
  · obtain ⟨row, v, d, rfl, _⟩ := h; rfl
  · refine ⟨_, pss_one (ps_if (pt_not (pt_val (pe_cal (ok_is_below T) hr pass0 (pa_cons (pv 1) (pa_cons (pe_callB call_len (by rfl) (fr_len T) boot_len (pa_cons (pv 0) pa_nil)) pa_nil)))))
      (pss_one (ps_raise1 ex (f := "thing") (by decide) rfl (ini_thing FR) bR hr (L2N.takes_of rfl rfl rfl rfl) (g_BadPlace T) (pa_cons (pv 1) pa_nil))) pss_nil), ?_⟩
    obtain ⟨row, v, d, rfl, rd, hr2, kE, kQ⟩ := h
    refine ⟨v, rfl, .str row, rfl, _, _, rfl, lenV_str hr2, v, _, kd d, rfl, rd.ko, _, rfl, ?_⟩
    rw [rp_below rd]
    cases hb : belowD row.length d with
    | false => exact iteT ⟨v, rfl, v, rfl, fun dx hd => kE hb H (Same.refl H) dx hd⟩
    | true => exact iteF (kQ hb)
end
end Kx
set_option Elab.async false
set_option linter.all false
set_option maxRecDepth 100000
set_option maxHeartbeats 1000000
namespace Kx
open PySem PySem.Spec PyProof.Rows L2
section
variable {P : Program} {w : World} {K : PySem.W.Frag} {mg : Str → Option Value} {base : Heap}
/-! ### is_move -/
def moveD (l m : Int) (d : PyData) : Bool := match itemsD d with
  | some ds => decide ((ds.length : Int) = l) && ds.all (belowD m)
  | none => false
/-- a list or tuple of few things -/
def smallD (d : PyData) : Prop := ∀ ds, itemsD d = some ds → ds.length ≤ 100000
def sp_is_move (K : PySem.W.Frag) : Sp := fun vs H Q _ => ∃ (v : V) (d : PyData) (l m : Int), vs = [v, .int l, .int m] ∧ Rp H v d ∧ smallD d ∧ ∀ H', Same H H' → Q (.bl (moveD l m d)) H'
theorem ok_is_move (T : Txt K mg) : Cal P w K mg base CX0 3 "is_move" ["thing", "letters", "standings"] (sp_is_move K) := by
  obtain ⟨fd, F⟩ := F_is_move T
  refine cal_mk F (g_is_move T) sc_is_move (fun _ _ _ _ _ _ us hl => match us, hl with | [_, _, _], _ => rfl) (fun vs H Q E h => ?_) (fun cdv A outer s H vs Q E hr h => ?_)
  · obtain ⟨v, d, l, m, rfl, _⟩ := h; rfl
  · refine ⟨_, PSs.nox (pss_cons (ps_if (PW.pt (pw_or (pt_not (pt_val (pe_cal (ok_is_listing T) (hr.mono (by decide)) pass0 (pa_cons (pv 0) pa_nil))))
        (pw_or1 (pt_cmpR op_ne (pe_callB call_len (by rfl) (fr_len T) boot_len (pa_cons (pv 0) pa_nil)) (pv 1) (nomark _))))) (pss_one (ps_ret pe_bl)) pss_nil)
      (pss_one (ps_ret (pe_callB (cr_all rfl) (by rfl) (fr_all T) b_all (pa_cons (pe_lc (own := [("standing", 3)]) (g := gName 3) (tt := tYes) rfl sc_is_move.nd (pi_seq (pv 0)) (blkOk_by (N := N_is_move) (sc := defScope s_is_move) (by decide +kernel))
        (fun _ _ _ _ _ => pg_name (i := 3) sc_is_move.nd rfl (Or.inl rfl)) (fun _ _ _ _ _ => pts_nil) (fun _ _ _ _ _ => pe_cal (ok_is_below T) hr pass0 (pa_cons (pv 3) (pa_cons (pv 2) pa_nil)))) pa_nil))))), ?_⟩
    obtain ⟨v, d, l, m, rfl, rd, sm, q⟩ := h
    refine ⟨v, rfl, v, kd d, rfl, rd.ko, fun H1 s1 => ⟨_, rfl, ?_⟩⟩
    cases hb : (kd d == Kd.lst || kd d == Kd.tup) with
    | false =>
      refine iteT (iteT ?_)
      have e : moveD l m d = false := by unfold moveD; rw [itemsD_none hb]
      rw [e] at q
      exact q H1 s1
    | true =>
      refine iteF ?_
      obtain ⟨ds, hds⟩ := itemsD_kd hb
      have e : moveD l m d = (decide ((ds.length : Int) = l) && ds.all (belowD m)) := by unfold moveD; rw [hds]
      rw [e] at q
      -- the sequence at a
      obtain ⟨a, xs, rfl, hxs, hsq⟩ : ∃ a xs, v = .ref a ∧ RpL H1 xs ds ∧ ((H1 a = some (.lst xs)) ∨ H1 a = some (.tup xs)) := by
        have rd1 := rd.same s1
        cases rd1 with
        | lst e1 h1 => exact ⟨_, _, rfl, by cases hds; exact h1, .inl e1⟩
        | tup e1 h1 => exact ⟨_, _, rfl, by cases hds; exact h1, .inr e1⟩
        | _ => exact Bool.noConfusion hb
      have hl : xs.length = ds.length := hxs.length
      have hsz : xs.length ≤ sizeLine := Nat.le_trans (by rw [hl]; exact sm ds hds) (by decide)
      have hlen : LenV K (.ref a) H1 ds.length := by
        rcases hsq with h | h
        · exact .inl ⟨xs, SqL.of h, hl.symm⟩
        · exact .inr ⟨xs, SqT.of h, hl.symm⟩
      refine ⟨_, rfl, _, ds.length, rfl, hlen, _, rfl, rfl, _, rfl, ?_⟩
      by_cases hll : (ds.length : Int) = l
      · have e2 : (!decide (V.int (ds.length : Int) = V.int l)) = false := by rw [hll]; simp
        rw [e2]
        refine iteF ?_
        have hz : xs.length ≤ sizeLine := hsz
        have fin : ∀ (H' : Hp) (acc : List V) (D : Addr), Same H1 H' → H' D = some (.lst acc) → acc.length = xs.length → (∀ (i : Nat) (v : V), acc[i]? = some v → ∀ d, ds[i]? = some d → v = V.bl (belowD m d)) → ∃ (a : Addr) (bs : List Bool), [V.ref D] = [V.ref a] ∧ SqL K H' a (bs.map V.bl) ∧ Q (.bl (bs.all id)) H' := by
          intro H' acc D s' hD hla hacc
          have ea : acc = (ds.map (belowD m)).map V.bl := by
            apply List.ext_getElem?
            intro i
            by_cases hi : i < ds.length
            · have h1 : acc[i]? = some (acc[i]'(by omega)) := List.getElem?_eq_getElem (by omega)
              rw [h1, hacc i _ h1 ds[i] (List.getElem?_eq_getElem hi)]
              simp [hi]
            · rw [List.getElem?_eq_none (by omega), List.getElem?_eq_none (by simp; omega)]
          refine ⟨D, ds.map (belowD m), rfl, SqL.of (by rw [hD, ea]), ?_⟩
          have e3 : (ds.map (belowD m)).all id = ds.all (belowD m) := by rw [List.all_map]; rfl
          rw [e3]
          have e4 := q H' (s1.trans s')
          rw [hll, decide_eq_true rfl, Bool.true_and] at e4
          exact e4
        have turn : ∀ (i : Nat) (x : V) (H H' : Hp) (Qk : VK), i < xs.length → Same H1 H → YAt xs i H x H' → (∀ y H4, Same H H4 → (∀ d, ds[i]? = some d → y = V.bl (belowD m d)) → Qk y H4) → sp_is_below K [x, .int m] H' Qk E0 := by
          rintro i x H _ Qk hi sH ⟨rfl, hx⟩ hk
          obtain ⟨d', hd', rx⟩ := hxs.get hx
          have rx2 := rx.same sH
          refine ⟨x, m, kd d', rfl, rx2.ko, hk _ _ (Same.refl _) fun d e => ?_⟩
          rw [hd'] at e
          cases e
          rw [rp_below rx2 m]
        rcases hsq with h | h
        · refine ⟨_, rfl, a, xs, rfl, .inl ⟨SqL.of h, fun J WJ D hD => ?_⟩⟩
          exact lc_new WJ hD hz (fun (i : Nat) _ v => ∀ d, ds[i]? = some d → v = V.bl (belowD m d)) (fun _ _ _ _ _ h => h) (fun H s => SqL.of (s _ _ h))
            (fun i x H H' Qk hi sH hy hk => ⟨rfl, _, rfl, _, rfl, turn i x H H' Qk hi sH hy hk⟩) (fun H acc s hD hl h => fin H acc D s hD hl h)
        · refine ⟨_, rfl, a, xs, rfl, .inr ⟨SqT.of h, fun J WJ D hD => ?_⟩⟩
          exact lc_new WJ hD hz (fun (i : Nat) _ v => ∀ d, ds[i]? = some d → v = V.bl (belowD m d)) (fun _ _ _ _ _ h => h) (fun H s => SqT.of (s _ _ h))
            (fun i x H H' Qk hi sH hy hk => ⟨rfl, _, rfl, _, rfl, turn i x H H' Qk hi sH hy hk⟩) (fun H acc s hD hl h => fin H acc D s hD hl h)
      · have e2 : (!decide (V.int (ds.length : Int) = V.int l)) = true := by simp [hll]
        rw [e2]
        refine iteT ?_
        rw [decide_eq_false hll, Bool.false_and] at q
        exact q H1 s1
end
end Kx
set_option Elab.async false
set_option linter.all false
set_option maxRecDepth 100000
set_option maxHeartbeats 2000000
namespace Kx
open PySem PySem.Spec PyProof.Rows L2
theorem b_tupleT : bootBuiltins "tuple" = some (.type "tuple") := b_tuple
def readerDue (l : Nat) (d : PyData) : Option Int := match itemsD d with
  | none => some (-1)
  | some ds => if 1 ≤ ds.length ∧ ds.length ≤ 40 then firstBad (moveD l ds.length) ds 0 else some (-1)
def tupOf (d : PyData) : PyData := .tuple ((itemsD d).getD [])
def keptD (d : PyData) : PyData := .tuple (((itemsD d).getD []).map tupOf)
theorem firstBad_at {p : PyData → Bool} : ∀ {ds : List PyData} {k : Int} {i : Nat} {d : PyData}, ds[i]? = some d → (∀ j d, j < i → ds[j]? = some d → p d = true) → p d = false → firstBad p ds k = some (k + i)
  | [], _, i, _, h, _, _ => by simp at h
  | d :: ds, k, 0, x, h, _, hp => by
    have e : d = x := by simpa using h
    unfold firstBad
    rw [e, hp]
    simp
  | d :: ds, k, i + 1, x, h, ha, hp => by
    have h0 := ha 0 d (Nat.succ_pos _) rfl
    unfold firstBad
    rw [if_pos h0, firstBad_at (k := k + 1) (i := i) (by simpa using h) (fun j y hj hy => ha (j + 1) y (by omega) (by simpa using hy)) hp]
    congr 1
    omega
theorem firstBad_none {p : PyData → Bool} : ∀ {ds : List PyData} {k : Int}, (∀ (j : Nat) d, ds[j]? = some d → p d = true) → firstBad p ds k = none
  | [], _, _ => rfl
  | d :: ds, k, h => by
    unfold firstBad
    rw [if_pos (h 0 d rfl)]
    exact firstBad_none fun j y hy => h (j + 1) y (by simpa using hy)
/-- ints alone -/
theorem rpL_ints {H : Hp} {m : Int} : ∀ {vs : List V} {ds : List PyData}, RpL H vs ds → ds.all (belowD m) = true → RtL H vs ds
  | _, _, .nil, _ => .nil
  | _, _, .cons h hs, e => by
    rw [List.all_cons, Bool.and_eq_true] at e
    refine .cons ?_ (rpL_ints hs e.2)
    cases h with
    | int i => exact .int i
    | _ => exact Bool.noConfusion e.1
/-- the data of a reader: few things, each of few things -/
def smallR (d : PyData) : Prop := ∀ ds, itemsD d = some ds → ds.length ≤ 100000 ∧ ∀ x ∈ ds, smallD x
section
variable {P : Program} {w : World} {K : PySem.W.Frag} {mg : Str → Option Value} {base : Heap}
def sp_kept_reader (K : PySem.W.Frag) : Sp := fun vs H Q E => ∃ (al side : Str) (v : V) (d : PyData), vs = [.str al, .str side, v] ∧ Rp H v d ∧ smallR d ∧ al.length ≤ 1000 ∧
  (∀ k, readerDue al.length d = some k → ∀ H', Same H H' → ∀ dx, H' dx = none → E (.ref (He.ga K "BadReader")) (some dx) (upd H' dx (.xd [("number", .int k), ("side", .str side)]))) ∧
  (readerDue al.length d = none → ∀ H' r, Same H H' → Rt H' r (keptD d) → Q r H')
/-- the sequence that stands there -/
theorem ok_kept_reader (T : Txt K mg) : Cal P w K mg base (L2N.CX P w) 4 "kept_reader" ["alphabet", "side", "thing"] (sp_kept_reader K) := by
  obtain ⟨fd, F⟩ := F_kept_reader T
  obtain ⟨fdR, FR⟩ := F_BadReader___init__ T
  obtain ⟨t40, h40⟩ := T.i_MOST_STANDINGS
  have bR : Binds K fdR ["self", "side", "number"] [] := FR.bindsN fun _ _ _ _ _ _ us hl => match us, hl with | [_, _, _], _ => rfl
  have ex : Ex K "BadReader" ["side", "number"] := ex_of T 6
  refine cal_mk F (g_kept_reader T) sc_kept_reader (fun _ _ _ _ _ _ us hl => match us, hl with | [_, _, _], _ => rfl) (fun vs H Q E h => ?_) (fun cdv A outer s H vs Q E hr h => ?_)
  · obtain ⟨al, side, v, d, rfl, _⟩ := h; rfl
  · refine ⟨_, (pss_cons (ps_if (PW.pt (pw_or (pt_not (pt_val (pe_cal (ok_is_listing T) (hr.mono (by decide)) pass0 (pa_cons (pv 2) pa_nil))))
          (pw_or1 (pt_not (pt_chain op_le op_le pe_int (pe_callB call_len (by rfl) (fr_len T) boot_len (pa_cons (pv 2) pa_nil)) (pe_glob (v := .int 40) (by rfl) h40 ⟨t40, rfl⟩))))))
          (pss_one (ps_raise2 ex (f := "side") (g := "number") (by decide) (by decide) rfl (ini_reader FR) bR (hr.mono (by decide)) (L2N.takes_of rfl rfl rfl rfl) (g_BadReader T) (pa_cons (pv 1) (pa_cons (pe_un un_neg pe_int) pa_nil)))) pss_nil)
      (pss_cons (ps_set (i := 3) sc_kept_reader.nd rfl (Or.inl rfl) (pe_lst pa_nil))
      (pss_cons (ps_for (passes_of rfl) rfl (pi_enumS (by rfl) (fr_enumerate T) (pa_cons (pv 2) pa_nil)) (pg_tup rfl (pgs_cons (pg_name (i := 4) sc_kept_reader.nd rfl (Or.inl rfl)) (pgs_cons (pg_name (i := 5) sc_kept_reader.nd rfl (Or.inl rfl)) pgs_nil)))
          (pss_cons (ps_if (pt_not (pt_val (pe_cal (ok_is_move T) hr pass0 (pa_cons (pv 5) (pa_cons (pe_callB call_len (by rfl) (fr_len T) boot_len (pa_cons (pv 0) pa_nil)) (pa_cons (pe_callB call_len (by rfl) (fr_len T) boot_len (pa_cons (pv 2) pa_nil)) pa_nil))))))
            (pss_one (ps_raise2 ex (f := "side") (g := "number") (by decide) (by decide) rfl (ini_reader FR) bR (hr.mono (by decide)) (L2N.takes_of rfl rfl rfl rfl) (g_BadReader T) (pa_cons (pv 1) (pa_cons (pv 4) pa_nil)))) pss_nil)
          (pss_one (ps_expr (pe_bm PySem.F.plainAttrs_list PySem.F.slot_list_append PySem.F.type_list_append mt_append (pv 3) (pa_cons (pe_callTy call_tuple_of (by rfl) (fr_tuple T) b_tuple (pa_cons (pv 5) pa_nil)) pa_nil))))))
      (pss_one (ps_ret (pe_callTy call_tuple_of (by rfl) (fr_tuple T) b_tuple (pa_cons (pv 3) pa_nil))))))), ?_⟩
    obtain ⟨al, side, v, d, rfl, rd, sm, hal, kE, kQ⟩ := h
    refine ⟨v, rfl, v, kd d, rfl, rd.ko, fun H1 s1 => ⟨_, rfl, ?_⟩⟩
    have rd1 := rd.same s1
    cases hb : (kd d == Kd.lst || kd d == Kd.tup) with
    | false =>
      refine iteT (iteT ?_)
      have e : readerDue al.length d = some (-1) := by unfold readerDue; rw [itemsD_none hb]
      refine ⟨.str side, rfl, 1, rfl, _, _, rfl, fun dx hd => ?_⟩
      exact kE (-1) e H1 s1 dx hd
    | true =>
      refine iteF ?_
      obtain ⟨ds, hds⟩ := itemsD_kd hb
      obtain ⟨a, xs, rfl, hxs, hsq⟩ := rp_seq rd1 hds
      have hl : xs.length = ds.length := hxs.length
      have hLenT : LenV K (.ref a) H1 xs.length := lenV_seq hsq
      have bad : ¬ (1 ≤ ds.length ∧ ds.length ≤ 40) → readerDue al.length d = some (-1) := fun hn => by unfold readerDue; rw [hds]; exact if_neg hn
      have good : (1 ≤ ds.length ∧ ds.length ≤ 40) → readerDue al.length d = firstBad (moveD al.length ds.length) ds 0 := fun hn => by unfold readerDue; rw [hds]; exact if_pos hn
      refine ⟨_, rfl, _, _, rfl, hLenT, 1, _, rfl, rfl, _, rfl, ?_⟩
      by_cases h1 : (1 : Int) ≤ (xs.length : Int)
      · rw [decide_eq_true h1]
        refine iteT ⟨_, 40, rfl, rfl, _, rfl, ?_⟩
        by_cases h2 : (xs.length : Int) ≤ 40
        · rw [decide_eq_true h2]
          refine iteF ?_
          have hn : 1 ≤ ds.length ∧ ds.length ≤ 40 := by omega
          refine ⟨by decide, fun kp hkp => ?_⟩
          obtain ⟨G, S, hG, hGs⟩ := src_seq hsq
          have s2 : Same H1 (upd H1 kp (.lst [])) := fun b o e => by rw [upd_ne (ne_of_none e hkp)]; exact e
          refine ⟨_, rfl, _, _, _, _, rfl, S, hGs _ s2, for_it walk_new (fun i σ H2 => ∃ (v4 v5 : Option V) (acc : List V), σ = [some (.str al), some (.str side), some (.ref a), some (.ref kp), v4, v5] ∧ Same H1 H2 ∧ H2 kp = some (.lst acc) ∧ RtL H2 acc ((ds.take i).map tupOf) ∧
            ∀ (j : Nat) x, j < i → ds[j]? = some x → moveD al.length ds.length x = true)
            ⟨none, none, [], rfl, s2, upd_same, by rw [List.take_zero]; exact .nil, fun j x hj => absurd hj (Nat.not_lt_zero _)⟩ (fun i σ H2 _ ⟨_, _, _, _, s3, _⟩ => hGs _ s3) ?_ ?_⟩
          · rintro i x σ H2 H3 hi ⟨v4, v5, acc, rfl, s3, hacc, hrt, hall⟩ ⟨Tt, vs, rfl, hTn, rfl, y, rfl, hy⟩
            obtain ⟨dy, hdy, ry⟩ := hxs.get hy
            have ry3 : Rp (upd H2 Tt (.tup [.int (i : Nat), y])) y dy := ry.same (s3.trans fun b o e => by rw [upd_ne (ne_of_none e hTn)]; exact e)
            have hTk : Tt ≠ kp := fun z => by rw [z, hacc] at hTn; cases hTn
            refine ⟨Tt, _, rfl, SqT.of upd_same, rfl, .int (i : Nat), _, rfl, y, _, rfl, rfl, ?_⟩
            have s4 : Same H2 (upd H2 Tt (.tup [.int (i : Nat), y])) := fun b o e => by rw [upd_ne (ne_of_none e hTn)]; exact e
            have hdm : dy ∈ ds := List.mem_of_getElem? hdy
            have hsq4 := hsq.imp (fun z => s4 _ _ (s3 _ _ z)) (fun z => s4 _ _ (s3 _ _ z))
            refine ⟨y, rfl, .str al, rfl, .str al, al.length, rfl, lenV_str (by omega), .ref a, rfl, .ref a, xs.length, rfl, lenV_seq hsq4, y, dy, _, _, rfl, ry3, (sm ds hds).2 dy hdm, fun H5 s5 => ⟨_, rfl, ?_⟩⟩
            have s15 : Same H H5 := s1.trans (s3.trans (s4.trans s5))
            rw [hl]
            cases hmv : moveD (al.length : Int) (ds.length : Int) dy with
            | false =>
              refine iteT ⟨.str side, rfl, .int (i : Nat), rfl, _, _, rfl, fun dx hdx => ?_⟩
              refine kE i ?_ H5 s15 dx hdx
              rw [good hn, firstBad_at hdy hall hmv, Int.zero_add]
            | true =>
              refine iteF ?_
              have ry5 := ry3.same s5
              have hk5 : H5 kp = some (.lst acc) := s5 _ _ (s4 _ _ hacc)
              have hrt5 := hrt.tups ((Same.tups s4).trans (Same.tups s5))
              have htk : (ds.take (i + 1)) = ds.take i ++ [dy] := by rw [List.take_succ, hdy]; rfl
              have hall' : ∀ (j : Nat) x, j < i + 1 → ds[j]? = some x → moveD al.length ds.length x = true := fun j x hj hx => by
                by_cases hji : j < i
                · exact hall j x hji hx
                · have : j = i := by omega
                  subst this
                  rw [hdy] at hx
                  cases hx
                  exact hmv
              have hmd : ∃ ms, itemsD dy = some ms ∧ ms.all (belowD ds.length) = true := by
                unfold moveD at hmv
                cases hi2 : itemsD dy with
                | none => rw [hi2] at hmv; cases hmv
                | some ms =>
                  rw [hi2, Bool.and_eq_true] at hmv
                  exact ⟨ms, rfl, hmv.2⟩
              obtain ⟨ms, hms, hint⟩ := hmd
              obtain ⟨ma, mxs, rfl, hmx, hmsq⟩ := rp_seq ry5 hms
              have etup : tupOf dy = .tuple ms := by unfold tupOf; rw [hms]; rfl
              have hlen : acc.length < sizeLine := by
                have e1 := hrt.length
                rw [List.length_map, List.length_take] at e1
                exact Nat.lt_of_le_of_lt (by omega : acc.length ≤ 40) (by decide)
              refine ⟨.ref kp, rfl, .inl ⟨rfl, _, SqL.of hk5⟩, .ref ma, rfl, ma, mxs, rfl, ?_⟩
              rcases hmsq with hm | hm
              · refine .inl ⟨SqL.of hm, fun p hp => ?_⟩
                have s6 : Same H5 (upd H5 p (.tup mxs)) := fun b o e => by rw [upd_ne (ne_of_none e hp)]; exact e
                have hk6 := s6 _ _ hk5
                refine ⟨kp, acc, _, rfl, rfl, hk6, hlen, ?_⟩
                have tu : Tups (upd H5 p (.tup mxs)) (upd (upd H5 p (.tup mxs)) kp (.lst (acc ++ [.ref p]))) := tups_upd hk6 fun xs z => by cases z
                refine ⟨_, _, _, rfl, ?_, upd_same, ?_, hall'⟩
                · intro b o e
                  rw [upd_ne (ne_of_none e hkp)]
                  exact s6 _ _ (s5 _ _ (s4 _ _ (s3 _ _ e)))
                · rw [htk, List.map_append]
                  refine RtL.append (d := tupOf dy) ?_ ((hrt5.tups (Same.tups s6)).tups tu)
                  rw [etup]
                  exact .tup (tu _ _ upd_same) (((rpL_ints hmx hint).tups (Same.tups s6)).tups tu)
              · refine .inr ⟨SqT.of hm, ?_⟩
                refine ⟨kp, acc, _, rfl, rfl, hk5, hlen, ?_⟩
                have tu : Tups H5 (upd H5 kp (.lst (acc ++ [.ref ma]))) := tups_upd hk5 fun xs z => by cases z
                refine ⟨_, _, _, rfl, ?_, upd_same, ?_, hall'⟩
                · intro b o e
                  rw [upd_ne (ne_of_none e hkp)]
                  exact s5 _ _ (s4 _ _ (s3 _ _ e))
                · rw [htk, List.map_append]
                  refine RtL.append (d := tupOf dy) ?_ (hrt5.tups tu)
                  rw [etup]
                  exact .tup (tu _ _ hm) ((rpL_ints hmx hint).tups tu)
          · rintro σ H2 ⟨v4, v5, acc, rfl, s3, hacc, hrt, hall⟩
            rw [hl, List.take_length] at hrt
            refine ⟨.ref kp, rfl, kp, acc, rfl, .inl ⟨SqL.of hacc, fun p hp => ?_⟩⟩
            have s6 : Same H2 (upd H2 p (.tup acc)) := fun b o e => by rw [upd_ne (ne_of_none e hp)]; exact e
            have hnone : readerDue al.length d = none := by
              rw [good hn]
              refine firstBad_none fun j x hx => hall j x ?_ hx
              rw [hl]
              exact (List.getElem?_eq_some_iff.mp hx).1
            refine kQ hnone _ _ (s1.trans (s3.trans s6)) ?_
            have e : keptD d = .tuple (ds.map tupOf) := by unfold keptD; rw [hds]; rfl
            rw [e]
            exact .tup upd_same (hrt.tups (Same.tups s6))
        · rw [decide_eq_false h2]
          refine iteT ⟨.str side, rfl, 1, rfl, _, _, rfl, fun dx hdx => ?_⟩
          exact kE (-1) (bad (by omega)) H1 s1 dx hdx
      · rw [decide_eq_false h1]
        refine iteF ⟨_, rfl, ?_⟩
        refine iteT ⟨.str side, rfl, 1, rfl, _, _, rfl, fun dx hdx => ?_⟩
        exact kE (-1) (bad (by omega)) H1 s1 dx hdx
end
end Kx
set_option Elab.async false
set_option linter.all false
set_option maxRecDepth 100000
set_option maxHeartbeats 2000000
namespace Kx
open PySem PySem.Spec PyProof.Rows L2
/-! ### s[::-1], s a text -/
def revS (z : Str) : Str := ⟨z.cps.toList.reverse.toArray⟩
theorem picked_rev (z : Str) : ((Builtin.Str.strSliceIndices none none (-1) z.length).filterMap (z.cps[·]?)).toArray = (revS z).cps := by
  have e : Builtin.Str.strSliceIndices none none (-1) z.length = sliceRange ((z.length : Int) - 1) (-1) (-1) := by
    unfold Builtin.Str.strSliceIndices
    rfl
  rw [e, PySem.W.krv_sliceRange, PySem.W.krv_range, List.filterMap_reverse]
  show ((List.range z.cps.size).filterMap (z.cps[·]?)).reverse.toArray = _
  rw [PySem.W.krv_all]
  rfl
section
variable {X : Cx}
def tRevS (te : TE) : TE := fun σ H Q => te σ H fun x H1 => ∃ z, x = .str z ∧ z.length ≤ sizeLine ∧ Q (.str (revS z)) H1
theorem pe_revS {e : Expr} {te : TE} {k : Nat} {p1 p2 p3 pos : Pos} (he : PE X e te) : PE X (.Subscript e (.Slice none none (some (.UnaryOp .USub (.Constant (.int 1) k p1) p2)) p3) pos) (tRevS te) := by
  refine ⟨fun pins s σ H Q I h => ?_⟩
  refine Subscript_ (thn (he.run pins s σ H _ I h) fun v s1 hh => ?_)
  obtain ⟨x, H1, I1, r1, z, ex, hz, q⟩ := hh
  subst ex
  obtain ⟨t, rfl⟩ := r1
  refine wpAny_Slice (thn ((po_none (X := X)).run pins s1 σ H1 (fun o H2 => o = none ∧ H2 = H1) I1 ⟨rfl, rfl⟩) fun vl s2 h2 => ?_)
  obtain ⟨l, H2, I2, pl, el, e2⟩ := h2
  subst el e2
  refine thn ((po_none (X := X)).run pins s2 σ H2 (fun o H3 => o = none ∧ H3 = H2) I2 ⟨rfl, rfl⟩) fun vu s3 h3 => ?_
  obtain ⟨u, H3, I3, pu, eu, e3⟩ := h3
  subst eu e3
  have hst : PO X (some (.UnaryOp .USub (.Constant (.int 1) k p1) p2)) (tPart (tUn (rU fun i => .int (-i)) (tC (.int 1)))) := po_some (pe_un un_neg pe_int)
  refine thn (hst.run pins s3 σ H3 (fun o H4 => o = some (-1) ∧ H4 = H3) I3 ⟨1, rfl, -1, rfl, rfl, rfl⟩) fun vs s4 h4 => ?_
  obtain ⟨o, H4, I4, ps, eo, e4⟩ := h4
  subst eo e4
  have I5 : Inv X pins σ H4 { s4 with heap := s4.heap.push { cls := .type "slice", data := .fields #[vl, vu, vs] } } := I4.kept (t' := s4.toks) fun b ob q => Heap.get?_push_of_some _ q
  obtain ⟨ll, rfl, el⟩ := IsPart.raw pl
  obtain ⟨lu, rfl, eu⟩ := IsPart.raw pu
  obtain ⟨ls, rfl, es⟩ := IsPart.raw ps
  refine tail_any (ops := [.str z t, .ref s4.heap.objs.size]) (typeIs_str _ z t) (F.slot_str_getitem.lookup) ?_ (by with_unfolding_all rfl)
  refine wpAny_getItem_str_slice (l := ll) (u := lu) (st := ls) ⟨_, Heap.get?_push_size _ rfl, rfl, rfl⟩ (by rw [es]; rfl) ?_
  have e9 : sliceMade z t ll lu ls = .str (revS z) := by
    unfold sliceMade slicePicked
    rw [el, eu, es]
    rw [if_neg (by simp)]
    show Made.str ⟨((Builtin.Str.strSliceIndices none none (-1) z.length).filterMap (z.cps[·]?)).toArray⟩ = _
    rw [picked_rev]
  rw [e9]
  refine ⟨?_, .str _, H4, I5.tok _, ⟨_, rfl⟩, q⟩
  show (z.cps.toList.reverse.toArray).size ≤ sizeLine
  rw [List.size_toArray, List.length_reverse, Array.length_toList]
  exact hz
end
end Kx
set_option Elab.async false
set_option linter.all false
set_option maxRecDepth 100000
set_option maxHeartbeats 2000000
namespace Kx
open PySem PySem.Spec PyProof.Rows L2
/-! ### readers as tables of numbers -/
abbrev Tab := List (List Nat)
def encM (m : List Nat) : PyData := .tuple (m.map fun k => .int (k : Nat))
def encR (t : Tab) : PyData := .tuple (t.map encM)
structure TabOk (t : Tab) (na : Nat) : Prop where
  ne : 0 < t.length
  le : t.length ≤ 40
  ml : ∀ m ∈ t, m.length = na
  lt : ∀ m ∈ t, ∀ k ∈ m, k < t.length
/-- how the letters of an alphabet are numbered -/
structure IxOk (al : Str) (ix : Nat → Nat) : Prop where
  find : ∀ c ∈ al.cps.toList, Txt.find al ⟨#[c]⟩ = ((ix c : Nat) : Int)
  lt : ∀ c ∈ al.cps.toList, ix c < al.length
def stepT (t : Tab) (p k : Nat) : Nat := (t.getD p []).getD k 0
def runT (t : Tab) (ix : Nat → Nat) (p : Nat) (cs : List Nat) : Nat := cs.foldl (fun p c => stepT t p (ix c)) p
def aheadT (t : Tab) (ix : Nat → Nat) : Nat → List Nat → List Nat
  | _, [] => []
  | p, c :: cs => p :: aheadT t ix (stepT t p (ix c)) cs
theorem aheadT_snoc (t : Tab) (ix : Nat → Nat) : ∀ (cs : List Nat) (p c : Nat), aheadT t ix p (cs ++ [c]) = aheadT t ix p cs ++ [runT t ix p cs]
  | [], _, _ => rfl
  | d :: cs, p, c => by
    show p :: aheadT t ix (stepT t p (ix d)) (cs ++ [c]) = p :: (aheadT t ix (stepT t p (ix d)) cs ++ [runT t ix (stepT t p (ix d)) cs])
    rw [aheadT_snoc]
theorem runT_snoc (t : Tab) (ix : Nat → Nat) (cs : List Nat) (p c : Nat) : runT t ix p (cs ++ [c]) = stepT t (runT t ix p cs) (ix c) := by
  unfold runT
  rw [List.foldl_append]
  rfl
theorem aheadT_length (t : Tab) (ix : Nat → Nat) : ∀ (cs : List Nat) (p : Nat), (aheadT t ix p cs).length = cs.length
  | [], _ => rfl
  | _ :: cs, p => congrArg Nat.succ (aheadT_length t ix cs _)
theorem stepT_lt {t : Tab} {na p k : Nat} (T : TabOk t na) (hp : p < t.length) (hk : k < na) : stepT t p k < t.length := by
  unfold stepT
  have hm : t.getD p [] = t[p] := by simp [List.getD_eq_getElem?_getD, hp]
  rw [hm]
  have ml := T.ml t[p] (List.getElem_mem hp)
  have hk2 : k < t[p].length := by omega
  have e2 : t[p].getD k 0 = t[p][k] := by simp [List.getD_eq_getElem?_getD, hk2]
  rw [e2]
  exact T.lt t[p] (List.getElem_mem hp) _ (List.getElem_mem hk2)
/-- the move of a standing, its item -/
theorem rt_move {H : Hp} {v : V} {t : Tab} {na p k : Nat} (h : Rt H v (encR t)) (T : TabOk t na) (hp : p < t.length) (hk : k < na) :
    ∃ a xs b ys, v = .ref a ∧ H a = some (.tup xs) ∧ xs[p]? = some (.ref b) ∧ H b = some (.tup ys) ∧ ys[k]? = some (.int (stepT t p k)) := by
  unfold encR at h
  cases h with
  | @tup a xs _ ha hx =>
    have hl := hx.length
    rw [List.length_map] at hl
    have hpx : p < xs.length := by omega
    obtain ⟨d, hd, rd⟩ := hx.get (i := p) (List.getElem?_eq_getElem hpx)
    have ed : d = encM t[p] := by
      rw [List.getElem?_map, List.getElem?_eq_getElem hp] at hd
      exact (Option.some.inj hd).symm
    subst ed
    unfold encM at rd
    generalize hv : xs[p] = y at rd
    cases rd with
    | @tup b ys _ hb hy =>
      have ml := T.ml t[p] (List.getElem_mem hp)
      have hl2 := hy.length
      rw [List.length_map] at hl2
      have hky : k < ys.length := by omega
      obtain ⟨d2, hd2, rd2⟩ := hy.get (i := k) (List.getElem?_eq_getElem hky)
      have hk2 : k < t[p].length := by omega
      rw [List.getElem?_map, List.getElem?_eq_getElem hk2] at hd2
      have e2 : d2 = .int ((t[p][k] : Nat) : Int) := (Option.some.inj hd2).symm
      subst e2
      refine ⟨a, xs, b, ys, rfl, ha, by rw [List.getElem?_eq_getElem hpx, hv], hb, ?_⟩
      rw [List.getElem?_eq_getElem hky]
      have e3 : stepT t p k = t[p][k] := by
        unfold stepT
        simp [List.getD_eq_getElem?_getD, hp, hk2]
      rw [e3]
      generalize ys[k] = z at rd2
      cases rd2
      rfl
section
variable {P : Program} {w : World} {K : PySem.W.Frag} {mg : Str → Option Value} {base : Heap}
def sp_standings_ahead : Sp := fun vs H Q _ => ∃ (al : Str) (vL : V) (row : Str) (t : Tab) (ix : Nat → Nat), vs = [.str al, vL, .str row] ∧ Rt H vL (encR t) ∧ TabOk t al.length ∧ IxOk al ix ∧ (∀ c ∈ row.cps.toList, c ∈ al.cps.toList) ∧ row.length ≤ 1000 ∧
  ∀ H' p, Same H H' → H p = none → H' p = some (.lst ((aheadT t ix 0 row.cps.toList).map fun k => V.int (k : Nat))) → Q (.ref p) H'
theorem ok_standings_ahead (T : Txt K mg) : Cal P w K mg base CX0 1 "standings_ahead" ["alphabet", "left", "row"] sp_standings_ahead := by
  obtain ⟨fd, F⟩ := F_standings_ahead T
  refine cal_mk F (g_standings_ahead T) sc_standings_ahead (fun _ _ _ _ _ _ us hl => match us, hl with | [_, _, _], _ => rfl) (fun vs H Q E h => ?_) (fun cdv A outer s H vs Q E hr h => ?_)
  · obtain ⟨al, vL, row, t, ix, rfl, _⟩ := h; rfl
  · refine ⟨_, PSs.nox (pss_cons (ps_set (i := 3) sc_standings_ahead.nd rfl (Or.inl rfl) (pe_lst pa_nil)) (pss_cons (ps_set (i := 4) sc_standings_ahead.nd rfl (Or.inl rfl) pe_int)
      (pss_cons (ps_for PassesOwn.never rfl (pi_str (pv 2)) (pg_name (i := 5) sc_standings_ahead.nd rfl (Or.inl rfl))
        (pss_cons (ps_expr (pe_bm PySem.F.plainAttrs_list PySem.F.slot_list_append PySem.F.type_list_append mt_append (pv 3) (pa_cons (pv 4) pa_nil)))
        (pss_one (ps_set (i := 4) sc_standings_ahead.nd rfl (Or.inl rfl) (pe_ix ix_tup (pe_ix ix_tup (pv 1) (pv 4) (fun _ _ => rfl)) (pe_m1 PySem.F.slot_str_find PySem.F.type_str_find mt_find (pv 0) (pv 5)) (fun _ _ => rfl))))))
      (pss_one (ps_ret (pv 3)))))), ?_⟩
    obtain ⟨al, vL, row, t, ix, rfl, rt, TO, IX, hrow, hlen, q⟩ := h
    refine ⟨(by decide), fun kp hkp => ?_⟩
    have s0 : Same H (upd H kp (.lst [])) := fun b o e => by rw [upd_ne (ne_of_none e hkp)]; exact e
    have hsz : row.cps.toList.length = row.cps.size := Array.length_toList
    refine ⟨_, rfl, row, rfl, for_it walk_str (fun i σ H2 => ∃ (v5 : Option V) (acc : List Nat), σ = [some (.str al), some vL, some (.str row), some (.ref kp), some (.int ((runT t ix 0 (row.cps.toList.take i) : Nat) : Int)), v5] ∧ Same H H2 ∧ H2 kp = some (.lst (acc.map fun k => V.int (k : Nat))) ∧
      acc = aheadT t ix 0 (row.cps.toList.take i) ∧ runT t ix 0 (row.cps.toList.take i) < t.length)
      ⟨none, [], rfl, s0, upd_same, rfl, TO.ne⟩ (fun _ _ _ _ _ => trivial) ?_ ?_⟩
    · rintro i x σ H2 H3 hi ⟨v5, acc, rfl, s2, hacc, rfl, hlt⟩ ⟨eH, c, hc, rfl⟩
      replace eH := eH.symm
      subst eH
      have hc' : row.cps.toList[i]? = some c := by rw [Array.getElem?_toList]; exact hc
      have hcm : c ∈ al.cps.toList := hrow c (List.mem_of_getElem? hc')
      have htk : row.cps.toList.take (i + 1) = row.cps.toList.take i ++ [c] := by rw [List.take_succ, hc']; rfl
      have hal : (aheadT t ix 0 (row.cps.toList.take i)).length ≤ 1000 := by
        rw [aheadT_length, List.length_take, hsz]
        have : row.cps.size ≤ 1000 := hlen
        omega
      refine ⟨.ref kp, rfl, .inl ⟨rfl, _, SqL.of hacc⟩, .int _, rfl, kp, _, _, rfl, rfl, hacc, by rw [List.length_map]; exact Nat.lt_of_le_of_lt hal (by decide), ?_⟩
      obtain ⟨a, xs, b, ys, rfl, ha, hb, hB, hy⟩ := rt_move rt TO hlt (IX.lt c hcm)
      have nka : a ≠ kp := fun z => by rw [z, hkp] at ha; cases ha
      have nkb : b ≠ kp := fun z => by rw [z, hkp] at hB; cases hB
      have s3 : Same H (upd H2 kp (.lst ((aheadT t ix 0 (row.cps.toList.take i)).map (fun k => V.int (k : Nat)) ++ [V.int ((runT t ix 0 (row.cps.toList.take i) : Nat) : Int)]))) := fun b o e => by
        rw [upd_ne (ne_of_none e hkp)]
        exact s2 b o e
      refine ⟨.ref a, rfl, .int _, rfl, a, xs, _, .ref b, rfl, rfl, SqT.of (s3 _ _ ha), atI_nat hb, .str al, rfl, ⟨al, rfl⟩, .str ⟨#[c]⟩, rfl, al, ⟨#[c]⟩, rfl, rfl, b, ys, _, .int ((stepT t (runT t ix 0 (row.cps.toList.take i)) (ix c) : Nat) : Int), rfl, rfl, SqT.of (s3 _ _ hB), ?_, ?_⟩
      · rw [IX.find c hcm]
        exact atI_nat hy
      · refine ⟨some (.str ⟨#[c]⟩), aheadT t ix 0 (row.cps.toList.take i) ++ [runT t ix 0 (row.cps.toList.take i)], ?_, s3, ?_, ?_, ?_⟩
        · rw [htk, runT_snoc]
          rfl
        · rw [upd_same, List.map_append]
          rfl
        · rw [htk, aheadT_snoc]
        · rw [htk, runT_snoc]
          exact stepT_lt TO hlt (IX.lt c hcm)
    · rintro σ H2 ⟨v5, acc, rfl, s2, hacc, rfl, hlt⟩
      refine ⟨.ref kp, rfl, ?_⟩
      refine q H2 kp s2 hkp ?_
      rw [← hsz, List.take_length] at hacc
      exact hacc
end
end Kx
set_option Elab.async false
set_option linter.all false
set_option maxRecDepth 100000
set_option maxHeartbeats 2000000
namespace Kx
open PySem PySem.Spec PyProof.Rows L2
def behindT (t : Tab) (ix : Nat → Nat) (cs : List Nat) : List Nat := (aheadT t ix 0 cs.reverse).reverse
theorem revS_list (z : Str) : (revS z).cps.toList = z.cps.toList.reverse := rfl
theorem revS_length (z : Str) : (revS z).length = z.length := by
  show (z.cps.toList.reverse.toArray).size = z.cps.size
  rw [List.size_toArray, List.length_reverse, Array.length_toList]
section
variable {P : Program} {w : World} {K : PySem.W.Frag} {mg : Str → Option Value} {base : Heap}
def sp_standings_behind : Sp := fun vs H Q _ => ∃ (al : Str) (vL : V) (row : Str) (t : Tab) (ix : Nat → Nat), vs = [.str al, vL, .str row] ∧ Rt H vL (encR t) ∧ TabOk t al.length ∧ IxOk al ix ∧ (∀ c ∈ row.cps.toList, c ∈ al.cps.toList) ∧ row.length ≤ 1000 ∧
  ∀ H' p, Same H H' → H p = none → H' p = some (.lst ((behindT t ix row.cps.toList).map fun k => V.int (k : Nat))) → Q (.ref p) H'
theorem ok_standings_behind (T : Txt K mg) : Cal P w K mg base CX0 2 "standings_behind" ["alphabet", "right", "row"] sp_standings_behind := by
  obtain ⟨fd, F⟩ := F_standings_behind T
  refine cal_mk F (g_standings_behind T) sc_standings_behind (fun _ _ _ _ _ _ us hl => match us, hl with | [_, _, _], _ => rfl) (fun vs H Q E h => ?_) (fun cdv A outer s H vs Q E hr h => ?_)
  · obtain ⟨al, vL, row, t, ix, rfl, _⟩ := h; rfl
  · refine ⟨_, PSs.nox (pss_one (ps_ret (pe_revL (pe_cal (ok_standings_ahead T) hr pass0 (pa_cons (pv 0) (pa_cons (pv 1) (pa_cons (pe_revS (pv 2)) pa_nil))))))), ?_⟩
    obtain ⟨al, vL, row, t, ix, rfl, rt, TO, IX, hrow, hlen, q⟩ := h
    refine ⟨.str al, rfl, vL, rfl, .str row, rfl, row, rfl, Nat.le_trans hlen (by decide), al, vL, revS row, t, ix, rfl, rt, TO, IX, fun c hc => hrow c ?_, by rw [revS_length]; exact hlen, fun H1 p s1 hp e1 => ?_⟩
    · rw [revS_list] at hc
      exact List.mem_reverse.mp hc
    · refine ⟨p, _, rfl, SqL.of e1, fun p2 hp2 => ?_⟩
      have s2 : Same H1 (upd H1 p2 (.lst ((aheadT t ix 0 (revS row).cps.toList).map fun k => V.int (k : Nat)).reverse)) := fun b o e => by rw [upd_ne (ne_of_none e hp2)]; exact e
      refine q _ p2 (s1.trans s2) (s1.free hp2) ?_
      rw [upd_same, ← List.map_reverse]
      rfl
/-! ### has_bit -/
def sp_has_bit : Sp := fun vs H Q _ => ∃ m n : Nat, vs = [.int (m : Nat), .int (n : Nat)] ∧ Q (.bl (m.testBit n)) H
theorem bit_is (m n : Nat) : decide (V.int (Builtin.bitAnd ((m : Int) / 2 ^ ((n : Int)).toNat) 1) = V.int 1) = m.testBit n := by
  have e1 : Builtin.bitAnd ((m : Int) / 2 ^ ((n : Int)).toNat) 1 = (((m / 2 ^ n) % 2 : Nat) : Int) := by
    rw [Int.toNat_natCast]
    have := PyProof.Rows.bitAnd_m1 ((m : Int) / 2 ^ n)
    rw [this]
    push_cast
    rfl
  rw [e1, Nat.testBit_eq_decide_div_mod_eq, dec_int]
  congr 1
  apply propext
  omega
theorem ok_has_bit (T : Txt K mg) : Cal P w K mg base CX0 1 "has_bit" ["mask", "number"] sp_has_bit := by
  obtain ⟨fd, F⟩ := F_has_bit T
  refine cal_mk F (g_has_bit T) sc_has_bit (fun _ _ _ _ _ _ us hl => match us, hl with | [_, _], _ => rfl) (fun vs H Q E h => ?_) (fun cdv A outer s H vs Q E hr h => ?_)
  · obtain ⟨m, n, rfl, _⟩ := h; rfl
  · refine ⟨_, PSs.nox (pss_one (ps_ret (pe_cmpR op_eq (pe_op op_and (pe_op op_shr (pv 0) (pv 1)) pe_int) pe_int (nomark _)))), ?_⟩
    obtain ⟨m, n, rfl, q⟩ := h
    refine ⟨_, rfl, _, rfl, _, _, rfl, rfl, Int.natCast_nonneg _, _, _, rfl, rfl, rfl, ?_⟩
    rw [← bit_is] at q
    exact q
end
end Kx
set_option Elab.async false
set_option linter.all false
set_option maxRecDepth 100000
set_option maxHeartbeats 2000000
namespace Kx
open PySem PySem.Spec PyProof.Rows L2
mutual
theorem Rt.dp {K : PySem.W.Frag} {H : Hp} : ∀ {v : V} {d : PyData}, Rt H v d → Dp K H v d
  | _, _, .non => .non
  | _, _, .bl b => .bl b
  | _, _, .int i => .int i
  | _, _, .str z => .str z
  | _, _, .tup e h => .tup (SqT.of e) (RtL.dp h)
theorem RtL.dp {K : PySem.W.Frag} {H : Hp} : ∀ {vs : List V} {ds : List PyData}, RtL H vs ds → DpAll K H vs ds
  | _, _, .nil => .nil
  | _, _, .cons h hs => .cons (Rt.dp h) (RtL.dp hs)
end
/-- a < b, alike data -/
def rLtD (K : PySem.W.Frag) : R2 := fun x y H Q => ∃ d e, Dp K H x d ∧ Dp K H y e ∧ PySem.W.alike d e = true ∧ d ≠ .none ∧ d.depth ≤ 60 ∧ Q (.bl (PySem.W.dataLt d e)) H
theorem op_ltD {X : Cx} (hu : X.A.units + 64 < cLine) : OpR X (compareOp .Lt) (rLtD X.K) := by
  intro pins s σ H x y v u Q I rx ry h
  obtain ⟨d, e, hd, he, ha, hn, hz, q⟩ := h
  obtain ⟨as, r1⟩ := Dp.reads I d x v hd rx
  obtain ⟨bs, r2⟩ := Dp.reads I e y u he ry
  exact PySem.W.rcLt_alike d e X.A s v u as bs r1 r2 ha hn (by have := Nat.min_le_left d.depth e.depth; omega) X.prog X.w _ _ ⟨.bl (PySem.W.dataLt d e), H, I, rfl, q⟩
/-! ### triples -/
def tripleD (al : List Nat) (nl nr : Int) (d : PyData) : Bool := match itemsD d with
  | some [a, b, c] => belowD nl a && (letterL al b && belowD nr c)
  | _ => false
def smallTri (d : PyData) : Prop := ∀ ds, itemsD d = some ds → ds.length ≤ 100000 ∧ ∀ x ∈ ds, smallT x
section
variable {P : Program} {w : World} {K : PySem.W.Frag} {mg : Str → Option Value} {base : Heap}
def sp_is_triple : Sp := fun vs H Q _ => ∃ (al : Str) (vl vr v : V) (dl dr : List PyData) (d : PyData), vs = [.str al, vl, vr, v] ∧ Rt H vl (.tuple dl) ∧ Rt H vr (.tuple dr) ∧ Rp H v d ∧ smallTri d ∧
  ∀ H', Same H H' → Q (.bl (tripleD al.cps.toList dl.length dr.length d)) H'
theorem rt_len {H : Hp} {v : V} {ds : List PyData} (h : Rt H v (.tuple ds)) : LenV K v H ds.length := by
  cases h with
  | tup e hs => exact .inr ⟨_, SqT.of e, hs.length.symm⟩
theorem seq_ix {H : Hp} {a : Addr} {xs : List V} {j : Nat} {y : V} {Q : VK} (h : H a = some (.lst xs) ∨ H a = some (.tup xs)) (hy : xs[j]? = some y) (q : Q y H) : rIx K (.ref a) (.int (j : Nat)) H Q := by
  rcases h with h | h
  · exact .inl ⟨a, xs, _, y, rfl, rfl, SqL.of h, atI_nat hy, q⟩
  · exact .inr (.inl ⟨a, xs, _, y, rfl, rfl, SqT.of h, atI_nat hy, q⟩)
theorem ok_is_triple (T : Txt K mg) : Cal P w K mg base CX0 3 "is_triple" ["alphabet", "left", "right", "thing"] sp_is_triple := by
  obtain ⟨fd, F⟩ := F_is_triple T
  refine cal_mk F (g_is_triple T) sc_is_triple (fun _ _ _ _ _ _ us hl => match us, hl with | [_, _, _, _], _ => rfl) (fun vs H Q E h => ?_) (fun cdv A outer s H vs Q E hr h => ?_)
  · obtain ⟨al, vl, vr, v, dl, dr, d, rfl, _⟩ := h; rfl
  · refine ⟨_, PSs.nox (pss_cons (ps_if (PW.pt (pw_or (pt_not (pt_val (pe_cal (ok_is_listing T) (hr.mono (by decide)) pass0 (pa_cons (pv 3) pa_nil))))
        (pw_or1 (pt_cmpR op_ne (pe_callB call_len (by rfl) (fr_len T) boot_len (pa_cons (pv 3) pa_nil)) pe_int (nomark _))))) (pss_one (ps_ret pe_bl)) pss_nil)
      (pss_cons (ps_set (i := 4) sc_is_triple.nd rfl (Or.inl rfl) (pe_and (pe_cal (ok_is_below T) hr pass0 (pa_cons (pe_ix ix_seq (pv 3) pe_int (fun _ _ => rfl)) (pa_cons (pe_callB call_len (by rfl) (fr_len T) boot_len (pa_cons (pv 1) pa_nil)) pa_nil)))
        (pe_one (pe_cal (ok_is_letter T) (hr.mono (by decide)) pass0 (pa_cons (pv 0) (pa_cons (pe_ix ix_seq (pv 3) pe_int (fun _ _ => rfl)) pa_nil))))))
      (pss_one (ps_ret (pe_and (pv 4) (pe_one (pe_cal (ok_is_below T) hr pass0 (pa_cons (pe_ix ix_seq (pv 3) pe_int (fun _ _ => rfl)) (pa_cons (pe_callB call_len (by rfl) (fr_len T) boot_len (pa_cons (pv 2) pa_nil)) pa_nil))))))))), ?_⟩
    obtain ⟨al, vl, vr, v, dl, dr, d, rfl, rl, rr, rd, sm, q⟩ := h
    refine ⟨v, rfl, v, kd d, rfl, rd.ko, fun H1 s1 => ⟨_, rfl, ?_⟩⟩
    have rd1 := rd.same s1
    cases hb : (kd d == Kd.lst || kd d == Kd.tup) with
    | false =>
      refine iteT (iteT ?_)
      have e : tripleD al.cps.toList dl.length dr.length d = false := by unfold tripleD; rw [itemsD_none hb]
      rw [e] at q
      exact q H1 s1
    | true =>
      refine iteF ?_
      obtain ⟨ds, hds⟩ := itemsD_kd hb
      obtain ⟨a, xs, rfl, hxs, hsq⟩ := rp_seq rd1 hds
      have hl : xs.length = ds.length := hxs.length
      refine ⟨_, rfl, _, _, rfl, lenV_seq hsq, rfl, _, rfl, ?_⟩
      rw [show decide (V.int (xs.length : Int) = V.int 3) = decide ((xs.length : Int) = 3) from dec_int _ _]
      by_cases h3 : (xs.length : Int) = 3
      · rw [decide_eq_true h3]
        refine iteF ?_
        have hd3 : ds.length = 3 := by omega
        match ds, hd3, hds, hxs, sm with
        | [d0, d1, d2], _, hds, hxs, sm =>
          have sms := (sm _ hds).2
          cases hxs with
          | @cons v0 xs1 _ _ r0 hx1 =>
            cases hx1 with
            | @cons v1 xs2 _ _ r1 hx2 =>
              cases hx2 with
              | @cons v2 xs3 _ _ r2 hx3 =>
                cases hx3
                have e : tripleD al.cps.toList dl.length dr.length d = (belowD dl.length d0 && (letterL al.cps.toList d1 && belowD dr.length d2)) := by unfold tripleD; rw [hds]
                rw [e] at q
                have rl1 := rl.tups (Same.tups s1)
                have rr1 := rr.tups (Same.tups s1)
                refine ⟨.ref a, rfl, seq_ix (j := 0) hsq rfl ⟨vl, rfl, _, _, rfl, rt_len rl1, v0, _, kd d0, rfl, r0.ko, _, rfl, ?_⟩⟩
                rw [rp_below r0]
                cases hb0 : belowD dl.length d0 with
                | false =>
                  refine iteF ⟨_, rfl, _, rfl, iteF ?_⟩
                  rw [hb0, Bool.false_and] at q
                  exact q H1 s1
                | true =>
                  rw [hb0, Bool.true_and] at q
                  refine iteT ⟨.str al, rfl, .ref a, rfl, seq_ix (j := 1) hsq rfl ⟨al, v1, d1, rfl, r1, sms d1 (by simp), _, rfl, _, rfl, ?_⟩⟩
                  cases hb1 : letterL al.cps.toList d1 with
                  | false =>
                    rw [hb1, Bool.false_and] at q
                    exact iteF (q H1 s1)
                  | true =>
                    rw [hb1, Bool.true_and] at q
                    refine iteT ⟨.ref a, rfl, seq_ix (j := 2) hsq rfl ⟨vr, rfl, _, _, rfl, rt_len rr1, v2, _, kd d2, rfl, r2.ko, ?_⟩⟩
                    rw [rp_below r2]
                    exact q H1 s1
      · rw [decide_eq_false h3]
        refine iteT ?_
        have e : tripleD al.cps.toList dl.length dr.length d = false := by
          unfold tripleD
          rw [hds]
          match ds, hl with
          | [], _ => rfl
          | [_], _ => rfl
          | [_, _], _ => rfl
          | [_, _, _], hl => exact absurd (by rw [hl]; rfl) h3
          | _ :: _ :: _ :: _ :: _, _ => rfl
        rw [e] at q
        exact q H1 s1
end
end Kx
set_option Elab.async false
set_option linter.all false
set_option maxRecDepth 100000
set_option maxHeartbeats 2000000
namespace Kx
open PySem PySem.Spec PyProof.Rows L2
def goMarked (al : List Nat) (nl nr : Int) : Option PyData → List PyData → Int → Option Int
  | _, [], _ => none
  | prev, d :: ds, k => if tripleD al nl nr d = true then (if (prev.all fun p => PySem.W.dataLt p (tupOf d)) = true then goMarked al nl nr (some (tupOf d)) ds (k + 1) else some k) else some k
def markedDue (al : List Nat) (nl nr : Int) (d : PyData) : Option Int := match itemsD d with
  | none => some (-1)
  | some ds => goMarked al nl nr none ds 0
theorem hu64 {A : Around} {k : Nat} (hr : Room k A) : A.units + 64 < cLine := by have := hr.un; omega
theorem goMarked_cons {al : List Nat} {nl nr : Int} {prev : Option PyData} {d : PyData} {ds : List PyData} {k : Int} : goMarked al nl nr prev (d :: ds) k = if tripleD al nl nr d = true then (if (prev.all fun p => PySem.W.dataLt p (tupOf d)) = true then goMarked al nl nr (some (tupOf d)) ds (k + 1) else some k) else some k := rfl
theorem triple_shape {al : List Nat} {nl nr : Int} {d : PyData} (h : tripleD al nl nr d = true) : ∃ a z c, itemsD d = some [.int a, .str z, .int c] := by
  unfold tripleD at h
  split at h
  · rename_i a b c hi
    rw [Bool.and_eq_true, Bool.and_eq_true] at h
    obtain ⟨h1, h2, h3⟩ := h
    cases a with
    | int a =>
      cases b with
      | str z =>
        cases c with
        | int c => exact ⟨a, z, c, hi⟩
        | _ => exact Bool.noConfusion h3
      | _ => exact Bool.noConfusion h2
    | _ => exact Bool.noConfusion h1
  · cases h
theorem rpL_flat {H : Hp} {vs : List V} {a c : Int} {z : Str} (h : RpL H vs [.int a, .str z, .int c]) : RtL H vs [.int a, .str z, .int c] := by
  cases h with
  | cons r0 h1 =>
    cases h1 with
    | cons r1 h2 =>
      cases h2 with
      | cons r2 h3 =>
        cases h3
        cases r0
        cases r1
        cases r2
        exact .cons (.int _) (.cons (.str _) (.cons (.int _) .nil))
theorem depth_tri (a c : Int) (z : Str) : (PyData.tuple [.int a, .str z, .int c]).depth ≤ 60 := by
  have : (PyData.tuple [.int a, .str z, .int c]).depth = (PyData.tuple [.int 0, .str "", .int 0]).depth := rfl
  rw [this]
  decide +kernel
theorem alike_tri (a c a' c' : Int) (z z' : Str) : PySem.W.alike (.tuple [.int a, .str z, .int c]) (.tuple [.int a', .str z', .int c']) = true := rfl
section
variable {P : Program} {w : World} {K : PySem.W.Frag} {mg : Str → Option Value} {base : Heap}
def smallM (d : PyData) : Prop := ∀ ds, itemsD d = some ds → ds.length ≤ 100000 ∧ ∀ x ∈ ds, smallTri x
def sp_kept_marked (K : PySem.W.Frag) : Sp := fun vs H Q E => ∃ (al : Str) (vl vr v : V) (dl dr : List PyData) (d : PyData), vs = [.str al, vl, vr, v] ∧ Rt H vl (.tuple dl) ∧ Rt H vr (.tuple dr) ∧ Rp H v d ∧ smallM d ∧
  (∀ k, markedDue al.cps.toList dl.length dr.length d = some k → errAt (He.ga K "BadMarked") "number" (.int k) H E) ∧
  (markedDue al.cps.toList dl.length dr.length d = none → ∀ H' r, Same H H' → Rt H' r (keptD d) → Q r H')
/-- tuple(x), x a list or a tuple: behind it the same things stand, and the data as a tuple -/
theorem tupled {H : Hp} {a : Addr} {xs : List V} {Q : VK} (h : H a = some (.lst xs) ∨ H a = some (.tup xs)) (q : ∀ H' p, Same H H' → H' p = some (.tup xs) → Q (.ref p) H') :
    ∃ p ys, [V.ref a] = [V.ref p] ∧ ((SqL K H p ys ∧ ∀ l, H l = none → Q (.ref l) (upd H l (.tup ys))) ∨ (SqT K H p ys ∧ Q (.ref p) H)) := by
  rcases h with h | h
  · exact ⟨a, xs, rfl, .inl ⟨SqL.of h, fun l hl => q _ l (fun b o e => by rw [upd_ne (ne_of_none e hl)]; exact e) upd_same⟩⟩
  · exact ⟨a, xs, rfl, .inr ⟨SqT.of h, q H a (Same.refl H) h⟩⟩
theorem ok_kept_marked (T : Txt K mg) : Cal P w K mg base (L2N.CX P w) 4 "kept_marked" ["alphabet", "left", "right", "thing"] (sp_kept_marked K) := by
  obtain ⟨fd, F⟩ := F_kept_marked T
  obtain ⟨fdR, FR⟩ := F_BadMarked___init__ T
  have bR : Binds K fdR ["self", "number"] [] := FR.bindsN fun _ _ _ _ _ _ us hl => match us, hl with | [_, _], _ => rfl
  have ex : Ex K "BadMarked" ["number"] := ex_of T 5
  refine cal_mk F (g_kept_marked T) sc_kept_marked (fun _ _ _ _ _ _ us hl => match us, hl with | [_, _, _, _], _ => rfl) (fun vs H Q E h => ?_) (fun cdv A outer s H vs Q E hr h => ?_)
  · obtain ⟨al, vl, vr, v, dl, dr, d, rfl, _⟩ := h; rfl
  · refine ⟨_, (pss_cons (ps_if (pt_not (pt_val (pe_cal (ok_is_listing T) (hr.mono (by decide)) pass0 (pa_cons (pv 3) pa_nil))))
          (pss_one (ps_raise1 ex (f := "number") (by decide) rfl (ini_item FR) bR (hr.mono (by decide)) (L2N.takes_of rfl rfl rfl rfl) (g_BadMarked T) (pa_cons (pe_un un_neg pe_int) pa_nil))) pss_nil)
      (pss_cons (ps_set (i := 4) sc_kept_marked.nd rfl (Or.inl rfl) (pe_lst pa_nil))
      (pss_cons (ps_for (passes_of rfl) rfl (pi_enumS (by rfl) (fr_enumerate T) (pa_cons (pv 3) pa_nil)) (pg_tup rfl (pgs_cons (pg_name (i := 5) sc_kept_marked.nd rfl (Or.inl rfl)) (pgs_cons (pg_name (i := 6) sc_kept_marked.nd rfl (Or.inl rfl)) pgs_nil)))
          (pss_cons (ps_if (pt_not (pt_val (pe_cal (ok_is_triple T) hr pass0 (pa_cons (pv 0) (pa_cons (pv 1) (pa_cons (pv 2) (pa_cons (pv 6) pa_nil)))))))
            (pss_one (ps_raise1 ex (f := "number") (by decide) rfl (ini_item FR) bR (hr.mono (by decide)) (L2N.takes_of rfl rfl rfl rfl) (g_BadMarked T) (pa_cons (pv 5) pa_nil))) pss_nil)
          (pss_cons (ps_if (PW.pt (pw_and (pt_truth (pv 4) (by intro _; rfl)) (pw_and1 (pt_not (pt_cmpR (op_ltD (hu64 hr)) (pe_ix ix_list (pv 4) (pe_un un_neg pe_int) (fun _ _ => rfl)) (pe_callTy call_tuple_of (by rfl) (fr_tuple T) b_tuple (pa_cons (pv 6) pa_nil)) (nomark _))))))
            (pss_one (ps_raise1 ex (f := "number") (by decide) rfl (ini_item FR) bR (hr.mono (by decide)) (L2N.takes_of rfl rfl rfl rfl) (g_BadMarked T) (pa_cons (pv 5) pa_nil))) pss_nil)
          (pss_one (ps_expr (pe_bm PySem.F.plainAttrs_list PySem.F.slot_list_append PySem.F.type_list_append mt_append (pv 4) (pa_cons (pe_callTy call_tuple_of (by rfl) (fr_tuple T) b_tuple (pa_cons (pv 6) pa_nil)) pa_nil)))))))
      (pss_one (ps_ret (pe_callTy call_tuple_of (by rfl) (fr_tuple T) b_tuple (pa_cons (pv 4) pa_nil))))))), ?_⟩
    obtain ⟨al, vl, vr, v, dl, dr, d, rfl, rl, rr, rd, sm, kE, kQ⟩ := h
    refine ⟨v, rfl, v, kd d, rfl, rd.ko, fun H1 s1 => ⟨_, rfl, ?_⟩⟩
    have rd1 := rd.same s1
    cases hb : (kd d == Kd.lst || kd d == Kd.tup) with
    | false =>
      refine iteT ?_
      have e : markedDue al.cps.toList dl.length dr.length d = some (-1) := by unfold markedDue; rw [itemsD_none hb]
      exact ⟨1, rfl, _, rfl, fun dx hd => kE (-1) e H1 s1 dx hd⟩
    | true =>
      refine iteF ?_
      obtain ⟨ds, hds⟩ := itemsD_kd hb
      obtain ⟨a, xs, rfl, hxs, hsq⟩ := rp_seq rd1 hds
      have hl : xs.length = ds.length := hxs.length
      have edue : markedDue al.cps.toList dl.length dr.length d = goMarked al.cps.toList dl.length dr.length none ds 0 := by unfold markedDue; rw [hds]
      refine ⟨by decide, fun kp hkp => ?_⟩
      obtain ⟨G, S, hG, hGs⟩ := src_seq hsq
      have s2 : Same H1 (upd H1 kp (.lst [])) := fun b o e => by rw [upd_ne (ne_of_none e hkp)]; exact e
      refine ⟨_, rfl, _, _, _, _, rfl, S, hGs _ s2, for_it walk_new (fun i σ H2 => ∃ (v5 v6 : Option V) (acc : List V), σ = [some (.str al), some vl, some vr, some (.ref a), some (.ref kp), v5, v6] ∧ Same H1 H2 ∧ H2 kp = some (.lst acc) ∧ RtL H2 acc ((ds.take i).map tupOf) ∧
        (∀ (j : Nat) x, j < i → ds[j]? = some x → tripleD al.cps.toList dl.length dr.length x = true) ∧
        goMarked al.cps.toList dl.length dr.length none ds 0 = goMarked al.cps.toList dl.length dr.length ((ds.take i).map tupOf).getLast? (ds.drop i) (i : Nat))
        ⟨none, none, [], rfl, s2, upd_same, by rw [List.take_zero]; exact .nil, fun j x hj => absurd hj (Nat.not_lt_zero _), rfl⟩ (fun i σ H2 _ ⟨_, _, _, _, s3, _⟩ => hGs _ s3) ?_ ?_⟩
      · rintro i x σ H2 H3 hi ⟨v5, v6, acc, rfl, s3, hacc, hrt, hall, hgo⟩ ⟨Tt, vs, rfl, hTn, rfl, y, rfl, hy⟩
        obtain ⟨dy, hdy, ry⟩ := hxs.get hy
        have s4 : Same H2 (upd H2 Tt (.tup [.int (i : Nat), y])) := fun b o e => by rw [upd_ne (ne_of_none e hTn)]; exact e
        have ry3 : Rp (upd H2 Tt (.tup [.int (i : Nat), y])) y dy := ry.same (s3.trans s4)
        have hdm : dy ∈ ds := List.mem_of_getElem? hdy
        have hid : i < ds.length := by omega
        have edrop : ds.drop i = dy :: ds.drop (i + 1) := by
          rw [List.drop_eq_getElem_cons hid]
          congr 1
          rw [List.getElem?_eq_getElem hid] at hdy
          exact Option.some.inj hdy
        have s14 : Same H (upd H2 Tt (.tup [.int (i : Nat), y])) := s1.trans (s3.trans s4)
        refine ⟨Tt, _, rfl, SqT.of upd_same, rfl, .int (i : Nat), _, rfl, y, _, rfl, rfl, ?_⟩
        refine ⟨.str al, rfl, vl, rfl, vr, rfl, y, rfl, al, vl, vr, y, dl, dr, dy, rfl, rl.tups (Same.tups s14), rr.tups (Same.tups s14), ry3, (sm ds hds).2 dy hdm, fun H5 s5 => ⟨_, rfl, ?_⟩⟩
        rw [edrop, goMarked_cons] at hgo
        cases htr : tripleD al.cps.toList dl.length dr.length dy with
        | false =>
          rw [htr, if_neg Bool.false_ne_true] at hgo
          exact iteT ⟨.int (i : Nat), rfl, _, rfl, fun dx hdx => kE i (edue.trans hgo) H5 (s14.trans s5) dx hdx⟩
        | true =>
          rw [htr, if_pos rfl] at hgo
          refine iteF ?_
          obtain ⟨pa, pz, pc, hit⟩ := triple_shape htr
          obtain ⟨ma, mxs, rfl, hmx, hmsq⟩ := rp_seq (ry3.same s5) hit
          have hmt := rpL_flat hmx
          have hk5 : H5 kp = some (.lst acc) := s5 _ _ (s4 _ _ hacc)
          have hrt5 := hrt.tups ((Same.tups s4).trans (Same.tups s5))
          have etup : tupOf dy = .tuple [.int pa, .str pz, .int pc] := by unfold tupOf; rw [hit]; rfl
          have htk : (ds.take (i + 1)) = ds.take i ++ [dy] := by rw [List.take_succ, hdy]; rfl
          have hal : acc.length = ((ds.take i).map tupOf).length := hrt.length
          have hsl : acc.length < sizeLine := by
            have := (sm ds hds).1
            rw [hal, List.length_map, List.length_take]
            exact Nat.lt_of_le_of_lt (by omega : min i ds.length ≤ 100000) (by decide)
          -- what follows once the new one is greater
          have app : ∀ H6, Same H5 H6 → goMarked al.cps.toList dl.length dr.length none ds 0 = goMarked al.cps.toList dl.length dr.length (some (tupOf dy)) (ds.drop (i + 1)) ((i : Nat) + 1 : Int) →
              ∀ (p : Addr), ∀ H7, Same H6 H7 → H7 p = some (.tup mxs) → ∃ (v5 v6 : Option V) (acc' : List V), [some (V.str al), some vl, some vr, some (V.ref a), some (V.ref kp), some (V.int (i : Nat)), some (V.ref ma)] = [some (.str al), some vl, some vr, some (.ref a), some (.ref kp), v5, v6] ∧
                Same H1 (upd H7 kp (.lst (acc ++ [.ref p]))) ∧ upd H7 kp (.lst (acc ++ [.ref p])) kp = some (.lst acc') ∧ RtL (upd H7 kp (.lst (acc ++ [.ref p]))) acc' ((ds.take (i + 1)).map tupOf) ∧
                (∀ (j : Nat) x, j < i + 1 → ds[j]? = some x → tripleD al.cps.toList dl.length dr.length x = true) ∧
                goMarked al.cps.toList dl.length dr.length none ds 0 = goMarked al.cps.toList dl.length dr.length ((ds.take (i + 1)).map tupOf).getLast? (ds.drop (i + 1)) ((i + 1 : Nat) : Int) := by
            intro H6 s6 hg6 p H7 s7 hp
            have s57 := s6.trans s7
            have hk7 : H7 kp = some (.lst acc) := s57 _ _ hk5
            have tu : Tups H7 (upd H7 kp (.lst (acc ++ [.ref p]))) := tups_upd hk7 fun xs z => by cases z
            refine ⟨_, _, _, rfl, ?_, upd_same, ?_, ?_, ?_⟩
            · intro b o e
              rw [upd_ne (ne_of_none e hkp)]
              exact s57 _ _ (s5 _ _ (s4 _ _ (s3 _ _ e)))
            · rw [htk, List.map_append]
              refine RtL.append (d := tupOf dy) ?_ ((hrt5.tups (Same.tups s57)).tups tu)
              rw [etup]
              exact .tup (tu _ _ hp) ((hmt.tups (Same.tups s57)).tups tu)
            · intro j x hj hx
              by_cases hji : j < i
              · exact hall j x hji hx
              · have : j = i := by omega
                subst this
                rw [hdy] at hx
                cases hx
                exact htr
            · rw [htk, List.map_append, hg6]
              simp
          have hsq5 : ∀ H6, Same H5 H6 → H6 ma = some (.lst mxs) ∨ H6 ma = some (.tup mxs) := fun H6 s6 => hmsq.imp (fun z => s6 _ _ z) (fun z => s6 _ _ z)
          -- kept and not kept[-1] < tuple(triple)
          cases hac : acc.reverse with
          | nil =>
            have e0 : acc = [] := by simpa using hac
            subst e0
            have hz0 : ((ds.take i).map tupOf) = [] := List.length_eq_zero_iff.mp hal.symm
            rw [hz0] at hgo
            refine ⟨.ref kp, rfl, false, .inl ⟨_, SqL.of hk5, rfl⟩, iteF (iteF ?_)⟩
            refine ⟨.ref kp, rfl, .inl ⟨rfl, _, SqL.of hk5⟩, .ref ma, rfl, ?_⟩
            rcases hsq5 H5 (Same.refl _) with hm | hm
            · refine ⟨ma, mxs, rfl, .inl ⟨SqL.of hm, fun l hl => ?_⟩⟩
              have s7 : Same H5 (upd H5 l (.tup mxs)) := fun b o e => by rw [upd_ne (ne_of_none e hl)]; exact e
              exact ⟨kp, [], _, rfl, rfl, s7 _ _ hk5, hsl, app H5 (Same.refl _) hgo l _ s7 upd_same⟩
            · exact ⟨ma, mxs, rfl, .inr ⟨SqT.of hm, kp, [], _, rfl, rfl, hk5, hsl, app H5 (Same.refl _) hgo ma H5 (Same.refl _) hm⟩⟩
          | cons lastV restR =>
            have e1 : acc = restR.reverse ++ [lastV] := by
              have := congrArg List.reverse hac
              simpa using this
            subst e1
            -- the last one's data
            have hlast : ∃ dp, ((ds.take i).map tupOf).getLast? = some dp ∧ Rt H5 lastV dp := by
              have hg := hrt5.get (i := restR.reverse.length) (v := lastV) (by simp)
              obtain ⟨dp, h1, h2⟩ := hg
              refine ⟨dp, ?_, h2⟩
              rw [List.getLast?_eq_getElem?, ← hal]
              simpa using h1
            obtain ⟨dp, hdp, hrp⟩ := hlast
            rw [hdp] at hgo
            have hshape : ∃ a' z' c', dp = .tuple [.int a', .str z', .int c'] := by
              have hmem := List.mem_of_getLast? hdp
              obtain ⟨d0, h0, rfl⟩ := List.mem_map.mp hmem
              obtain ⟨j, hj⟩ := List.mem_iff_getElem?.mp h0
              have hji : j < i := by
                have := (List.getElem?_eq_some_iff.mp hj).1
                rw [List.length_take] at this
                omega
              rw [List.getElem?_take_of_lt hji] at hj
              obtain ⟨a', z', c', hit'⟩ := triple_shape (hall j d0 hji hj)
              exact ⟨a', z', c', by unfold tupOf; rw [hit']; rfl⟩
            obtain ⟨pa', pz', pc', rfl⟩ := hshape
            refine ⟨.ref kp, rfl, true, .inl ⟨_, SqL.of hk5, by simp⟩, iteT ?_⟩
            refine ⟨.ref kp, rfl, 1, rfl, kp, _, _, lastV, rfl, rfl, SqL.of hk5, atI_last _ _, .ref ma, rfl, ?_⟩
            have elt : (Option.all (fun p => PySem.W.dataLt p (tupOf dy)) (some (.tuple [.int pa', .str pz', .int pc']))) = PySem.W.dataLt (.tuple [.int pa', .str pz', .int pc']) (.tuple [.int pa, .str pz, .int pc]) := by
              rw [← etup]
              rfl
            rw [elt] at hgo
            rcases hsq5 H5 (Same.refl _) with hm | hm
            · refine ⟨ma, mxs, rfl, .inl ⟨SqL.of hm, fun l hl => ?_⟩⟩
              have s6 : Same H5 (upd H5 l (.tup mxs)) := fun b o e => by rw [upd_ne (ne_of_none e hl)]; exact e
              refine ⟨_, _, (hrp.tups (Same.tups s6)).dp, (Rt.tup upd_same (hmt.tups (Same.tups s6))).dp, alike_tri _ _ _ _ _ _, (fun z => by cases z), depth_tri _ _ _, _, rfl, ?_⟩
              cases hlt : PySem.W.dataLt (.tuple [.int pa', .str pz', .int pc']) (.tuple [.int pa, .str pz, .int pc]) with
              | false =>
                rw [hlt, if_neg Bool.false_ne_true] at hgo
                exact iteT ⟨.int (i : Nat), rfl, _, rfl, fun dx hdx => kE i (edue.trans hgo) _ (s14.trans (s5.trans s6)) dx hdx⟩
              | true =>
                rw [hlt, if_pos rfl] at hgo
                refine iteF ?_
                have hk6 := s6 _ _ hk5
                refine ⟨.ref kp, rfl, .inl ⟨rfl, _, SqL.of hk6⟩, .ref ma, rfl, ma, mxs, rfl, .inl ⟨SqL.of (s6 _ _ hm), fun l2 hl2 => ?_⟩⟩
                have s7 : Same (upd H5 l (.tup mxs)) (upd (upd H5 l (.tup mxs)) l2 (.tup mxs)) := fun b o e => by rw [upd_ne (ne_of_none e hl2)]; exact e
                exact ⟨kp, _, _, rfl, rfl, s7 _ _ hk6, hsl, app _ s6 hgo l2 _ s7 upd_same⟩
            · refine ⟨ma, mxs, rfl, .inr ⟨SqT.of hm, ?_⟩⟩
              refine ⟨_, _, hrp.dp, (Rt.tup hm hmt).dp, alike_tri _ _ _ _ _ _, (fun z => by cases z), depth_tri _ _ _, _, rfl, ?_⟩
              cases hlt : PySem.W.dataLt (.tuple [.int pa', .str pz', .int pc']) (.tuple [.int pa, .str pz, .int pc]) with
              | false =>
                rw [hlt, if_neg Bool.false_ne_true] at hgo
                exact iteT ⟨.int (i : Nat), rfl, _, rfl, fun dx hdx => kE i (edue.trans hgo) _ (s14.trans s5) dx hdx⟩
              | true =>
                rw [hlt, if_pos rfl] at hgo
                refine iteF ?_
                exact ⟨.ref kp, rfl, .inl ⟨rfl, _, SqL.of hk5⟩, .ref ma, rfl, ma, mxs, rfl, .inr ⟨SqT.of hm, kp, _, _, rfl, rfl, hk5, hsl, app H5 (Same.refl _) hgo ma H5 (Same.refl _) hm⟩⟩
      · rintro σ H2 ⟨v5, v6, acc, rfl, s3, hacc, hrt, hall, hgo⟩
        rw [hl, List.take_length] at hrt
        rw [hl, List.drop_length] at hgo
        refine ⟨.ref kp, rfl, kp, acc, rfl, .inl ⟨SqL.of hacc, fun p hp0 => ?_⟩⟩
        have s7 : Same H2 (upd H2 p (.tup acc)) := fun b o e => by rw [upd_ne (ne_of_none e hp0)]; exact e
        have hp : upd H2 p (.tup acc) p = some (.tup acc) := upd_same
        have hnone : markedDue al.cps.toList dl.length dr.length d = none := edue.trans (by rw [hgo]; unfold goMarked; rfl)
        refine kQ hnone _ _ (s1.trans (s3.trans s7)) ?_
        have e : keptD d = .tuple (ds.map tupOf) := by unfold keptD; rw [hds]; rfl
        rw [e]
        exact .tup hp (hrt.tups (Same.tups s7))
end
end Kx
set_option Elab.async false
set_option linter.all false
set_option maxRecDepth 100000
set_option maxHeartbeats 2000000
namespace Kx
open PySem PySem.Spec PySem.Calls PyProof.Rows L2 Builtin
def iZip3S (K : PySem.W.Frag) (ta : TA) : TI := fun σ H R => ta σ H fun vs H1 => ∃ x1 n1 G1 E1 x2 n2 G2 E2 x3 n3 G3 E3, vs = [x1, x2, x3] ∧ Src K x1 n1 G1 E1 ∧ Src K x2 n2 G2 E2 ∧ Src K x3 n3 G3 E3 ∧ G1 H1 ∧ G2 H1 ∧ G3 H1 ∧
  R (ItN (min (min n1 n2) n3) (fun H => G1 H ∧ G2 H ∧ G3 H) (YZ3 E1 E2 E3)) H1
section
variable {X : Cx}
theorem turn_zip3S {P : Program} {w : World} {K : PySem.W.Frag} {elts : List Expr} {kk : Nat} {tpos : Pos} {z TI TO i1 i2 i3 : Addr} {n1 n2 n3 : Nat} {G1 G2 G3 : Hp → Prop} {E1 E2 E3 : Nat → V → Prop} {own1 own2 own3 : Nat → Heap → Prop}
    {kf1 kf2 kf3 : List Addr} (hk1 : ∀ b ∈ [z, TI, TO, i1, i2, i3], b ∉ kf1) (hk2 : ∀ b ∈ [z, TI, TO, i1, i2, i3], b ∉ kf2) (hk3 : ∀ b ∈ [z, TI, TO, i1, i2, i3], b ∉ kf3) (d : [z, TI, TO, i1, i2, i3].Nodup) (S1 : SrcI P w K i1 n1 G1 E1 own1 kf1) (S2 : SrcI P w K i2 n2 G2 E2 own2 kf2) (S3 : SrcI P w K i3 n3 G3 E3 own3 kf3) :
    Turn P w K (.Tuple elts kk tpos) (ItN (min (min n1 n2) n3) (fun H => G1 H ∧ G2 H ∧ G3 H) (YZ3 E1 E2 E3)) [z, TI, TO, i1, i2, i3] z
      (fun i h => IsZip h z TI TO .none ∧ IsTupOf3 h TI (.ref i1) (.ref i2) (.ref i3) ∧ (∃ a1 a2 a3, IsTupOf3 h TO a1 a2 a3) ∧ own1 i h ∧ own2 i h ∧ own3 i h) := by
  simp only [List.nodup_cons, List.mem_cons, List.not_mem_nil, or_false, not_or, not_false_eq_true, List.nodup_nil, and_true] at d
  obtain ⟨⟨d1, d2, d3, d4, d5⟩, ⟨d6, d7, d8, d9⟩, ⟨d10, d11, d12⟩, ⟨d13, d14⟩, d15⟩ := d
  refine turn_of (by simp) (fun i vs ⟨x, y, z, e, _⟩ => by rw [e]; exact small3 (by simp)) (fun i h st b hb => ?_) (fun i h h' st k => ?_) (fun X hP hw hK hc pins s σ H j I hn st hg => ?_) (fun A i s Q E st h => ?_)
  · obtain ⟨hz, hTI, ⟨a1, a2, a3, hTO⟩, o1, o2, o3⟩ := st
    have e' : b = z ∨ b = TI ∨ b = TO ∨ b = i1 ∨ b = i2 ∨ b = i3 := by simpa using hb
    rcases e' with q | q | q | q | q | q
    · rw [q]; exact ⟨_, hz, fun v q => nomatch q⟩
    · rw [q]; exact ⟨_, hTI, fun v q => nomatch q⟩
    · rw [q]; exact ⟨_, hTO, fun v q => nomatch q⟩
    · rw [q]; exact S1.obj i h o1
    · rw [q]; exact S2.obj i h o2
    · rw [q]; exact S3.obj i h o3
  · obtain ⟨hz, hTI, ⟨a1, a2, a3, hTO⟩, o1, o2, o3⟩ := st
    exact ⟨k z (by simp) _ hz, k TI (by simp) _ hTI, ⟨a1, a2, a3, k TO (by simp) _ hTO⟩, S1.keep i h h' o1 fun o q => k i1 (by simp) o q, S2.keep i h h' o2 fun o q => k i2 (by simp) o q, S3.keep i h h' o3 fun o q => k i3 (by simp) o q⟩
  · obtain ⟨f1, Pv1, Sd1, D1, hf1, a1, b1, c1⟩ := S1.dr X hP hw hK hc pins s σ H I hg.1 (hn i1 (by simp))
    obtain ⟨f2, Pv2, Sd2, D2, hf2, a2, b2, c2⟩ := S2.dr X hP hw hK hc pins s σ H I hg.2.1 (hn i2 (by simp))
    obtain ⟨f3, Pv3, Sd3, D3, hf3, a3, b3, c3⟩ := S3.dr X hP hw hK hc pins s σ H I hg.2.2 (hn i3 (by simp))
    have no : ∀ {b : Addr} {fs kf : List Addr}, b ∉ kf → H b = none → (∀ b ∈ fs, (∃ o, H b = some o) ∨ b ∈ kf) → b ∉ fs := fun {b fs kf} hk h hf hm => by
      rcases hf b hm with ⟨o, q⟩ | q
      · rw [h] at q; cases q
      · exact hk q
    have nc : ∀ {b c : Addr} {fs kf : List Addr}, b ≠ c → b ∉ kf → H b = none → (∀ b ∈ fs, (∃ o, H b = some o) ∨ b ∈ kf) → b ∉ c :: fs := fun {b c fs kf} h1 hk h2 h3 hm => (List.mem_cons.mp hm).elim h1 (no hk h2 h3)
    have hZ := hn z (by simp)
    have hO := hn TO (by simp)
    have h1 := hn i1 (by simp)
    have h2 := hn i2 (by simp)
    have h3 := hn i3 (by simp)
    have SP : ZipSep3 z TI TO i1 i2 i3 (i1 :: f1) (i2 :: f2) (i3 :: f3) := {
      TIz := Ne.symm d1, TOz := Ne.symm d2, TITO := d6, TIi1 := d7, mem1 := List.mem_cons_self .., zf1 := nc d3 (hk1 z (by simp)) hZ hf1, Tf1 := nc d10 (hk1 TO (by simp)) hO hf1,
      TIi2 := d8, mem2 := List.mem_cons_self .., zf2 := nc d4 (hk2 z (by simp)) hZ hf2, Tf2 := nc d11 (hk2 TO (by simp)) hO hf2,
      TIi3 := d9, mem3 := List.mem_cons_self .., zf3 := nc d5 (hk3 z (by simp)) hZ hf3, Tf3 := nc d12 (hk3 TO (by simp)) hO hf3,
      sep1_2 := nc d13 (hk2 i1 (by simp)) h1 hf2, sep1_3 := nc d14 (hk3 i1 (by simp)) h1 hf3, sep2_1 := nc (Ne.symm d13) (hk1 i2 (by simp)) h2 hf1, sep2_3 := nc d15 (hk3 i2 (by simp)) h2 hf3, sep3_1 := nc (Ne.symm d14) (hk1 i3 (by simp)) h3 hf1, sep3_2 := nc (Ne.symm d15) (hk2 i3 (by simp)) h3 hf2 }
    refine ⟨_, _, _, _, _, (fun b hb => ?_), WalksT.zipD3 SP D1 D2 D3, fun i st => ⟨st.1, st.2.1, st.2.2.1, a1 i st.2.2.2.1, a2 i st.2.2.2.2.1, a3 i st.2.2.2.2.2⟩, fun i h st => ⟨st.1, st.2.1, st.2.2.1, b1 i h st.2.2.2.1, b2 i h st.2.2.2.2.1, b3 i h st.2.2.2.2.2⟩, fun i vals hi hv => ?_⟩
    · have e' : b = z ∨ b = TO ∨ b = i1 ∨ b = i2 ∨ b = i3 := by simpa using hb
      rcases e' with q | q | q | q | q <;> rw [q] <;> simp
    · obtain ⟨x, y, u, hx, hy, hu, rfl⟩ := hv
      obtain ⟨v1, r1, e1⟩ := c1 i x hx
      obtain ⟨v2, r2, e2⟩ := c2 i y hy
      obtain ⟨v3, r3, e3⟩ := c3 i u hu
      exact ⟨[v1, v2, v3], .cons r1 (.cons r2 (.cons r3 .nil)), v1, v2, v3, rfl, e1, e2, e3⟩
  · obtain ⟨hz, _⟩ := st
    exact wpAny_pyIter_zip hz h
theorem pi_zip3S {e e2 e3 : Expr} {ta : TA} {p pos tpos : Pos} {elts : List Expr} {kk : Nat} (hg : Gl X "zip") (hm : X.mg "zip" = none) (ha : PA X [e, e2, e3] ta)
    (hs : starEach [e, e2, e3] X.env = (false, eval e X.env) :: starEach [e2, e3] X.env := by rfl) (hpl : (backTo pos (starEach [e2, e3] X.env)).any (·.1) = false := by rfl) :
    PI X (.Tuple elts kk tpos) (.Call (.Name "zip" p) [e, e2, e3] [] pos) (iZip3S X.K ta) := by
  refine ⟨fun pins s σ H R I h => ?_⟩
  refine Call_ (ld_blt I hg hm boot_zip (PyProof.Rows.callWith_type1 (thn (ha.run pos pins s σ H _ I h) fun us s1 ⟨vs, H1, I1, r1, q1⟩ => ?_) hs hpl))
  obtain ⟨x1, n1, G1, E1, x2, n2, G2, E2, x3, n3, G3, E3, ex, S1, S2, S3, hg1, hg2, hg3, q⟩ := q1
  subst ex
  cases r1 with
  | cons r rr =>
    cases rr with
    | cons r2 rr2 =>
      cases rr2 with
      | cons r3 rr3 =>
        cases rr3
        obtain ⟨o1, Hs1, kf1, B1, b1, hkf1, hown1⟩ := src_begins S1 I1 hg1 r
        obtain ⟨o2, Hs2, kf2, B2, b2, hkf2, hown2⟩ := src_begins S2 I1 hg2 r2
        obtain ⟨o3, Hs3, kf3, B3, b3, hkf3, hown3⟩ := src_begins S3 I1 hg3 r3
        have nk1 : ∀ b, s1.heap.objs.size ≤ b → b ∉ kf1 := fun b hb hm => absurd (hkf1 b hm) (Nat.not_lt.mpr hb)
        have nk2 : ∀ b, s1.heap.objs.size ≤ b → b ∉ kf2 := fun b hb hm => absurd (hkf2 b hm) (Nat.not_lt.mpr hb)
        have nk3 : ∀ b, s1.heap.objs.size ≤ b → b ∉ kf3 := fun b hb hm => absurd (hkf3 b hm) (Nat.not_lt.mpr hb)
        have own6 : ∀ b ∈ [s1.heap.objs.size + 5, s1.heap.objs.size + 3, s1.heap.objs.size + 4, s1.heap.objs.size, s1.heap.objs.size + 1, s1.heap.objs.size + 2], s1.heap.objs.size ≤ b := fun b hb => by
          have e' : b = s1.heap.objs.size + 5 ∨ b = s1.heap.objs.size + 3 ∨ b = s1.heap.objs.size + 4 ∨ b = s1.heap.objs.size ∨ b = s1.heap.objs.size + 1 ∨ b = s1.heap.objs.size + 2 := by simpa using hb
          rcases e' with q | q | q | q | q | q <;> (rw [q]; first | exact Nat.le_add_right _ _ | exact Nat.le_refl _)
        obtain ⟨own1, SI1, hst1⟩ := hown1 s1.heap.objs.size (nk1 _ (Nat.le_refl _))
        obtain ⟨own2, SI2, hst2⟩ := hown2 (s1.heap.objs.size + 1) (nk2 _ (Nat.le_add_right _ _))
        obtain ⟨own3, SI3, hst3⟩ := hown3 (s1.heap.objs.size + 2) (nk3 _ (Nat.le_add_right _ _))
        refine zip_begins3 B1 B2 B3 b1 b2 b3 fun h' hz hTI hTO h1 h2 h3 hsz hk => wpAny_pyIter_zip hz ?_
        have I2 : Inv X pins σ H1 { s1 with heap := h' } := I1.kept (t' := s1.toks) hk
        refine ⟨s1.heap.objs.size + 5, [s1.heap.objs.size + 5, s1.heap.objs.size + 3, s1.heap.objs.size + 4, s1.heap.objs.size, s1.heap.objs.size + 1, s1.heap.objs.size + 2], _, _, H1, rfl, I2, turn_zip3S (fun b hb => nk1 b (own6 b hb)) (fun b hb => nk2 b (own6 b hb)) (fun b hb => nk3 b (own6 b hb)) (by simp) SI1 SI2 SI3, ⟨hz, hTI, ⟨_, _, _, hTO⟩, hst1 h' h1, hst2 h' h2, hst3 h' h3⟩, fun b hb => ?_, q⟩
        have hle : s1.heap.objs.size ≤ b := by
          have e' : b = s1.heap.objs.size + 5 ∨ b = s1.heap.objs.size + 3 ∨ b = s1.heap.objs.size + 4 ∨ b = s1.heap.objs.size ∨ b = s1.heap.objs.size + 1 ∨ b = s1.heap.objs.size + 2 := by simpa using hb
          rcases e' with q | q | q | q | q | q <;> (rw [q]; first | exact Nat.le_add_right _ _ | exact Nat.le_refl _)
        exact I1.fpOk hle (I1.hok.fresh hle)
end
end Kx
set_option Elab.async false
set_option linter.all false
set_option maxRecDepth 100000
set_option maxHeartbeats 2000000
namespace Kx
open PySem PySem.Spec PyProof.Rows L2
/-! ### a pair's data -/
abbrev Tri := Nat × Nat × Nat
def encTri (t : Tri) : PyData := .tuple [.int (t.1 : Nat), .str ⟨#[t.2.1]⟩, .int (t.2.2 : Nat)]
def encT (trs : List Tri) : PyData := .tuple (trs.map encTri)
/-- the marked right standings of a left standing and a letter's number, as a mask -/
def maskT (ix : Nat → Nat) (p k : Nat) (trs : List Tri) : Nat := trs.foldl (fun m t => if t.1 = p ∧ ix t.2.1 = k then m ||| 1 <<< t.2.2 else m) 0
def encK (ix : Nat → Nat) (nl na : Nat) (trs : List Tri) : PyData := .tuple ((List.range nl).map fun p => .tuple ((List.range na).map fun k => .int (maskT ix p k trs : Nat)))
def fldsP (al : Str) (vl vr vm vk : V) : List (Str × V) := [("alphabet", .str al), ("left", vl), ("right", vr), ("marked", vm), ("masks", vk)]
structure PairD where
  al : Str
  ix : Nat → Nat
  l : Tab
  r : Tab
  m : List Tri
/-- at x: such a pair -/
def PairAt (K : PySem.W.Frag) (H : Hp) (x : Addr) (D : PairD) : Prop := ∃ (dx : Addr) (vl vr vm vk : V), H x = some (.ins (He.ga K "Pair") dx (fldsP D.al vl vr vm vk)) ∧ H dx = some (.own x) ∧
  Rt H vl (encR D.l) ∧ Rt H vr (encR D.r) ∧ Rt H vm (encT D.m) ∧ Rt H vk (encK D.ix D.l.length D.al.length D.m)
structure PairOk (D : PairD) : Prop where
  al : D.al.length ≤ 8
  ix : IxOk D.al D.ix
  l : TabOk D.l D.al.length
  r : TabOk D.r D.al.length
  abc : ∀ c ∈ D.al.cps.toList, c < 0x110000
  m : ∀ t ∈ D.m, t.1 < D.l.length ∧ t.2.1 ∈ D.al.cps.toList ∧ t.2.2 < D.r.length
theorem PairAt.same {K : PySem.W.Frag} {H H' : Hp} {x : Addr} {D : PairD} (s : Same H H') (h : PairAt K H x D) : PairAt K H' x D := by
  obtain ⟨dx, vl, vr, vm, vk, h1, h2, h3, h4, h5, h6⟩ := h
  exact ⟨dx, vl, vr, vm, vk, s _ _ h1, s _ _ h2, h3.tups (Same.tups s), h4.tups (Same.tups s), h5.tups (Same.tups s), h6.tups (Same.tups s)⟩
/-- a table's row, its item -/
theorem rt_mask {H : Hp} {v : V} {ix : Nat → Nat} {nl na : Nat} {trs : List Tri} {p k : Nat} (h : Rt H v (encK ix nl na trs)) (hp : p < nl) (hk : k < na) :
    ∃ a xs b ys, v = .ref a ∧ H a = some (.tup xs) ∧ xs[p]? = some (.ref b) ∧ H b = some (.tup ys) ∧ ys[k]? = some (.int (maskT ix p k trs : Nat)) := by
  unfold encK at h
  cases h with
  | @tup a xs _ ha hx =>
    have hl := hx.length
    rw [List.length_map, List.length_range] at hl
    have hpx : p < xs.length := by omega
    obtain ⟨d, hd, rd⟩ := hx.get (i := p) (List.getElem?_eq_getElem hpx)
    rw [List.getElem?_map, List.getElem?_range hp] at hd
    have ed := (Option.some.inj hd).symm
    subst ed
    generalize hv : xs[p] = y at rd
    cases rd with
    | @tup b ys _ hb hy =>
      have hl2 := hy.length
      rw [List.length_map, List.length_range] at hl2
      have hky : k < ys.length := by omega
      obtain ⟨d2, hd2, rd2⟩ := hy.get (i := k) (List.getElem?_eq_getElem hky)
      rw [List.getElem?_map, List.getElem?_range hk] at hd2
      have e2 := (Option.some.inj hd2).symm
      subst e2
      refine ⟨a, xs, b, ys, rfl, ha, by rw [List.getElem?_eq_getElem hpx, hv], hb, ?_⟩
      rw [List.getElem?_eq_getElem hky]
      generalize ys[k] = z at rd2
      cases rd2
      rfl
/-- where it marks -/
def markAt (D : PairD) (p c q : Nat) : Bool := (maskT D.ix p (D.ix c) D.m).testBit q
def marksP (D : PairD) (cs : List Nat) : List Bool := ((aheadT D.l D.ix 0 cs).zip (cs.zip (behindT D.r D.ix cs))).map fun x => markAt D x.1 x.2.1 x.2.2
theorem behindT_length (t : Tab) (ix : Nat → Nat) (cs : List Nat) : (behindT t ix cs).length = cs.length := by
  unfold behindT
  rw [List.length_reverse, aheadT_length, List.length_reverse]
theorem runT_lt {t : Tab} {na : Nat} {ix : Nat → Nat} (T : TabOk t na) : ∀ (cs : List Nat) (p : Nat), (∀ c ∈ cs, ix c < na) → p < t.length → runT t ix p cs < t.length
  | [], p, _, hp => hp
  | c :: cs, p, hc, hp => runT_lt T cs (stepT t p (ix c)) (fun d hd => hc d (List.mem_cons_of_mem _ hd)) (stepT_lt T hp (hc c (List.mem_cons_self ..)))
theorem aheadT_lt {t : Tab} {na : Nat} {ix : Nat → Nat} (T : TabOk t na) : ∀ (cs : List Nat) (p : Nat), (∀ c ∈ cs, ix c < na) → p < t.length → ∀ x ∈ aheadT t ix p cs, x < t.length
  | [], _, _, _, x, hx => by cases hx
  | c :: cs, p, hc, hp, x, hx => by
    rcases List.mem_cons.mp (show x ∈ p :: aheadT t ix (stepT t p (ix c)) cs from hx) with e | hx
    · rw [e]; exact hp
    · exact aheadT_lt T cs _ (fun d hd => hc d (List.mem_cons_of_mem _ hd)) (stepT_lt T hp (hc c (List.mem_cons_self ..))) x hx
section
variable {P : Program} {w : World} {K : PySem.W.Frag} {mg : Str → Option Value} {base : Heap}
def encB (bs : List Bool) : PyData := .tuple (bs.map .bool)
theorem rtL_bls {H : Hp} : ∀ (bs : List Bool), RtL H (bs.map V.bl) (bs.map PyData.bool)
  | [] => .nil
  | b :: bs => .cons (.bl b) (rtL_bls bs)
def sp_marks_in (K : PySem.W.Frag) : Sp := fun vs H Q _ => ∃ (x : Addr) (D : PairD) (row : Str), vs = [.ref x, .str row] ∧ PairAt K H x D ∧ PairOk D ∧ (∀ c ∈ row.cps.toList, c ∈ D.al.cps.toList) ∧ row.length ≤ 1000 ∧
  ∀ H' r, Same H H' → Rt H' r (encB (marksP D row.cps.toList)) → Q r H'
theorem ok_marks_in (T : Txt K mg) : Cal P w K mg base CX0 3 "marks_in" ["pair", "row"] (sp_marks_in K) := by
  obtain ⟨fd, F⟩ := F_marks_in T
  refine cal_mk F (g_marks_in T) sc_marks_in (fun _ _ _ _ _ _ us hl => match us, hl with | [_, _], _ => rfl) (fun vs H Q E h => ?_) (fun cdv A outer s H vs Q E hr h => ?_)
  · obtain ⟨x, D, row, rfl, _⟩ := h; rfl
  · refine ⟨_, PSs.nox (pss_cons (ps_set (i := 2) sc_marks_in.nd rfl (Or.inl rfl) (pe_cal (ok_standings_ahead T) (hr.mono (by decide)) pass0 (pa_cons (pe_fld (pv 0) rfl) (pa_cons (pe_fld (pv 0) rfl) (pa_cons (pv 1) pa_nil)))))
      (pss_cons (ps_set (i := 3) sc_marks_in.nd rfl (Or.inl rfl) (pe_cal (ok_standings_behind T) hr pass0 (pa_cons (pe_fld (pv 0) rfl) (pa_cons (pe_fld (pv 0) rfl) (pa_cons (pv 1) pa_nil)))))
      (pss_cons (ps_setLc (i := 4) (own := [("letter", 5)]) (g := gName 5) (tt := tYes) rfl sc_marks_in.nd rfl rfl (sw_true rfl rfl rfl (by decide +kernel)) (pi_str (pv 1)) (blkOk_by (N := N_marks_in) (sc := defScope s_marks_in) (by decide +kernel))
        (fun _ _ _ _ _ => pg_name (i := 5) sc_marks_in.nd rfl (Or.inl rfl)) (fun _ _ _ _ _ => pts_nil) (fun _ _ _ _ _ => by refine pe_m1 (to := tFld K (tVar 0) "alphabet") (te := tVar 5) PySem.F.slot_str_find PySem.F.type_str_find mt_find ?_ (pv 5); exact pe_fld (pv 0) rfl))
      (pss_one (ps_ret (pe_callTy call_tuple_of (by rfl) (fr_tuple T) b_tuple (pa_cons (pe_lc (own := [("p", 6), ("k", 7), ("q", 8)]) (g := gTup K 3 (gCons (gName 6) (gCons (gName 7) (gCons (gName 8) gNil)))) (tt := tYes) rfl sc_marks_in.nd
        (pi_zip3S (by rfl) (fr_zip T) (pa_cons (pv 2) (pa_cons (pv 4) (pa_cons (pv 3) pa_nil)))) (blkOk_by (N := N_marks_in) (sc := defScope s_marks_in) (by decide +kernel))
        (fun _ _ _ _ _ => by exact pg_tup rfl (pgs_cons (pg_name (i := 6) sc_marks_in.nd rfl (Or.inl rfl)) (pgs_cons (pg_name (i := 7) sc_marks_in.nd rfl (Or.inl rfl)) (pgs_cons (pg_name (i := 8) sc_marks_in.nd rfl (Or.inl rfl)) pgs_nil)))) (fun _ _ _ _ _ => pts_nil)
        (fun _ _ _ _ _ => by refine pe_cal (ok_has_bit T) (hr.mono (by decide)) pass0 (pa_cons (te := tOp (rIxT K) (tOp (rIxT K) (tFld K (tVar 0) "masks") (tVar 6)) (tVar 7)) (pe_ix ix_tup (pe_ix ix_tup ?_ (pv 6) (fun _ _ => rfl)) (pv 7) (fun _ _ => rfl)) (pa_cons (pv 8) pa_nil)); exact pe_fld (pv 0) rfl)) pa_nil))))))), ?_⟩
    obtain ⟨x, D, row, rfl, PA, PO, hrow, hlen, q⟩ := h
    obtain ⟨dx, vl, vr, vm, vk, h1, h2, h3, h4, h5, h6⟩ := PA
    have C := cls_Pair T
    have hsz : row.cps.toList.length = row.length := Array.length_toList
    have hix : ∀ c ∈ row.cps.toList, D.ix c < D.al.length := fun c hc => PO.ix.lt c (hrow c hc)
    -- ahead
    refine ⟨.ref x, rfl, x, _, dx, _, _, rfl, h1, C, noat_Pair_alphabet T, rfl, .ref x, rfl, x, _, dx, _, _, rfl, h1, C, noat_Pair_left T, rfl, .str row, rfl, D.al, vl, row, D.l, D.ix, rfl, h3, PO.l, PO.ix, hrow, hlen, fun H1 pA s1 nA eA => ?_⟩
    have h1a := s1 _ _ h1
    refine ⟨.ref x, rfl, x, _, dx, _, _, rfl, h1a, C, noat_Pair_alphabet T, rfl, .ref x, rfl, x, _, dx, _, _, rfl, h1a, C, noat_Pair_right T, rfl, .str row, rfl, D.al, vr, row, D.r, D.ix, rfl, h4.tups (Same.tups s1), PO.r, PO.ix, hrow, hlen, fun H2 pB s2 nB eB => ?_⟩
    have h1b := s2 _ _ h1a
    have eA2 := s2 _ _ eA
    -- letters
    refine ⟨.str row, rfl, row, rfl, fun L hL => ?_⟩
    refine lc_new walk_str hL (Nat.le_trans (by show row.length ≤ 1000; exact hlen) (by decide)) (fun (i : Nat) _ v => ∀ c, row.cps.toList[i]? = some c → v = V.int ((D.ix c : Nat) : Int)) (fun _ _ _ _ _ h => h) (fun _ _ => trivial)
      (fun i y H3 H4 Qk hi sH hy hk => ?_) (fun H3 acc s3 hL3 hl hv => ?_)
    · obtain ⟨e, c, hc, rfl⟩ := hy
      subst e
      have hc' : row.cps.toList[i]? = some c := by rw [Array.getElem?_toList]; exact hc
      refine ⟨rfl, .ref x, rfl, x, _, dx, _, _, rfl, sH _ _ h1b, C, noat_Pair_alphabet T, rfl, ⟨D.al, rfl⟩, .str ⟨#[c]⟩, rfl, D.al, ⟨#[c]⟩, rfl, rfl, hk _ _ (Same.refl _) fun c' h' => ?_⟩
      rw [hc'] at h'
      cases h'
      rw [PO.ix.find c (hrow c (List.mem_of_getElem? hc'))]
    · have eacc : acc = (row.cps.toList.map D.ix).map fun k => V.int ((k : Nat) : Int) := by
        apply List.ext_getElem?
        intro i
        by_cases hi : i < row.cps.toList.length
        · have h9 : i < acc.length := by rw [hl]; rw [hsz] at hi; exact hi
          rw [List.getElem?_eq_getElem h9, hv i _ (List.getElem?_eq_getElem h9) row.cps.toList[i] (List.getElem?_eq_getElem hi), List.getElem?_map, List.getElem?_map, List.getElem?_eq_getElem hi]
          rfl
        · rw [List.getElem?_eq_none (by rw [hl]; rw [hsz] at hi; exact Nat.le_of_not_lt hi), List.getElem?_eq_none (by rw [List.length_map, List.length_map]; omega)]
      subst eacc
      have eA3 := s3 _ _ eA2
      have eB3 := s3 _ _ eB
      have h13 := s3 _ _ h1b
      -- the marks
      refine ⟨.ref pA, rfl, .ref L, rfl, .ref pB, rfl, .ref pA, _, _, _, .ref L, _, _, _, .ref pB, _, _, _, rfl, .lst pA _, .lst L _, .lst pB _, eA3, hL3, eB3, fun D2 hD2 => ?_⟩
      have hmin : min (min ((aheadT D.l D.ix 0 row.cps.toList).map fun k => V.int ((k : Nat) : Int)).length ((row.cps.toList.map D.ix).map fun k => V.int ((k : Nat) : Int)).length) ((behindT D.r D.ix row.cps.toList).map fun k => V.int ((k : Nat) : Int)).length = row.length := by
        rw [List.length_map, List.length_map, List.length_map, List.length_map, aheadT_length, behindT_length, hsz]
        omega
      have s13 : Same H H3 := s1.trans (s2.trans s3)
      have h63 := h6.tups (Same.tups s13)
      refine lc_new (walk_new (Y := YZ3 _ _ _)) hD2 (by rw [hmin]; exact Nat.le_trans hlen (by decide)) (fun (i : Nat) _ v => ∀ b, (marksP D row.cps.toList)[i]? = some b → v = V.bl b) (fun _ _ _ _ _ h => h) (fun H4 s4 => ⟨s4 _ _ eA3, s4 _ _ hL3, s4 _ _ eB3⟩)
        (fun i y H4 H5 Qk hi sH hy hk => ?_) (fun H4 acc s4 hD4 hl2 hv2 => ?_)
      · obtain ⟨Tt, vs, rfl, hTn, rfl, a, b, c, rfl, ha, hb, hc⟩ := hy
        rw [hmin] at hi
        have s5 : Same H4 (upd H4 Tt (.tup [a, b, c])) := fun b o e => by rw [upd_ne (ne_of_none e hTn)]; exact e
        have hiA : i < (aheadT D.l D.ix 0 row.cps.toList).length := by rw [aheadT_length, hsz]; exact hi
        have hiB : i < (behindT D.r D.ix row.cps.toList).length := by rw [behindT_length, hsz]; exact hi
        have hiR : i < row.cps.toList.length := by rw [hsz]; exact hi
        have ea : a = V.int (((aheadT D.l D.ix 0 row.cps.toList)[i] : Nat) : Int) := by
          rw [List.getElem?_map, List.getElem?_eq_getElem hiA] at ha
          exact (Option.some.inj ha).symm
        have eb : b = V.int ((D.ix row.cps.toList[i] : Nat) : Int) := by
          rw [List.getElem?_map, List.getElem?_map, List.getElem?_eq_getElem hiR] at hb
          exact (Option.some.inj hb).symm
        have ec : c = V.int (((behindT D.r D.ix row.cps.toList)[i] : Nat) : Int) := by
          rw [List.getElem?_map, List.getElem?_eq_getElem hiB] at hc
          exact (Option.some.inj hc).symm
        subst ea eb ec
        have hpl : (aheadT D.l D.ix 0 row.cps.toList)[i] < D.l.length := aheadT_lt PO.l _ _ hix PO.l.ne _ (List.getElem_mem hiA)
        have s35 : Same H3 (upd H4 Tt (.tup [V.int (((aheadT D.l D.ix 0 row.cps.toList)[i] : Nat) : Int), V.int ((D.ix row.cps.toList[i] : Nat) : Int), V.int (((behindT D.r D.ix row.cps.toList)[i] : Nat) : Int)])) := sH.trans s5
        obtain ⟨ma, mxs, mb, mys, rfl, m1, m2, m3, m4⟩ := rt_mask (h63.tups (Same.tups s35)) hpl (hix _ (List.getElem_mem hiR))
        refine ⟨Tt, _, rfl, SqT.of upd_same, rfl, _, _, rfl, _, _, rfl, _, _, rfl, rfl, rfl, .ref x, rfl, x, _, dx, _, .ref ma, rfl, s35 _ _ h13, C, noat_Pair_masks T, rfl, _, rfl, ma, mxs, _, .ref mb, rfl, rfl, SqT.of m1, atI_nat m2, _, rfl, mb, mys, _, _, rfl, rfl, SqT.of m3, atI_nat m4, _, rfl, _, _, rfl, hk _ _ s5 fun bb hbb => ?_⟩
        unfold marksP at hbb
        rw [List.getElem?_map] at hbb
        have hz : ((aheadT D.l D.ix 0 row.cps.toList).zip (row.cps.toList.zip (behindT D.r D.ix row.cps.toList)))[i]? = some ((aheadT D.l D.ix 0 row.cps.toList)[i], row.cps.toList[i], (behindT D.r D.ix row.cps.toList)[i]) :=
          List.getElem?_zip_eq_some.mpr ⟨List.getElem?_eq_getElem hiA, List.getElem?_zip_eq_some.mpr ⟨List.getElem?_eq_getElem hiR, List.getElem?_eq_getElem hiB⟩⟩
        rw [hz] at hbb
        cases hbb
        rfl
      · have hml : (marksP D row.cps.toList).length = row.length := by
          unfold marksP
          rw [List.length_map, List.length_zip, List.length_zip, aheadT_length, behindT_length, hsz]
          omega
        have ea : acc = (marksP D row.cps.toList).map V.bl := bls_of (by rw [hml, hl2, hmin]) fun i v hi b hb => hv2 i v hi b hb
        refine ⟨D2, acc, rfl, .inl ⟨SqL.of hD4, fun p hp => ?_⟩⟩
        have s6 : Same H4 (upd H4 p (.tup acc)) := fun b o e => by rw [upd_ne (ne_of_none e hp)]; exact e
        refine q _ _ (s13.trans (s4.trans s6)) ?_
        unfold encB
        rw [ea]
        exact .tup upd_same (rtL_bls _)
end
end Kx
set_option Elab.async false
set_option linter.all false
set_option maxRecDepth 100000
set_option maxHeartbeats 2000000
namespace Kx
open PySem PySem.Spec PyProof.Rows L2
/-! ### what right things are worth -/
def ixF (al : Str) (c : Nat) : Nat := (Txt.find al ⟨#[c]⟩).toNat
theorem find_in {al : Str} {c : Nat} (h : c ∈ al.cps.toList) : 0 ≤ Txt.find al ⟨#[c]⟩ ∧ Txt.find al ⟨#[c]⟩ < (al.length : Int) := by
  have h1 := PySem.StrLaws.found_one al c
  rw [decide_eq_true h] at h1
  have e0 : (Builtin.Str.occurrences al ⟨#[c]⟩ 0 al.length 1).isEmpty = false := by
    cases hq : (Builtin.Str.occurrences al ⟨#[c]⟩ 0 al.length 1).isEmpty with
    | false => rfl
    | true => rw [hq] at h1; cases h1
  have h2 : Txt.find al ⟨#[c]⟩ ≠ -1 := by
    unfold Txt.find
    cases ho : Builtin.Str.occurrences al ⟨#[c]⟩ 0 al.length 1 with
    | nil => rw [ho] at e0; cases e0
    | cons i r => intro z; simp at z; try omega
  have h3 := PyProof.Rows.fact_find al ⟨#[c]⟩
  have h4 : ((⟨#[c]⟩ : Str).length : Int) = 1 := rfl
  rcases h3 with h3 | h3
  · exact absurd h3 h2
  · omega
theorem ixOk (al : Str) : IxOk al (ixF al) where
  find := fun c hc => by
    have := (find_in hc).1
    unfold ixF
    omega
  lt := fun c hc => by
    have h := find_in hc
    unfold ixF
    omega
def natD : PyData → Nat
  | .int i => i.toNat
  | _ => 0
def moveT (x : PyData) : List Nat := ((itemsD x).getD []).map natD
theorem ints_back {m : Int} : ∀ {ms : List PyData}, ms.all (belowD m) = true → (ms.map natD).map (fun k => PyData.int (k : Nat)) = ms ∧ ∀ k ∈ ms.map natD, (k : Int) < m
  | [], _ => ⟨rfl, fun k hk => absurd hk (by simp)⟩
  | d :: ms, h => by
    rw [List.all_cons, Bool.and_eq_true] at h
    obtain ⟨h1, h2⟩ := ints_back h.2
    cases d with
    | int i =>
      have hb : (decide (0 ≤ i) && decide (i < m)) = true := h.1
      rw [Bool.and_eq_true, decide_eq_true_eq, decide_eq_true_eq] at hb
      have ei : ((natD (.int i) : Nat) : Int) = i := Int.toNat_of_nonneg hb.1
      constructor
      · rw [List.map_cons, List.map_cons, h1, ei]
      · intro k hk
        rcases List.mem_cons.mp hk with e | hk
        · rw [e, ei]; exact hb.2
        · exact h2 k hk
    | _ => exact Bool.noConfusion h.1
theorem move_back {l m : Nat} {x : PyData} (h : moveD l m x = true) : encM (moveT x) = tupOf x ∧ (moveT x).length = l ∧ ∀ k ∈ moveT x, k < m := by
  unfold moveD at h
  cases hi : itemsD x with
  | none => rw [hi] at h; cases h
  | some ms =>
    rw [hi, Bool.and_eq_true, decide_eq_true_eq] at h
    obtain ⟨h1, h2⟩ := h
    obtain ⟨h3, h4⟩ := ints_back h2
    have em : moveT x = ms.map natD := by unfold moveT; rw [hi]; rfl
    refine ⟨?_, ?_, ?_⟩
    · unfold encM tupOf
      rw [em, hi, h3]
      rfl
    · rw [em, List.length_map]; omega
    · rw [em]
      intro k hk
      have := h4 k hk
      omega
theorem firstBad_all {p : PyData → Bool} : ∀ {ds : List PyData} {k : Int}, firstBad p ds k = none → ∀ x ∈ ds, p x = true
  | [], _, _, x, hx => by cases hx
  | d :: ds, k, h, x, hx => by
    unfold firstBad at h
    by_cases hp : p d = true
    · rw [if_pos hp] at h
      rcases List.mem_cons.mp hx with e | hx
      · rw [e]; exact hp
      · exact firstBad_all h x hx
    · rw [if_neg hp] at h; cases h
def tabD (d : PyData) : Tab := ((itemsD d).getD []).map moveT
theorem reader_back {na : Nat} {d : PyData} (h : readerDue na d = none) : keptD d = encR (tabD d) ∧ TabOk (tabD d) na := by
  unfold readerDue at h
  cases hi : itemsD d with
  | none => rw [hi] at h; cases h
  | some ds =>
    rw [hi] at h
    dsimp only at h
    by_cases hn : 1 ≤ ds.length ∧ ds.length ≤ 40
    · rw [if_pos hn] at h
      have hall := firstBad_all h
      have et : tabD d = ds.map moveT := by unfold tabD; rw [hi]; rfl
      have el : (tabD d).length = ds.length := by rw [et, List.length_map]
      constructor
      · unfold keptD encR
        rw [et, hi, List.map_map]
        congr 1
        show ds.map tupOf = ds.map (encM ∘ moveT)
        exact List.map_congr_left fun x hx => (move_back (hall x hx)).1.symm
      · refine ⟨by omega, by omega, fun m hm => ?_, fun m hm k hk => ?_⟩
        · rw [et] at hm
          obtain ⟨x, hx, rfl⟩ := List.mem_map.mp hm
          exact (move_back (hall x hx)).2.1
        · rw [et] at hm
          obtain ⟨x, hx, rfl⟩ := List.mem_map.mp hm
          rw [el]
          exact (move_back (hall x hx)).2.2 k hk
    · rw [if_neg hn] at h; cases h
def triD (x : PyData) : Tri := match itemsD x with
  | some [.int a, .str z, .int c] => (a.toNat, z.cps.toList.headD 0, c.toNat)
  | _ => (0, 0, 0)
theorem triple_back {al : List Nat} {nl nr : Nat} {x : PyData} (h : tripleD al nl nr x = true) : encTri (triD x) = tupOf x ∧ (triD x).1 < nl ∧ (triD x).2.1 ∈ al ∧ (triD x).2.2 < nr := by
  obtain ⟨a, z, c, hi⟩ := triple_shape h
  unfold tripleD at h
  rw [hi] at h
  have h' : ((decide (0 ≤ a) && decide (a < (nl : Int))) && ((match z.cps.toList with | [c] => decide (c ∈ al) | _ => false) && (decide (0 ≤ c) && decide (c < (nr : Int))))) = true := h
  simp only [Bool.and_eq_true, decide_eq_true_eq] at h'
  obtain ⟨⟨a0, a1⟩, hz, c0, c1⟩ := h'
  have et : triD x = (a.toNat, z.cps.toList.headD 0, c.toNat) := by unfold triD; rw [hi]
  have hzz : ∃ k, z = ⟨#[k]⟩ ∧ k ∈ al := by
    obtain ⟨⟨l⟩⟩ := z
    cases l with
    | nil => exact Bool.noConfusion hz
    | cons k r =>
      cases r with
      | nil => exact ⟨k, rfl, of_decide_eq_true hz⟩
      | cons k2 r2 => exact Bool.noConfusion hz
  obtain ⟨k, rfl, hk⟩ := hzz
  rw [et]
  refine ⟨?_, ?_, hk, ?_⟩
  · unfold encTri tupOf
    rw [hi]
    show PyData.tuple [.int ((a.toNat : Nat) : Int), .str ⟨#[k]⟩, .int ((c.toNat : Nat) : Int)] = .tuple [.int a, .str ⟨#[k]⟩, .int c]
    rw [Int.toNat_of_nonneg a0, Int.toNat_of_nonneg c0]
  · show a.toNat < nl
    omega
  · show c.toNat < nr
    omega
theorem goMarked_all {al : List Nat} {nl nr : Int} : ∀ {ds : List PyData} {prev : Option PyData} {k : Int}, goMarked al nl nr prev ds k = none → ∀ x ∈ ds, tripleD al nl nr x = true
  | [], _, _, _, x, hx => by cases hx
  | d :: ds, prev, k, h, x, hx => by
    rw [goMarked_cons] at h
    by_cases hp : tripleD al nl nr d = true
    · rw [if_pos hp] at h
      rcases List.mem_cons.mp hx with e | hx
      · rw [e]; exact hp
      · by_cases hq : (prev.all fun p => PySem.W.dataLt p (tupOf d)) = true
        · rw [if_pos hq] at h
          exact goMarked_all h x hx
        · rw [if_neg hq] at h; cases h
    · rw [if_neg hp] at h; cases h
def trisD (d : PyData) : List Tri := ((itemsD d).getD []).map triD
theorem marked_back {al : List Nat} {nl nr : Nat} {d : PyData} (h : markedDue al nl nr d = none) : keptD d = encT (trisD d) ∧ ∀ t ∈ trisD d, t.1 < nl ∧ t.2.1 ∈ al ∧ t.2.2 < nr := by
  unfold markedDue at h
  cases hi : itemsD d with
  | none => rw [hi] at h; cases h
  | some ds =>
    rw [hi] at h
    have hall := goMarked_all h
    have et : trisD d = ds.map triD := by unfold trisD; rw [hi]; rfl
    constructor
    · unfold keptD encT
      rw [et, hi, List.map_map]
      congr 1
      show ds.map tupOf = ds.map (encTri ∘ triD)
      exact List.map_congr_left fun x hx => (triple_back (hall x hx)).1.symm
    · intro t ht
      rw [et] at ht
      obtain ⟨x, hx, rfl⟩ := List.mem_map.mp ht
      exact (triple_back (hall x hx)).2
theorem tabD_length {d : PyData} {ds : List PyData} (h : itemsD d = some ds) : (tabD d).length = ds.length := by
  unfold tabD
  rw [h]
  exact List.length_map ..
end Kx
set_option Elab.async false
set_option linter.all false
set_option maxRecDepth 100000
set_option maxHeartbeats 4000000
namespace Kx
open PySem PySem.Spec PyProof.Rows L2
theorem asc_pair : ∀ {l : List Nat}, ascL l = true → l.Pairwise (· < ·)
  | [], _ => .nil
  | [a], _ => List.pairwise_singleton ..
  | a :: b :: l, h => by
    unfold ascL at h
    simp only [List.drop_succ_cons, List.drop_zero, List.zip_cons_cons, List.all_cons, Bool.and_eq_true, decide_eq_true_eq] at h
    have hab : a < b := by
      have := h.1
      cases this with
      | rel h => exact h
      | cons h => cases h
    have ih : (b :: l).Pairwise (· < ·) := asc_pair (by unfold ascL; simpa using h.2)
    refine List.pairwise_cons.mpr ⟨fun c hc => ?_, ih⟩
    rcases List.mem_cons.mp hc with e | hc
    · rw [e]; exact hab
    · exact Nat.lt_trans hab (List.rel_of_pairwise_cons ih hc)
theorem asc_nodup {l : List Nat} (h : ascL l = true) : l.Nodup := (asc_pair h).imp fun h => Nat.ne_of_lt h
/-! ### the mask of a letter -/
def maskC (p c : Nat) (trs : List Tri) : Nat := trs.foldl (fun m t => if t.1 = p ∧ t.2.1 = c then m ||| 1 <<< t.2.2 else m) 0
theorem maskC_snoc (p c : Nat) (trs : List Tri) (t : Tri) : maskC p c (trs ++ [t]) = if t.1 = p ∧ t.2.1 = c then maskC p c trs ||| 1 <<< t.2.2 else maskC p c trs := by
  unfold maskC
  rw [List.foldl_append]
  rfl
theorem find_at {al : Str} {j c : Nat} (h : al.cps.toList[j]? = some c) (hn : al.cps.toList.Nodup) : ixF al c = j := by
  have hc : c ∈ al.cps.toList := List.mem_of_getElem? h
  have h1 := find_in hc
  obtain ⟨i, e, hi⟩ : ∃ i : Nat, Txt.find al ⟨#[c]⟩ = (i : Int) ∧ al.cps.toList[i]? = some c := by
    unfold Txt.find at h1 ⊢
    cases ho : Builtin.Str.occurrences al ⟨#[c]⟩ 0 al.length 1 with
    | nil => rw [ho] at h1; exact absurd h1.1 (by decide)
    | cons i r =>
      have hs := (PySem.StrLaws.occ_spec al ⟨#[c]⟩ 0 al.length 1 i (by rw [ho]; exact .head _)).2
      exact ⟨i, rfl, (PySem.StrLaws.subAt_one al c i).mp ⟨(PySem.StrLaws.occ_spec al ⟨#[c]⟩ 0 al.length 1 i (by rw [ho]; exact .head _)).1, hs⟩⟩
  unfold ixF
  rw [e, Int.toNat_natCast]
  exact (List.getElem?_inj (List.getElem?_eq_some_iff.mp hi).1 hn).mp (hi.trans h.symm)
theorem ix_inj {al : Str} {c d : Nat} (hn : al.cps.toList.Nodup) (hc : c ∈ al.cps.toList) (hd : d ∈ al.cps.toList) (e : ixF al c = ixF al d) : c = d := by
  obtain ⟨i, hi⟩ := List.mem_iff_getElem?.mp hc
  obtain ⟨j, hj⟩ := List.mem_iff_getElem?.mp hd
  rw [find_at hi hn, find_at hj hn] at e
  subst e
  exact Option.some.inj (hi.symm.trans hj)
theorem maskT_C {al : Str} {p j c : Nat} (h : al.cps.toList[j]? = some c) (hn : al.cps.toList.Nodup) : ∀ (trs : List Tri), (∀ t ∈ trs, t.2.1 ∈ al.cps.toList) → maskT (ixF al) p j trs = maskC p c trs := by
  suffices H : ∀ (trs : List Tri) (m : Nat), (∀ t ∈ trs, t.2.1 ∈ al.cps.toList) → trs.foldl (fun m t => if t.1 = p ∧ ixF al t.2.1 = j then m ||| 1 <<< t.2.2 else m) m = trs.foldl (fun m t => if t.1 = p ∧ t.2.1 = c then m ||| 1 <<< t.2.2 else m) m by
    exact fun trs ht => H trs 0 ht
  intro trs
  induction trs with
  | nil => exact fun _ _ => rfl
  | cons t trs ih =>
    intro m ht
    rw [List.foldl_cons, List.foldl_cons, ih _ fun u hu => ht u (List.mem_cons_of_mem _ hu)]
    have e : (t.1 = p ∧ ixF al t.2.1 = j) ↔ (t.1 = p ∧ t.2.1 = c) := by
      constructor
      · rintro ⟨h1, h2⟩
        exact ⟨h1, ix_inj hn (ht t (List.mem_cons_self ..)) (List.mem_of_getElem? h) (h2.trans (find_at h hn).symm)⟩
      · rintro ⟨h1, h2⟩
        exact ⟨h1, by rw [h2]; exact find_at h hn⟩
    simp only [e]
/-! ### masks_of_triples -/
abbrev keyT (p c : Nat) : List L2.Key := [Sum.inl (p : Nat), Sum.inr ⟨#[c]⟩]
theorem keyT_inj {p c p' c' : Nat} (h : keyT p c = keyT p' c') : p = p' ∧ c = c' := by
  injection h with h1 h2
  injection h2 with h2 _
  have e1 := Sum.inl.inj h1
  have e2 := Sum.inr.inj h2
  refine ⟨by omega, ?_⟩
  have e3 : (⟨#[c]⟩ : Str).cps.toList = (⟨#[c']⟩ : Str).cps.toList := by rw [e2]
  exact List.cons.inj e3 |>.1
/-- the dict holds the masks of these triples -/
def DictM (kvs : List (List L2.Key × V)) (trs : List Tri) : Prop := ∀ p c : Nat, (valV kvs (keyT p c)).getD (.int 0) = .int (maskC p c trs : Nat)
theorem dictM_put {kvs : List (List L2.Key × V)} {trs : List Tri} {t : Tri} (h : DictM kvs trs) : DictM (putK kvs (keyT t.1 t.2.1) (.int (maskC t.1 t.2.1 trs ||| 1 <<< t.2.2 : Nat))) (trs ++ [t]) := by
  intro p c
  rw [valV_put, maskC_snoc]
  by_cases e : t.1 = p ∧ t.2.1 = c
  · obtain ⟨e1, e2⟩ := e
    subst e1 e2
    rw [if_pos rfl, if_pos ⟨rfl, rfl⟩]
    rfl
  · rw [if_neg (fun z => e (by obtain ⟨h1, h2⟩ := keyT_inj z; exact ⟨h1.symm, h2.symm⟩)), if_neg e]
    exact h p c
theorem bor_mask (m q : Nat) : Builtin.bitOr (m : Nat) (1 * 2 ^ ((q : Nat) : Int).toNat) = ((m ||| 1 <<< q : Nat) : Int) := by
  have e : (1 : Int) * 2 ^ ((q : Nat) : Int).toNat = ((2 ^ q : Nat) : Int) := by rw [Int.toNat_natCast, Int.one_mul]; norm_cast
  rw [e, L2.bitOr_nn (Int.natCast_nonneg _) (Int.natCast_nonneg _), Int.toNat_natCast, Int.toNat_natCast, Nat.one_shiftLeft]
def rTupO (K : PySem.W.Frag) : List V → Hp → VK → Prop := fun xs H Q => ∃ p ys, xs = [V.ref p] ∧ ((SqL K H p ys ∧ ∀ l : Addr, H l = none → Q (V.ref l) (upd H l (.tup ys))) ∨ (SqT K H p ys ∧ Q (V.ref p) H))
theorem same_upd {H : Hp} {t : Addr} {o : HO} (ht : H t = none) : Same H (upd H t o) := fun b u hb => by rw [upd_ne (ne_of_none hb ht)]; exact hb
theorem putK_le {κ : Type} [DecidableEq κ] (c : List (κ × V)) (k : κ) (x : V) : (putK c k x).length ≤ c.length + 1 := by
  unfold putK
  split
  · rw [List.length_map]; omega
  · rw [List.length_append]; exact Nat.le_refl _
theorem hu1 {A : Around} {k : Nat} (hr : Room k A) : A.units + 1 < cLine := by have := hr.un; omega
theorem rtL_ints {H : Hp} (f : Nat → Nat) : ∀ l : List Nat, RtL H (l.map fun k => V.int (f k : Nat)) (l.map fun k => PyData.int (f k : Nat))
  | [] => .nil
  | k :: l => .cons (.int _) (rtL_ints f l)
theorem rtL_by {H : Hp} : ∀ {vs : List V} {ds : List PyData}, vs.length = ds.length → (∀ (i : Nat) (v : V) (d : PyData), vs[i]? = some v → ds[i]? = some d → Rt H v d) → RtL H vs ds
  | [], [], _, _ => .nil
  | v :: vs, d :: ds, h, g => .cons (g 0 v d rfl rfl) (rtL_by (Nat.succ.inj h) fun i a b ha hb => g (i + 1) a b ha hb)
section
variable {P : Program} {w : World} {K : PySem.W.Frag} {mg : Str → Option Value} {base : Heap}
/-- what masks_of_triples is worth -/
def sp_masks_of_triples : Sp := fun vs H Q _ => ∃ (al : Str) (nl : Nat) (v : V) (trs : List Tri), vs = [.str al, .int (nl : Nat), v] ∧ Rt H v (encT trs) ∧ al.cps.toList.Nodup ∧ al.length ≤ 8 ∧ nl ≤ 40 ∧ trs.length ≤ 100000 ∧ (∀ t ∈ trs, t.1 < nl ∧ t.2.1 ∈ al.cps.toList ∧ t.2.2 < 40) ∧
  ∀ H' r, Same H H' → Rt H' r (encK (ixF al) nl al.length trs) → Q r H'
theorem ok_masks_of_triples (T : Txt K mg) : Cal P w K mg base CX0 2 "masks_of_triples" ["alphabet", "many", "marked"] sp_masks_of_triples := by
  obtain ⟨fd, F⟩ := F_masks_of_triples T
  refine cal_mk F (g_masks_of_triples T) sc_masks_of_triples (fun _ _ _ _ _ _ us hl => match us, hl with | [_, _, _], _ => rfl) (fun vs H Q E h => ?_) (fun cdv A outer s H vs Q E hr h => ?_)
  · obtain ⟨al, nl, v, trs, rfl, _⟩ := h; rfl
  · refine ⟨_, PSs.nox (pss_cons (ps_set (i := 3) sc_masks_of_triples.nd rfl (Or.inr rfl) pe_dnewT)
      (pss_cons (ps_for PassesOwn.never rfl (pi_seq (pv 2)) (pg_tup rfl (pgs_cons (pg_name (i := 4) sc_masks_of_triples.nd rfl (Or.inl rfl)) (pgs_cons (pg_name (i := 5) sc_masks_of_triples.nd rfl (Or.inl rfl)) (pgs_cons (pg_name (i := 6) sc_masks_of_triples.nd rfl (Or.inl rfl)) pgs_nil))))
        (pss_one (ps_dput (hu1 hr) (pv 3) (pe_tup (pa_cons (pv 4) (pa_cons (pv 5) pa_nil))) (pe_op op_or (pe_dget2 (hu1 hr) (pv 3) (pe_tup (pa_cons (pv 4) (pa_cons (pv 5) pa_nil))) pe_int ⟨rfl, rfl, rfl, rfl⟩) (pe_op op_shl pe_int (pv 6))) (by rfl))))
      (pss_one (ps_ret (pe_callTy call_tuple_of (by rfl) (fr_tuple T) b_tuple (pa_cons (pe_lc (own := [("standing", 4)]) (g := gName 4) (tt := tYes) rfl sc_masks_of_triples.nd (pi_range1 (by rfl) (fr_range T) (pa_cons (pv 1) pa_nil)) (blkOk_by (N := N_masks_of_triples) (sc := defScope s_masks_of_triples) (by decide +kernel))
        (fun _ _ _ _ _ => pg_name (i := 4) sc_masks_of_triples.nd rfl (Or.inr rfl)) (fun _ _ _ _ _ => pts_nil)
        (fun _ _ _ _ _ => by
          refine pe_callTy (r := rTupO K) call_tuple_of (by rfl) (fr_tuple T) b_tuple (pa_cons (pe_lc (te := tDGet2 (tVar 3) (tTup (tCons (tVar 4) (tCons (tVar 5) tNil))) (tC (.int 0))) (wi := iStr (tVar 0)) (own := [("letter", 5)]) (g := gName 5) (tt := tYes) rfl sc_masks_of_triples.nd (pi_str (pv 0)) ?_
            (fun _ _ _ _ _ => pg_name (i := 5) sc_masks_of_triples.nd rfl (Or.inl rfl)) (fun _ _ _ _ _ => pts_nil) (fun _ _ _ _ _ => ?_)) pa_nil)
          · refine blkOk_by ?_
            simp only [cxOf, Cx.nox, Cx.blk, compEnvC]
            change blkC _ (relabel _ (envOfC "masks_of_triples" (defScope s_masks_of_triples) 0 0 Value.none)) _ _ = true
            decide +kernel
          · exact pe_dget2 (hu1 hr) (pv 3) (pe_tup (pa_cons (pv 4) (pa_cons (pv 5) pa_nil))) pe_int ⟨rfl, rfl, rfl, rfl⟩)) pa_nil)))))), ?_⟩
    obtain ⟨al, nl, v, trs, rfl, rt, hnd, h8, h40, hlen, ht, q⟩ := h
    obtain ⟨a, xs, rfl, ha, hx⟩ : ∃ a xs, v = .ref a ∧ H a = some (.tup xs) ∧ RtL H xs (trs.map encTri) := by
      unfold encT at rt
      cases rt with
      | tup e h => exact ⟨_, _, rfl, e, h⟩
    have hxl : xs.length = trs.length := by have := hx.length; rwa [List.length_map] at this
    intro D hD
    have f0 := same_upd (o := .dT []) hD
    refine ⟨.ref a, rfl, a, xs, rfl, .inr ⟨SqT.of (f0 _ _ ha), fun J W => ?_⟩⟩
    refine for_it W (fun i σ H2 => ∃ (v4 v5 v6 : Option V) (kvs : List (List L2.Key × V)), σ = [some (.str al), some (.int (nl : Nat)), some (.ref a), some (.ref D), v4, v5, v6] ∧ H2 D = some (.dT kvs) ∧ kvs.length ≤ i ∧ DictM kvs (trs.take i) ∧ Same H H2)
      ⟨none, none, none, [], rfl, upd_same, Nat.le_refl _, fun _ _ => rfl, f0⟩ (fun i σ H2 _ ⟨_, _, _, _, _, _, _, _, s⟩ => SqT.of (s _ _ ha)) ?_ ?_
    · rintro i x σ H2 H3 hi ⟨v4, v5, v6, kvs, rfl, hDk, hkl, hm, s2⟩ ⟨eH, hxi⟩
      replace eH := eH.symm
      subst eH
      have hit : i < trs.length := by rw [← hxl]; exact hi
      obtain ⟨d, hd, rd⟩ := hx.get hxi
      rw [List.getElem?_map, List.getElem?_eq_getElem hit] at hd
      have ed := (Option.some.inj hd).symm
      subst ed
      have htk : trs.take (i + 1) = trs.take i ++ [trs[i]] := by rw [List.take_succ, List.getElem?_eq_getElem hit]; rfl
      have hti := ht trs[i] (List.getElem_mem hit)
      generalize trs[i] = t at rd htk hti
      unfold encTri at rd
      obtain ⟨b, rfl, hb⟩ : ∃ b, x = .ref b ∧ H b = some (.tup [.int (t.1 : Nat), .str ⟨#[t.2.1]⟩, .int (t.2.2 : Nat)]) := by
        cases rd with
        | tup e h =>
          cases h with
          | cons r0 h1 => cases h1 with
            | cons r1 h2 => cases h2 with
              | cons r2 h3 =>
                cases h3
                cases r0
                cases r1
                cases r2
                exact ⟨_, rfl, e⟩
      refine ⟨b, _, rfl, SqT.of (s2 _ _ hb), rfl, _, _, rfl, _, _, rfl, _, _, rfl, rfl, ?_⟩
      have hDb : ∀ {o}, H D = some o → False := fun e => by rw [hD] at e; cases e
      refine ⟨.ref D, rfl, D, rfl, .inr ⟨kvs, .inl hDk⟩, .int (t.1 : Nat), rfl, .str ⟨#[t.2.1]⟩, rfl, (by show 2 ≤ sizeLine; decide), fun p hp => ⟨_, DGet.t (k := keyT t.1 t.2.1) (by rw [upd_ne (fun z => by rw [← z, hDk] at hp; cases hp)]; exact hDk) upd_same, ?_⟩⟩
      have hpD : p ≠ D := fun z => by rw [z, hDk] at hp; cases hp
      rw [hm t.1 t.2.1]
      refine ⟨.int (t.2.2 : Nat), rfl, 1, _, rfl, rfl, ⟨by omega, by omega, by decide⟩, _, _, rfl, rfl, .ref D, rfl, .int (t.1 : Nat), rfl, .str ⟨#[t.2.1]⟩, rfl, (by show 2 ≤ sizeLine; decide), fun p2 hp2 => ?_⟩
      have hDk2 : upd H2 p (.tup [.int (t.1 : Nat), .str ⟨#[t.2.1]⟩]) D = some (.dT kvs) := by rw [upd_ne (Ne.symm hpD)]; exact hDk
      have hp2D : p2 ≠ D := fun z => by rw [z, hDk2] at hp2; cases hp2
      refine ⟨D, _, rfl, DPut.t (k := keyT t.1 t.2.1) (by rw [upd_ne (Ne.symm hp2D)]; exact hDk2) upd_same (Nat.lt_of_le_of_lt hkl (Nat.lt_of_lt_of_le (by omega : i < 100001) (by decide))), ?_⟩
      refine ⟨_, _, _, _, rfl, upd_same, Nat.le_trans (putK_le _ _ _) (by omega), ?_, ?_⟩
      · rw [htk]
        have e9 : (fun i j => V.int (Builtin.bitOr i j)) ((maskC t.1 t.2.1 (trs.take i) : Nat) : Int) (1 * 2 ^ ((t.2.2 : Nat) : Int).toNat) = .int (maskC t.1 t.2.1 (trs.take i) ||| 1 <<< t.2.2 : Nat) := congrArg V.int (bor_mask _ _)
        rw [e9]
        exact dictM_put hm
      · intro c o e
        rw [upd_ne (fun z => by rw [z] at e; exact hDb e)]
        exact (s2.trans ((same_upd hp).trans (same_upd hp2))) c o e
    · rintro σ H2 ⟨v4, v5, v6, kvs, rfl, hDk, hkl, hm, s2⟩
      rw [hxl, List.take_length] at hm
      refine ⟨.int (nl : Nat), rfl, (nl : Nat), rfl, by omega, by omega, fun L hL => ?_⟩
      have en : ((nl : Nat) : Int).toNat = nl := by omega
      rw [en]
      refine lc_new (walk_range (n := nl)) hL (Nat.le_trans h40 (by decide)) (fun (i : Nat) H3 v => Rt H3 v (.tuple ((List.range al.length).map fun k => .int (maskT (ixF al) i k trs : Nat)))) (fun _ _ _ _ s h => h.tups s) (fun _ _ => trivial)
        (fun i x H3 H4 Qk hi s3 hy hk => ?_) (fun H3 acc s3 hL3 hl hv => ?_)
      · obtain ⟨eH, ex0⟩ := hy
        replace eH := eH.symm
        subst eH
        replace ex0 : x = .int (i : Nat) := ex0.trans (congrArg V.int (Int.zero_add _))
        subst ex0
        refine ⟨rfl, .str al, rfl, al, rfl, fun L2 hL2 => ?_⟩
        have hsz : al.cps.toList.length = al.length := Array.length_toList
        refine lc_new walk_str hL2 (by show al.length ≤ sizeLine; exact Nat.le_trans h8 (by decide)) (fun (j : Nat) _ v => v = .int (maskT (ixF al) i j trs : Nat)) (fun _ _ _ _ _ h => h) (fun _ _ => trivial)
          (fun j y H5 H6 Qk2 hj s5 hy hk2 => ?_) (fun H5 acc s5 hL5 hl hv => ?_)
        · obtain ⟨eH, c, hc, rfl⟩ := hy
          replace eH := eH.symm
          subst eH
          have hc' : al.cps.toList[j]? = some c := by rw [Array.getElem?_toList]; exact hc
          have hDk5 : H5 D = some (.dT kvs) := s5 _ _ (s3 _ _ hDk)
          refine ⟨rfl, .ref D, rfl, D, rfl, .inr ⟨kvs, .inl hDk5⟩, .int (i : Nat), rfl, .str ⟨#[c]⟩, rfl, (by show 2 ≤ sizeLine; decide), fun p hp => ⟨_, DGet.t (k := keyT i c) (by rw [upd_ne (fun z => by rw [← z, hDk5] at hp; cases hp)]; exact hDk5) upd_same, ?_⟩⟩
          rw [hm i c]
          exact hk2 _ _ (same_upd hp) (by rw [maskT_C hc' hnd trs fun t h => (ht t h).2.1])
        · have ea : acc = (List.range al.length).map fun k => V.int (maskT (ixF al) i k trs : Nat) := by
            apply List.ext_getElem?
            intro j
            have hl : acc.length = al.length := hl
            by_cases hj : j < al.length
            · have h9 : j < acc.length := by rw [hl]; exact hj
              rw [List.getElem?_eq_getElem h9, hv j _ (List.getElem?_eq_getElem h9), List.getElem?_map, List.getElem?_range hj]
              rfl
            · rw [List.getElem?_eq_none (by omega), List.getElem?_eq_none (by rw [List.length_map, List.length_range]; omega)]
          refine ⟨L2, acc, rfl, .inl ⟨SqL.of hL5, fun l hl => ?_⟩⟩
          refine hk _ _ (s5.trans (same_upd hl)) ?_
          rw [ea]
          exact .tup upd_same (rtL_ints _ _)
      · refine ⟨L, acc, rfl, .inl ⟨SqL.of hL3, fun l hl2 => ?_⟩⟩
        refine q _ _ (s2.trans (s3.trans (same_upd hl2))) ?_
        unfold encK
        refine .tup upd_same (rtL_by (by rw [hl, List.length_map, List.length_range]) fun i v d hi hd => ?_)
        have hin : i < nl := by have := (List.getElem?_eq_some_iff.mp hi).1; rw [hl] at this; exact this
        rw [List.getElem?_map, List.getElem?_range hin] at hd
        cases hd
        exact (hv i v hi).tups (Same.tups (same_upd hl2))
end
end Kx
set_option Elab.async false
set_option linter.all false
set_option maxRecDepth 100000
set_option maxHeartbeats 2000000
namespace Kx
open PySem PySem.Spec PyProof.Rows L2
/-- all that was tracked stands, but x's own fields -/
def SameX (x : Addr) (H H' : Hp) : Prop := ∀ b o, b ≠ x → H b = some o → H' b = some o
theorem sX {x : Addr} {H H' : Hp} (s : Same H H') : SameX x H H' := fun b o _ e => s b o e
theorem SameX.trans {x : Addr} {H H1 H2 : Hp} (a : SameX x H H1) (b : SameX x H1 H2) : SameX x H H2 := fun c o hc h => b c o hc (a c o hc h)
theorem SameX.tups {x : Addr} {H H' : Hp} (s : SameX x H H') (hx : ∀ xs, H x ≠ some (.tup xs)) : Tups H H' := fun b xs e => s b _ (fun z => hx xs (z ▸ e)) e
theorem sameX_upd {x : Addr} {H : Hp} {o : HO} : SameX x H (upd H x o) := fun b u hb e => by rw [upd_ne hb]; exact e
mutual
theorem Rp.samex {x : Addr} {H H' : Hp} {C dx : Addr} {fs : List (Str × V)} (hx : H x = some (.ins C dx fs)) (s : SameX x H H') : ∀ {v : V} {d : PyData}, Rp H v d → Rp H' v d
  | _, _, .non => .non
  | _, _, .bl b => .bl b
  | _, _, .int i => .int i
  | _, _, .str z => .str z
  | _, _, .lst e h => .lst (s _ _ (fun z => by rw [z, hx] at e; cases e) e) (RpL.samex hx s h)
  | _, _, .tup e h => .tup (s _ _ (fun z => by rw [z, hx] at e; cases e) e) (RpL.samex hx s h)
  | _, _, .dct e => .dct (s _ _ (fun z => by rw [z, hx] at e; cases e) e)
theorem RpL.samex {x : Addr} {H H' : Hp} {C dx : Addr} {fs : List (Str × V)} (hx : H x = some (.ins C dx fs)) (s : SameX x H H') : ∀ {vs : List V} {ds : List PyData}, RpL H vs ds → RpL H' vs ds
  | _, _, .nil => .nil
  | _, _, .cons h hs => .cons (Rp.samex hx s h) (RpL.samex hx s hs)
end
section
variable {P : Program} {w : World} {K : PySem.W.Frag} {mg : Str → Option Value} {base : Heap}
/-- what is passed to Pair, and what is wrong of it first -/
def alS : PyData → Str
  | .str z => z
  | _ => ⟨#[]⟩
def lenD (d : PyData) : Nat := ((itemsD d).getD []).length
inductive PDue where
  | alph | left (k : Int) | right (k : Int) | marked (k : Int) | ok
def pairDue (a l r m : PyData) : PDue := if alphaD a = true then
    (match readerDue (alS a).length l with
    | some k => .left k
    | none => match readerDue (alS a).length r with
      | some k => .right k
      | none => match markedDue (alS a).cps.toList (lenD l) (lenD r) m with
        | some k => .marked k
        | none => .ok)
  else .alph
def pairD (a l r m : PyData) : PairD := ⟨alS a, ixF (alS a), tabD l, tabD r, trisD m⟩
/-- the error due, at a heap -/
def pairErr (K : PySem.W.Frag) (va : V) (due : PDue) (H : Hp) (E : XK) : Prop := ∀ dx, H dx = none → match due with
  | .alph => E (.ref (He.ga K "BadAlphabet")) (some dx) (upd H dx (.xd [("thing", va)]))
  | .left k => E (.ref (He.ga K "BadReader")) (some dx) (upd H dx (.xd [("number", .int k), ("side", .str "left")]))
  | .right k => E (.ref (He.ga K "BadReader")) (some dx) (upd H dx (.xd [("number", .int k), ("side", .str "right")]))
  | .marked k => E (.ref (He.ga K "BadMarked")) (some dx) (upd H dx (.xd [("number", .int k)]))
  | .ok => True
def smallA (a l r m : PyData) : Prop := smallT a ∧ smallR l ∧ smallR r ∧ smallM m
def sp_Pair_init (K : PySem.W.Frag) : Sp := fun vs H Q E => ∃ (x dx : Addr) (va vl vr vm : V) (a l r m : PyData), vs = [.ref x, va, vl, vr, vm] ∧ H x = some (.ins (He.ga K "Pair") dx []) ∧ H dx = some (.own x) ∧ dx ≠ x ∧
  Rp H va a ∧ Rp H vl l ∧ Rp H vr r ∧ Rp H vm m ∧ smallA a l r m ∧
  (∀ H', SameX x H H' → pairErr K va (pairDue a l r m) H' E) ∧
  (pairDue a l r m = .ok → ∀ H', SameX x H H' → PairAt K H' x (pairD a l r m) → PairOk (pairD a l r m) → Q .non H')
theorem trisD_length (m : PyData) : (trisD m).length = lenD m := by unfold trisD lenD; exact List.length_map ..
theorem ok_Pair_init {f : Addr} {fd : FuncData} (T : Txt K mg) (F : FnP K "__init__" "Pair.__init__" s_Pair___init__ f fd) (GM : Cal P w K mg base CX0 2 "masks_of_triples" ["alphabet", "many", "marked"] sp_masks_of_triples) :
    FnOk P w K mg base (L2N.CX P w) 5 f fd ["self", "alphabet", "left", "right", "marked"] (sp_Pair_init K) := by
  refine F.ok sc_Pair___init__ (fun vs H Q E h => ?_) (fun cdv A outer s H vs Q E hr h => ?_)
  · obtain ⟨x, dx, va, vl, vr, vm, a, l, r, m, rfl, _⟩ := h; rfl
  · have tk := @L2N.takes_of (cxOf (L2N.CX P w) P w K mg base N_Pair___init__ "Pair.__init__" (defScope s_Pair___init__) f cdv A outer s H E)
    refine ⟨_, (pss_cons (ps_expr (pe_cal (E := E) (ok_check_alphabet T) (hr.mono (by decide)) (L2N.passes_call (L2N.takes_of rfl rfl rfl rfl) (fun _ _ _ _ h => h)) (pa_cons (pv 1) pa_nil)))
      (pss_cons (ps_fld (pv 0) (pv 1) rfl)
      (pss_cons (ps_fld (pv 0) (pe_cal (E := E) (ok_kept_reader T) hr (L2N.passes_call (L2N.takes_of rfl rfl rfl rfl) (fun _ _ _ _ h => h)) (pa_cons (pv 1) (pa_cons pe_str (pa_cons (pv 2) pa_nil)))) rfl)
      (pss_cons (ps_fld (pv 0) (pe_cal (E := E) (ok_kept_reader T) hr (L2N.passes_call (L2N.takes_of rfl rfl rfl rfl) (fun _ _ _ _ h => h)) (pa_cons (pv 1) (pa_cons pe_str (pa_cons (pv 3) pa_nil)))) rfl)
      (pss_cons (ps_fld (pv 0) (pe_cal (E := E) (ok_kept_marked T) hr (L2N.passes_call (L2N.takes_of rfl rfl rfl rfl) (fun _ _ _ _ h => h)) (pa_cons (pv 1) (pa_cons (pe_fld (pv 0) rfl) (pa_cons (pe_fld (pv 0) rfl) (pa_cons (pv 4) pa_nil))))) rfl)
      (pss_one (ps_fld (pv 0) (pe_cal GM (hr.mono (by decide)) pass0 (pa_cons (pv 1) (pa_cons (pe_callB call_len (by rfl) (fr_len T) boot_len (pa_cons (pe_fld (pv 0) rfl) pa_nil)) (pa_cons (pe_fld (pv 0) rfl) pa_nil)))) rfl))))))), ?_⟩
    obtain ⟨x, dx, va, vl, vr, vm, a, l, r, m, rfl, hx, hdx, hne, ra, rl, rr, rm, sm, kE, kQ⟩ := h
    have C := cls_Pair T
    -- the alphabet
    refine ⟨va, rfl, va, a, rfl, ra, sm.1, fun hb H1 s1 d1 hd1 => ?_, fun hb H1 s1 => ?_⟩
    · have e : pairDue a l r m = .alph := by unfold pairDue; rw [if_neg (by rw [hb]; exact Bool.false_ne_true)]
      have := kE H1 (sX s1) d1 hd1
      rw [e] at this
      exact this
    obtain ⟨z, rfl⟩ : ∃ z, a = .str z := by
      cases a <;> first | exact ⟨_, rfl⟩ | (exact Bool.noConfusion hb)
    have hz8 : z.length ≤ 8 := by
      have h1 : alphaL z.cps.toList = true := hb
      unfold alphaL at h1
      rw [Bool.and_eq_true, decide_eq_true_eq] at h1
      have h2 : z.cps.toList.length = z.length := Array.length_toList
      omega
    have hnd : z.cps.toList.Nodup := by
      have h1 : alphaL z.cps.toList = true := hb
      unfold alphaL at h1
      rw [Bool.and_eq_true, Bool.and_eq_true] at h1
      exact asc_nodup h1.2.2
    have habc : ∀ c ∈ z.cps.toList, c < 0x110000 := by
      have h1 : alphaL z.cps.toList = true := hb
      unfold alphaL at h1
      rw [Bool.and_eq_true, Bool.and_eq_true] at h1
      intro c hc
      have h2 := of_decide_eq_true (List.all_eq_true.mp h1.2.1 c hc)
      have h3 : ∀ x ∈ lettersL, x < 0x110000 := by decide +kernel
      exact h3 c h2
    have eva : va = .str z := by cases ra; rfl
    subst eva
    have dueL : ∀ k, readerDue z.length l = some k → pairDue (.str z) l r m = .left k := fun k hk => by
      unfold pairDue
      rw [if_pos hb]
      show (match readerDue z.length l with | some k => PDue.left k | none => _) = _
      rw [hk]
    have dueL0 : readerDue z.length l = none → pairDue (.str z) l r m = (match readerDue z.length r with
      | some k => .right k
      | none => match markedDue z.cps.toList (lenD l) (lenD r) m with
        | some k => .marked k
        | none => .ok) := fun hk => by
      unfold pairDue
      rw [if_pos hb]
      show (match readerDue z.length l with | some k => PDue.left k | none => _) = _
      rw [hk]
      rfl
    have hx1 := s1 _ _ hx
    refine ⟨.str z, rfl, .ref x, rfl, x, _, dx, [], rfl, hx1, C, noat_Pair_alphabet T, (by decide), ?_⟩
    -- left
    have s2 : SameX x H (upd H1 x (.ins (He.ga K "Pair") dx (putF "alphabet" (.str z) []))) := (sX s1).trans sameX_upd
    refine ⟨.str z, rfl, vl, rfl, z, "left", vl, l, rfl, rl.samex hx s2, sm.2.1, Nat.le_trans hz8 (by decide), fun k hk H3 s3 d3 hd3 => ?_, fun hk H3 r3 s3 t3 => ?_⟩
    · have := kE H3 (s2.trans (sX s3)) d3 hd3
      rw [dueL k hk] at this
      exact this
    have eD2 := dueL0 hk
    obtain ⟨eL, tL⟩ := reader_back hk
    rw [eL] at t3
    refine ⟨.ref x, rfl, x, _, dx, _, rfl, s3 _ _ upd_same, C, noat_Pair_left T, (by show 1 < 1000; decide), ?_⟩
    -- right
    have s4 : SameX x H (upd H3 x (.ins (He.ga K "Pair") dx (putF "left" r3 (putF "alphabet" (.str z) [])))) := (s2.trans (sX s3)).trans sameX_upd
    have t4 : Rt (upd H3 x (.ins (He.ga K "Pair") dx (putF "left" r3 (putF "alphabet" (.str z) [])))) r3 (encR (tabD l)) := t3.tups (sameX_upd.tups fun xs e => by rw [s3 _ _ upd_same] at e; cases e)
    refine ⟨.str z, rfl, vr, rfl, z, "right", vr, r, rfl, rr.samex hx s4, sm.2.2.1, Nat.le_trans hz8 (by decide), fun k hk H5 s5 d5 hd5 => ?_, fun hk H5 r5 s5 t5 => ?_⟩
    · have := kE H5 (s4.trans (sX s5)) d5 hd5
      rw [eD2, hk] at this
      exact this
    rw [hk] at eD2
    obtain ⟨eR, tR⟩ := reader_back hk
    rw [eR] at t5
    refine ⟨.ref x, rfl, x, _, dx, _, rfl, s5 _ _ upd_same, C, noat_Pair_right T, (by show 2 < 1000; decide), ?_⟩
    -- marked
    have s6 : SameX x H (upd H5 x (.ins (He.ga K "Pair") dx (putF "right" r5 (putF "left" r3 (putF "alphabet" (.str z) []))))) := (s4.trans (sX s5)).trans sameX_upd
    have nt5 : Tups H5 (upd H5 x (.ins (He.ga K "Pair") dx (putF "right" r5 (putF "left" r3 (putF "alphabet" (.str z) []))))) := sameX_upd.tups fun xs e => by rw [s5 _ _ upd_same] at e; cases e
    have t6 := (t4.tups (Same.tups s5)).tups nt5
    have u6 := t5.tups nt5
    have hlL : ((tabD l).map encM).length = lenD l := by unfold tabD lenD; rw [List.length_map, List.length_map]
    have hlR : ((tabD r).map encM).length = lenD r := by unfold tabD lenD; rw [List.length_map, List.length_map]
    refine ⟨.str z, rfl, .ref x, rfl, x, _, dx, _, r3, rfl, upd_same, C, noat_Pair_left T, rfl, .ref x, rfl, x, _, dx, _, r5, rfl, upd_same, C, noat_Pair_right T, rfl, vm, rfl, z, r3, r5, vm, _, _, m, rfl, t6, u6, rm.samex hx s6, sm.2.2.2, fun k hk H7 s7 d7 hd7 => ?_, fun hk H7 r7 s7 t7 => ?_⟩
    · have := kE H7 (s6.trans (sX s7)) d7 hd7
      rw [hlL, hlR] at hk
      rw [eD2] at this
      dsimp only at this
      rw [hk] at this
      exact this
    rw [hlL, hlR] at hk
    dsimp only at eD2
    rw [hk] at eD2
    obtain ⟨eM, tM⟩ := marked_back hk
    rw [eM] at t7
    refine ⟨.ref x, rfl, x, _, dx, _, rfl, s7 _ _ upd_same, C, noat_Pair_marked T, (by show 3 < 1000; decide), ?_⟩
    -- masks
    have s8 : SameX x H (upd H7 x (.ins (He.ga K "Pair") dx (putF "marked" r7 (putF "right" r5 (putF "left" r3 (putF "alphabet" (.str z) [])))))) := (s6.trans (sX s7)).trans sameX_upd
    have nt7 : Tups H7 (upd H7 x (.ins (He.ga K "Pair") dx (putF "marked" r7 (putF "right" r5 (putF "left" r3 (putF "alphabet" (.str z) [])))))) := sameX_upd.tups fun xs e => by rw [s7 _ _ upd_same] at e; cases e
    have t8 := (t6.tups (Same.tups s7)).tups nt7
    have u8 := (u6.tups (Same.tups s7)).tups nt7
    have w8 := t7.tups nt7
    obtain ⟨aL, xsL, rfl, hL, hxL⟩ : ∃ aL xsL, r3 = .ref aL ∧ (upd H7 x (.ins (He.ga K "Pair") dx (putF "marked" r7 (putF "right" r5 (putF "left" r3 (putF "alphabet" (.str z) [])))))) aL = some (.tup xsL) ∧ xsL.length = lenD l := by
      unfold encR at t8
      cases t8 with
      | tup e1 h1 => exact ⟨_, _, rfl, e1, h1.length.trans hlL⟩
    have hll : (tabD l).length = lenD l := by rw [← hlL, List.length_map]
    have hrr : (tabD r).length = lenD r := by rw [← hlR, List.length_map]
    have hm9 : (trisD m).length ≤ 100000 := by
      rw [trisD_length]
      unfold lenD
      cases hi : itemsD m with
      | none => exact Nat.zero_le _
      | some ds => exact (sm.2.2.2 ds hi).1
    refine ⟨.str z, rfl, .ref x, rfl, x, _, dx, _, _, rfl, upd_same, C, noat_Pair_left T, rfl, .ref aL, lenD l, rfl, .inr ⟨xsL, SqT.of hL, hxL.symm⟩, .ref x, rfl, x, _, dx, _, r7, rfl, upd_same, C, noat_Pair_marked T, rfl, z, lenD l, r7, trisD m, rfl, w8, hnd, hz8, by rw [← hll]; exact tL.le, hm9,
      fun t ht => ⟨(tM t ht).1, (tM t ht).2.1, Nat.lt_of_lt_of_le (tM t ht).2.2 (by rw [← hrr]; exact tR.le)⟩, fun H9 r9 s9 t9 => ?_⟩
    refine ⟨.ref x, rfl, x, _, dx, _, rfl, s9 _ _ upd_same, C, noat_Pair_masks T, (by show 4 < 1000; decide), ?_⟩
    have nt9 : Tups H9 (upd H9 x (.ins (He.ga K "Pair") dx (putF "masks" r9 (putF "marked" r7 (putF "right" r5 (putF "left" (.ref aL) (putF "alphabet" (.str z) []))))))) := sameX_upd.tups fun xs e => by rw [s9 _ _ upd_same] at e; cases e
    refine kQ eD2 _ ((s8.trans (sX s9)).trans sameX_upd) ⟨dx, .ref aL, r5, r7, r9, upd_same, ?_, (t8.tups (Same.tups s9)).tups nt9, (u8.tups (Same.tups s9)).tups nt9, (w8.tups (Same.tups s9)).tups nt9, ?_⟩ ⟨hz8, ixOk z, tL, tR, habc, fun t ht => ⟨by show t.1 < (tabD l).length; rw [hll]; exact (tM t ht).1, (tM t ht).2.1, by show t.2.2 < (tabD r).length; rw [hrr]; exact (tM t ht).2.2⟩⟩
    · exact ((s8.trans (sX s9)).trans sameX_upd) _ _ hne hdx
    · have h10 := t9.tups nt9
      rw [← hll] at h10
      exact h10
end
end Kx
set_option Elab.async false
set_option linter.all false
set_option maxRecDepth 100000
set_option maxHeartbeats 4000000
namespace Kx
open PySem PySem.Spec PyProof.Rows L2
/-! ### list(range(a, b, c)) -/
section
variable {X : Cx} {a b c : Expr} {ta : TA} {p p2 pos pos2 : Pos}
def tLstRgC (ta : TA) : TE := fun σ H Q => ta σ H fun vs H1 => ∃ (i j c : Int) (n : Nat), vs = [.int i, .int j, .int c] ∧ RgC i j c n ∧ n ≤ 2 ^ 24 ∧ ∀ q, H1 q = none → Q (.ref q) (upd H1 q (.lst ((List.range n).map fun (k : Nat) => V.int (i + (k : Nat) * c))))
theorem prg_3 (hg : Gl X "range") (hm : X.mg "range" = none) (ha : PA X [a, b, c] ta) {pins : List (Addr × Obj)} {s : Shared} {σ : L2.St} {H : Hp} {R : Int → Int → Int → Nat → Hp → Prop} (I : Inv X pins σ H s)
    (h : ta σ H fun vs H1 => ∃ (i j c : Int) (n : Nat), vs = [.int i, .int j, .int c] ∧ RgC i j c n ∧ R i j c n H1)
    (hs : starEach [a, b, c] X.env = (false, eval a X.env) :: starEach [b, c] X.env := by rfl) (hpl : (backTo pos2 (starEach [b, c] X.env)).any (·.1) = false := by rfl) :
    wpAny (model X.prog X.w) X.A (eval (.Call (.Name "range" p2) [a, b, c] [] pos2) X.env) (fun x s' => ∃ r i j c n t u v H', x = .ref r ∧ IsRange s'.heap r i j c t u v ∧ Inv X pins σ H' s' ∧ RgC i j c n ∧ R i j c n H') X.xe s := by
  refine Call_ (ld_blt I hg hm boot_range (PyProof.Rows.callWith_type1 (thn (ha.run pos2 pins s σ H _ I h) fun us s1 ⟨vs, H1, I1, r1, q1⟩ => ?_) hs hpl))
  obtain ⟨i, j, k, n, e, hC, q⟩ := q1
  have hC' := hC
  obtain ⟨c0, c1, c2, c3⟩ := hC'
  subst e
  cases r1 with
  | cons r rr =>
    cases rr with
    | cons r' rr =>
      cases rr with
      | cons r'' rr =>
        cases rr
        obtain ⟨t, rfl⟩ := r
        obtain ⟨t', rfl⟩ := r'
        obtain ⟨t'', rfl⟩ := r''
        exact call_range_3 c0 ⟨_, i, j, k, n, _, _, _, H1, rfl, IsRange.new _ _ _ _ _ _ _, I1.kept fun b u e => Heap.get?_push_of_some _ e, hC, q⟩ (.inl (PyProof.noPylong_small c1))
theorem pe_listRgC (hc : X.calm = true) (hgl : Gl X "list") (hml : X.mg "list" = none) (hg : Gl X "range") (hm : X.mg "range" = none) (ha : PA X [a, b, c] ta)
    (hs : starEach [a, b, c] X.env = (false, eval a X.env) :: starEach [b, c] X.env := by rfl) (hpl : (backTo pos2 (starEach [b, c] X.env)).any (·.1) = false := by rfl)
    (na : starEach [.Call (.Name "range" p2) [a, b, c] [] pos2] X.env = (false, eval (.Call (.Name "range" p2) [a, b, c] [] pos2) X.env) :: starEach [] X.env := by rfl) :
    PE X (.Call (.Name "list" p) [.Call (.Name "range" p2) [a, b, c] [] pos2] [] pos) (tLstRgC ta) := by
  refine ⟨fun pins s σ H Q I h => ?_⟩
  refine Call_ (ld_blt I hgl hml boot_list (PyProof.Rows.callWith_type1 (args_cons (thn (prg_3 hg hm ha I h hs hpl) fun x s1 ⟨r, i, j, k, n, t, u, v, H1, ex, hr, I1, hC, hn, q⟩ => args_nil ?_) na) na))
  subst ex
  obtain ⟨c0, c1, c2, c3⟩ := hC
  refine call_list_range (n := n) (I1.ok.hd hc) hr c2 c3 hn fun h' tk acc c' hk e' hi => ?_
  have e : acc.toList.length = n := by rw [Array.length_toList]; exact hi.1
  refine ⟨.ref s1.heap.objs.size, upd H1 s1.heap.objs.size (.lst ((List.range n).map fun (m : Nat) => V.int (i + (m : Nat) * k))), I1.laid hk (Nat.le_refl _) (show ObjOk X.prog X.w _ _ _ (.lst ((List.range n).map fun (m : Nat) => V.int (i + (m : Nat) * k))) from ⟨?_, acc.toList, c', ?_, ?_⟩), rfl, q _ (I1.hok.fresh (Nat.le_refl _))⟩
  · rw [List.length_map, List.length_range, sizeLine_eq]; omega
  · rw [← e]
    refine vals_of_get acc.toList (fun (m : Nat) => V.int (i + (m : Nat) * k)) fun j u hj => ?_
    obtain ⟨t, rfl⟩ := hi.2 j u (by rw [← hj, Array.getElem?_toList])
    exact ⟨t, rfl⟩
  · rw [Array.toArray_toList]; exact e'
end
end Kx
set_option Elab.async false
set_option linter.all false
set_option maxRecDepth 100000
set_option maxHeartbeats 4000000
namespace Kx
open PySem PySem.Spec PyProof.Rows L2
theorem lenV_sq {K : PySem.W.Frag} {H : Hp} {a : Addr} {xs : List V} {n : Nat} (h : H a = some (.lst xs) ∨ H a = some (.tup xs)) (e : xs.length = n) : LenV K (.ref a) H n := by
  subst e
  exact lenV_seq h
/-- an item of a list or a tuple -/
theorem rIx_sq {K : PySem.W.Frag} {H : Hp} {a : Addr} {xs : List V} {i : Nat} {v : V} {Q : VK} (h : H a = some (.lst xs) ∨ H a = some (.tup xs)) (e : xs[i]? = some v) (q : Q v H) : rIx K (.ref a) (.int (i : Nat)) H Q := by
  rcases h with h | h
  · exact .inl ⟨a, xs, _, v, rfl, rfl, SqL.of h, atI_nat e, q⟩
  · exact .inr (.inl ⟨a, xs, _, v, rfl, rfl, SqT.of h, atI_nat e, q⟩)
theorem sq_same {H H' : Hp} {a : Addr} {xs : List V} (s : Same H H') (h : H a = some (.lst xs) ∨ H a = some (.tup xs)) : H' a = some (.lst xs) ∨ H' a = some (.tup xs) := h.elim (fun h => .inl (s _ _ h)) fun h => .inr (s _ _ h)
/-! ### a slice of a list or a tuple -/
def rSlQ (K : PySem.W.Frag) : V → Option Int → Option Int → Hp → VK → Prop := fun x lo hi H Q => rSlL K x lo hi H Q ∨ rSlA K x lo hi H Q
theorem sl_seq {X : Cx} : SlR X (rSlQ X.K) := SlR.or sl_list sl_tupA
theorem cutV1 (x : V) (r : List V) : cutV (x :: r) (some 1) none = r := by
  have e1 : HT.sIx (x :: r).length 0 (some 1) = 1 := by
    unfold HT.sIx
    simp
    try omega
  have e2 : HT.sIx (x :: r).length (x :: r).length none = (x :: r).length := rfl
  unfold cutV
  rw [e1, e2]
  show (r.take _) = r
  exact List.take_of_length_le (by simp)
/-- what follows the first item, newly laid -/
theorem slq_tail {K : PySem.W.Frag} {H : Hp} {a : Addr} {x : V} {r : List V} {Q : VK} (h : H a = some (.lst (x :: r)) ∨ H a = some (.tup (x :: r))) (q : ∀ p o, H p = none → (o = .lst r ∨ o = .tup r) → Q (.ref p) (upd H p o)) : rSlQ K (.ref a) (some 1) none H Q := by
  have hc := cutV1 x r
  rcases h with h | h
  · exact .inl ⟨a, _, rfl, SqL.of h, fun p hp => by rw [hc]; exact q p _ hp (.inl rfl)⟩
  · refine .inr ⟨a, _, rfl, SqT.of h, fun z => ?_, fun _ p hp => by rw [hc]; exact q p _ hp (.inr rfl)⟩
    exfalso
    have e1 : HT.sIx (x :: r).length 0 (some 1) = 1 := by
      unfold HT.sIx
      simp
      try omega
    rw [e1] at z
    exact absurd z.1 (by decide)
theorem dec_str (x y : Str) : decide (V.str x = V.str y) = decide (x = y) := by
  by_cases h : x = y
  · rw [h]; simp
  · simp [h]
theorem iSeq_of {K : PySem.W.Frag} {te : TE} {σ : L2.St} {H : Hp} {a : Addr} {xs : List V} {R : It → Hp → Prop} (ht : ∀ Q : VK, Q (.ref a) H → te σ H Q) (h : H a = some (.lst xs) ∨ H a = some (.tup xs))
    (r : ∀ (J : It) (G : Hp → Prop), (∀ H', Same H H' → G H') → Walk J xs.length G (YAt xs) → R J H) : iSeq K te σ H R := by
  refine ht _ ⟨a, xs, rfl, ?_⟩
  rcases h with h | h
  · exact .inl ⟨SqL.of h, fun J WJ => r J _ (fun H' s => SqL.of (s _ _ h)) WJ⟩
  · exact .inr ⟨SqT.of h, fun J WJ => r J _ (fun H' s => SqT.of (s _ _ h)) WJ⟩
theorem rIxL_of {K : PySem.W.Frag} {H : Hp} {a : Addr} {xs : List V} {i : Nat} {v : V} {Q : VK} (h : H a = some (.lst xs)) (e : xs[i]? = some v) (q : Q v H) : rIxL K (.ref a) (.int (i : Nat)) H Q :=
  ⟨a, xs, _, v, rfl, rfl, SqL.of h, atI_nat e, q⟩
theorem sq_or {K : PySem.W.Frag} {H : Hp} {a : Addr} {xs : List V} {R : It → Hp → Prop} (h : H a = some (.lst xs) ∨ H a = some (.tup xs))
    (r : ∀ (J : It) (G : Hp → Prop), (∀ H', Same H H' → G H') → Walk J xs.length G (YAt xs) → R J H) :
    (SqL K H a xs ∧ ∀ J, Walk J xs.length (fun H => SqL K H a xs) (YAt xs) → R J H) ∨ (SqT K H a xs ∧ ∀ J, Walk J xs.length (fun H => SqT K H a xs) (YAt xs) → R J H) := by
  rcases h with h | h
  · exact .inl ⟨SqL.of h, fun J WJ => r J _ (fun H' s => SqL.of (s _ _ h)) WJ⟩
  · exact .inr ⟨SqT.of h, fun J WJ => r J _ (fun H' s => SqT.of (s _ _ h)) WJ⟩
def flatD : PyData → Bool
  | .none | .bool _ | .int _ | .str _ => true
  | _ => false
theorem rpL_flt {H : Hp} : ∀ {vs : List V} {ds : List PyData}, RpL H vs ds → ds.all flatD = true → RtL H vs ds
  | _, _, .nil, _ => .nil
  | _, _, .cons h hs, e => by
    rw [List.all_cons, Bool.and_eq_true] at e
    refine .cons ?_ (rpL_flt hs e.2)
    cases h with
    | non => exact .non
    | bl b => exact .bl b
    | int i => exact .int i
    | str z => exact .str z
    | _ => exact Bool.noConfusion e.1
theorem rtL_of {H : Hp} : ∀ {vs : List V} {ds : List PyData}, vs.length = ds.length → (∀ (i : Nat) v d, vs[i]? = some v → ds[i]? = some d → Rt H v d) → RtL H vs ds
  | [], [], _, _ => .nil
  | v :: vs, d :: ds, h, k => .cons (k 0 v d rfl rfl) (rtL_of (by simpa using h) fun i x y hx hy => k (i + 1) x y (by simpa using hx) (by simpa using hy))
  | [], _ :: _, h, _ => by simp at h
  | _ :: _, [], h, _ => by simp at h
theorem rpL_of {H : Hp} : ∀ {vs : List V} {ds : List PyData}, vs.length = ds.length → (∀ (i : Nat) v d, vs[i]? = some v → ds[i]? = some d → Rp H v d) → RpL H vs ds
  | [], [], _, _ => .nil
  | v :: vs, d :: ds, h, k => .cons (k 0 v d rfl rfl) (rpL_of (by simpa using h) fun i x y hx hy => k (i + 1) x y (by simpa using hx) (by simpa using hy))
  | [], _ :: _, h, _ => by simp at h
  | _ :: _, [], h, _ => by simp at h
theorem same_over {H1 H : Hp} {D : Addr} {o : HO} (s : Same H1 H) (hD : H1 D = none) : Same H1 (upd H D o) := fun b u e => by
  rw [upd_ne (ne_of_none e hD)]
  exact s b u e
theorem seq_asg {te : TE} {g : TG} {u : TS} {D : Ends} {σ : L2.St} {H : Hp} (h : te σ H (fun x H1 => g x σ H1 (u D))) : tSeq (tAsg te g) u D σ H := h
theorem asg0 {te : TE} {g : TG} {D : Ends} {σ : L2.St} {H : Hp} (h : te σ H (fun x H1 => g x σ H1 D.nx)) : tAsg te g D σ H := h
theorem go_name {i : Nat} {v : V} {σ : L2.St} {H : Hp} {Q : L2.St → Hp → Prop} (h : Q (σ.set i (some v)) H) : gName i v σ H Q := h
theorem seq_exp {te : TE} {u : TS} {D : Ends} {σ : L2.St} {H : Hp} (h : te σ H (fun _ H1 => u D σ H1)) : tSeq (tDrop te) u D σ H := h
/-- an assignment, the slots written out -/
theorem asg_set {te : TE} {i : Nat} {u : TS} {D : Ends} {σ : L2.St} {H : Hp} (h : te σ H (fun x H1 => ∀ σ', σ' = σ.set i (some x) → u D σ' H1)) : tSeq (tAsg te (gName i)) u D σ H := by
  have e : (fun (x : V) (H1 : Hp) => ∀ σ', σ' = σ.set i (some x) → u D σ' H1) = fun x H1 => gName i x σ H1 (u D) := by
    funext x H1
    exact propext ⟨fun h => h _ rfl, fun h σ' e => by rw [e]; exact h⟩
  rw [e] at h
  exact h
theorem asg_end {te : TE} {i : Nat} {D : Ends} {σ : L2.St} {H : Hp} (h : te σ H (fun x H1 => ∀ σ', σ' = σ.set i (some x) → D.nx σ' H1)) : tAsg te (gName i) D σ H := by
  have e : (fun (x : V) (H1 : Hp) => ∀ σ', σ' = σ.set i (some x) → D.nx σ' H1) = fun x H1 => gName i x σ H1 D.nx := by
    funext x H1
    exact propext ⟨fun h => h _ rfl, fun h σ' e => by rw [e]; exact h⟩
  rw [e] at h
  exact h
theorem go_next {D : Ends} {σ : L2.St} {H : Hp} (h : D.nx σ H) : tNext D σ H := h
def one1 (c : Nat) : Str := ⟨#[c]⟩
end Kx
set_option Elab.async false
set_option linter.all false
set_option maxRecDepth 100000
set_option maxHeartbeats 4000000
namespace Kx
open PySem PySem.Spec PyProof.Rows L2
/-! ### promises that hold where no repr is under way (repr of a list asks that) -/
structure FnOkG (P : Program) (w : World) (K : PySem.W.Frag) (mg : Str → Option Value) (base : Heap) (CX : CXT) (k : Nat) (f : Addr) (fd : FuncData) (ps : List Str) (sp : Sp) : Prop where
  len : ∀ vs H Q E, sp vs H Q E → vs.length = ps.length
  run : ∀ (A : Around) (outer : List Env) (s : Shared) (H : Hp) (args : Args) (us : List Value) (vs : List V) (Q : VK) (E : XK), A.guards = some [] → Room k A → Env0 P w K mg base A outer s H → BindsTo s fd args (ps.zip us) →
    Vals vs us → sp vs H Q E → codeAny (model P w) A (.call (.ref f) args) (CR CX outer P w H s Q E) s
section
variable {P : Program} {w : World} {K : PySem.W.Frag} {mg : Str → Option Value} {base : Heap} {CX : CXT}
theorem FnOkG.of {k : Nat} {f : Addr} {fd : FuncData} {ps : List Str} {sp : Sp} (F : FnOk P w K mg base CX k f fd ps sp) : FnOkG P w K mg base CX k f fd ps sp :=
  ⟨F.len, fun A outer s H args us vs Q E _ hr e b v h => F.run A outer s H args us vs Q E hr e b v h⟩
theorem fnG_mk {x q : Str} {st : Stmt} {f : Addr} {fd : FuncData} {N ps : List Str} {k : Nat} {sp : Sp} (F : FnP K x q st f fd) (S : FnScope N ps (defScope st)) (len : ∀ vs H Q E, sp vs H Q E → vs.length = ps.length)
    (hbody : ∀ (cdv : Value) (A : Around) (outer : List Env) (s : Shared) (H : Hp) (vs : List V) (Q : VK) (E : XK), A.guards = some [] → Room k (A.deeper (envOfC q (defScope st) s.heap.objs.size f cdv)) → sp vs H Q E →
      ∃ t, PSs (cxOf CX P w K mg base N q (defScope st) f cdv A outer s H E) (defBody st) t ∧ t { nx := fun _ H' => Q .non H', rt := Q } (start N vs) H) : FnOkG P w K mg base CX (k + 1) f fd ps sp := by
  obtain ⟨oc, od, dV, kV, doc, pm, an, cdv, ct, osl, rfl, lk, hcd, _, _⟩ := F.ex
  refine ⟨len, fun A outer s H args us vs Q E hg hr e0 hb r hsp => ?_⟩
  have hl := len _ _ _ _ hsp
  have up : ∀ b o, base.get? b = some o → s.heap.get? b = some o := fun b o e => (e0.bs b o e).1
  have kinds : ∀ y ∈ ps.zip us, (defScope st).names.lookup y.1 = some .local ∨ ((defScope st).names.lookup y.1 = some .cell ∧ ((cellsFrom (s.heap.objs.size + 1) (defScope st).names []).lookup y.1).isSome = true) := by
    rintro ⟨n, v⟩ hy
    rcases S.par n (List.of_mem_zip hy).1 with q | q
    · exact .inl q
    · exact .inr ⟨q, PySem.W.cellsFrom_some _ _ _ (.inl q)⟩
  refine codeAny_call_function hr.depth (e0.mod.kin.keeps up _ _ lk) rfl S.co S.gen rfl (PySem.W.codeRec_of (e0.mod.kin.keeps up) hcd) (hb _ _ _ _ ?_)
  refine wpAny_newFunctionEnv_cells S.kind kinds fun env he s1 x => ?_
  subst he
  refine ⟨(e0.mod.nolimit.keeps up).keeps x.toInCall.keep, codeAny_func ?_⟩
  obtain ⟨t, ht, hq⟩ := hbody cdv A outer s H vs Q E hg (hr.deeper _) hsp
  have I : Inv (cxOf CX P w K mg base N q (defScope st) f cdv A outer s H E) [] (start N vs) H s1 := inv_start S hr.hd e0 hl r x
  refine wpAny_mono (ht.run [] s1 (start N vs) H _ I hq) (fun fl s' hs => ?_) fun _ _ hs => hs
  cases fl with
  | ret u =>
    obtain ⟨v, σ', H', J, rv, q⟩ := hs
    exact ⟨v, H', J.os, J.bare, J.base, J.hok, rv, q⟩
  | next =>
    obtain ⟨σ', H', J, q⟩ := hs
    exact ⟨V.non, H', J.os, J.bare, J.base, J.hok, rfl, q⟩
  | brk => exact False.elim hs.choose_spec.choose_spec.2
  | cont => exact False.elim hs.choose_spec.choose_spec.2
end
/-- a def of the module, so promised -/
structure CalG (P : Program) (w : World) (K : PySem.W.Frag) (mg : Str → Option Value) (base : Heap) (CX : CXT) (k : Nat) (x : Str) (ps : List Str) (sp : Sp) : Prop where
  ok : ∃ fd, FnOkG P w K mg base CX k (He.ga K x) fd ps sp ∧ Binds K fd ps []
  g : mg x = some (.ref (He.ga K x))
  kp : PySem.W.keepIn K (.ref (He.ga K x)) = true
section
variable {P : Program} {w : World} {K : PySem.W.Frag} {mg : Str → Option Value} {base : Heap} {CX : CXT}
theorem calG_of {k : Nat} {x : Str} {ps : List Str} {sp : Sp} (F : Cal P w K mg base CX k x ps sp) : CalG P w K mg base CX k x ps sp := by
  obtain ⟨⟨fd, h1, h2⟩, h3, h4⟩ := F
  exact ⟨⟨fd, .of h1, h2⟩, h3, h4⟩
theorem calG_mk {x q : Str} {st : Stmt} {fd : FuncData} {N ps : List Str} {k : Nat} {sp : Sp} (F : FnP K x q st (He.ga K x) fd) (g : mg x = some (.ref (He.ga K x))) (S : FnScope N ps (defScope st))
    (hb : ∀ (kV doc pm : Value) (an : Option Addr) (cdv ct : Value) (us : List Value), us.length = ps.length → bindArgs (PySem.W.fnOf x q (defArgs st) (defBody st) (defScope st) .none kV doc pm an cdv ct) ⟨us, []⟩ = pure (ps.zip us))
    (len : ∀ vs H Q E, sp vs H Q E → vs.length = ps.length)
    (hbody : ∀ (cdv : Value) (A : Around) (outer : List Env) (s : Shared) (H : Hp) (vs : List V) (Q : VK) (E : XK), A.guards = some [] → Room k (A.deeper (envOfC q (defScope st) s.heap.objs.size (He.ga K x) cdv)) → sp vs H Q E →
      ∃ t, PSs (cxOf CX P w K mg base N q (defScope st) (He.ga K x) cdv A outer s H E) (defBody st) t ∧ t { nx := fun _ H' => Q .non H', rt := Q } (start N vs) H) : CalG P w K mg base CX (k + 1) x ps sp :=
  ⟨⟨fd, fnG_mk F S len hbody, F.bindsN hb⟩, g, F.kp⟩
end
section
variable {X : Cx} {CX : CXT} {k : Nat} {x : Str} {ps : List Str} {sp : Sp} {E : XK} {e : Expr} {es : List Expr} {t : TA} {p pos : Pos}
/-- f(e, ..), f promised so -/
theorem pe_calG (F : CalG X.prog X.w X.K X.mg X.base CX k x ps sp) (hG : X.A.guards = some []) (hr : Room k X.A) (hx : Passes CX X E) (ha : PA X (e :: es) t) (hg : Gl X x := by rfl) (hdb : (x == ("__debug__" : Str)) = false := by decide)
    (he : starEach (e :: es) X.env = (false, eval e X.env) :: starEach es X.env := by rfl) (hpl : (backTo pos (starEach es X.env)).any (·.1) = false := by rfl) :
    PE X (.Call (.Name x p) (e :: es) [] pos) (tCall sp [] E t) := by
  obtain ⟨fd, h1, h2⟩ := F.ok
  constructor
  intro pins s σ H Q I h
  refine wpAny_Call_Name_kw (ld_glob I hg F.g ?_ hdb)
  refine PySem.W.callWith_K (h₀ := X.base) I.ok.mod.kin F.kp (thn (ha.run pos pins s σ H _ I h) fun us s1 hh => ?_) he hpl
  obtain ⟨vs, H1, I1, r, q⟩ := hh
  refine ⟨I1.kIn, ?_⟩
  have q : sp (vs ++ []) H1 Q E := q
  rw [List.append_nil] at q
  have hl : (us ++ []).length = ps.length := by rw [List.append_nil, ← r.length]; exact h1.len _ _ _ _ q
  have hb := h2 s1 us I1.kIn hl
  rw [List.append_nil] at hb
  refine wpAny_call (codeAny_mono (h1.run X.A X.stack s1 H1 ⟨us, []⟩ us vs Q E hG hr I1.env0 hb r q) fun r s' hq => ?_)
  cases r with
  | error er => exact hx pins σ H1 s1 er s' I1 hq
  | ok fl =>
    cases fl with
    | ret u => exact I1.after hq
    | _ => exact False.elim hq
end
/-! ### repr -/
/-- repr(x), the data of x without dicts -/
def rRepr (K : PySem.W.Frag) : List V → Hp → VK → Prop := fun xs H Q => ∃ x d, xs = [x] ∧ Dp K H x d ∧ d.showable = true ∧ d.hasDict = false ∧ d.depth ≤ 60 ∧ ((∃ i, d = .int i) ∨ d.shown.length ≤ sizeLine) ∧ Q (.str d.shown) H
theorem call_repr {X : Cx} (hG : X.A.guards = some []) (hu : X.A.units + 64 < cLine) : CallR X (.builtin "repr") (rRepr X.K) := by
  intro pins s σ H xs us Q I r h
  obtain ⟨x, d, rfl, hd, hs, hn, hz, hl, q⟩ := h
  obtain ⟨u, rfl, ru⟩ := vals1 r
  obtain ⟨as, rd⟩ := Dp.reads I d x u hd ru
  cases hd with
  | non =>
    cases ru
    exact PySem.P.repr_of_none ⟨.str _, H, I.tok _, ⟨_, rfl⟩, q⟩
  | bl b =>
    cases ru
    exact PySem.P.repr_of_bool ⟨.str _, H, I.tok _, ⟨_, rfl⟩, q⟩
  | int i =>
    obtain ⟨t, rfl⟩ := ru
    exact PySem.P.repr_of_int (by simpa [PyData.showable] using hs) ⟨.str _, H, I.tok _, ⟨_, rfl⟩, q⟩
  | str z =>
    obtain ⟨t, rfl⟩ := ru
    exact PySem.P.repr_of_str ⟨.str _, H, I.tok _, ⟨_, rfl⟩, q⟩ (hl.resolve_left fun ⟨_, z⟩ => nomatch z)
  | lst h1 h2 =>
    cases ru
    exact PySem.repr_of_reads' rd hs (PyData.noDict_hsm hn) hG (by omega) (fun _ _ e => e) (fun h' t tk kk => ⟨.str _, H, I.kept kk, ⟨_, rfl⟩, q⟩) (hl.resolve_left fun ⟨_, z⟩ => nomatch z)
  | tup h1 h2 =>
    cases ru
    exact PySem.repr_of_reads' rd hs (PyData.noDict_hsm hn) hG (by omega) (fun _ _ e => e) (fun h' t tk kk => ⟨.str _, H, I.kept kk, ⟨_, rfl⟩, q⟩) (hl.resolve_left fun ⟨_, z⟩ => nomatch z)
theorem b_repr : bootBuiltins "repr" = some (.builtin "repr") := by decide +kernel
theorem show_int {k : Int} (h1 : -1 ≤ k) (h2 : k ≤ 100000) : (PyData.int k).showable = true := by
  unfold PyData.showable
  rw [decide_eq_true_eq]
  by_cases h0 : k.natAbs = 0
  · rw [h0]; decide
  · exact (Nat.log2_lt h0).mpr (Nat.lt_of_le_of_lt (by omega : k.natAbs ≤ 100000) (Nat.lt_of_lt_of_le (by decide : 100000 < 2 ^ 17) (Nat.pow_le_pow_right (by decide) (by decide))))
/-- data that repr shows -/
structure ReprOk (d : PyData) : Prop where
  sh : d.showable = true
  nd : d.hasDict = false
  dp : d.depth ≤ 60
  sz : (∃ i, d = .int i) ∨ d.shown.length ≤ sizeLine
theorem reprOk_int {k : Int} (h : -1 ≤ k ∧ k ≤ 100000) : ReprOk (.int k) := ⟨show_int h.1 h.2, by simp [PyData.hasDict], by simp [PyData.depth], .inl ⟨k, rfl⟩⟩
mutual
theorem Rp.dp {K : PySem.W.Frag} {H : Hp} : ∀ {v : V} {d : PyData}, Rp H v d → d.hasDict = false → Dp K H v d
  | _, _, .non, _ => .non
  | _, _, .bl b, _ => .bl b
  | _, _, .int i, _ => .int i
  | _, _, .str z, _ => .str z
  | _, _, .lst e h, n => .lst (SqL.of e) (RpL.dp h (by simpa [PyData.hasDict] using n))
  | _, _, .tup e h, n => .tup (SqT.of e) (RpL.dp h (by simpa [PyData.hasDict] using n))
  | _, _, .dct e, n => by simp [PyData.hasDict] at n
theorem RpL.dp {K : PySem.W.Frag} {H : Hp} : ∀ {vs : List V} {ds : List PyData}, RpL H vs ds → PyData.hasDictAll ds = false → DpAll K H vs ds
  | _, _, .nil, _ => .nil
  | _, _, .cons h hs, n => by
    simp only [PyData.hasDictAll, Bool.or_eq_false_iff] at n
    exact .cons (Rp.dp h n.1) (RpL.dp hs n.2)
end
end Kx
set_option Elab.async false
set_option linter.all false
set_option maxRecDepth 100000
set_option maxHeartbeats 4000000
namespace Kx
open PySem PySem.Spec PyProof.Rows L2
/-! ### a handled exception, seen from the def that it was passed to -/
section
variable {X : Cx} {a C : Addr} {oe : Obj} {d : Option Addr} {pos : Pos}
/-- as an instance -/
theorem err_inst {pins : List (Addr × Obj)} {s : Shared} {σ : L2.St} {H : Hp} {dd : Addr} {fs : List (Str × V)} (hm : (a, oe) ∈ X.pn) (hz : Zc (.ref C) (some dd) oe) (hf : ∃ vs, oe.data = .fields vs) (I : Inv X pins σ H s) (hd : H dd = some (.xd fs)) :
    ∃ od, PySem.W.InstAt s.heap a oe C (some od) ∧ ∀ n v, fs.lookup n = some v → ∃ u, PySem.W.lookIn n od = some (some u) ∧ RelV v u := by
  obtain ⟨hget, _⟩ := I.pin (a, oe) (List.mem_append_left _ hm)
  obtain ⟨vs, hv⟩ := hf
  have hx : ObjOk X.prog X.w H s.heap dd (.xd fs) := I.hok dd _ hd
  obtain ⟨mA, hns, hr⟩ := hx
  obtain ⟨od, ho, hl⟩ := lookIn_ns hns
  refine ⟨od, ⟨hget, hz.1, by unfold PySem.W.notCls; rw [hv] <;> rfl, by rw [hz.2]; exact ho⟩, fun n v l => ?_⟩
  obtain ⟨u, hu, ru⟩ := RelO.some_of (v := v) (o := mA n) (by rw [← l]; exact hr n)
  exact ⟨u, by rw [hl, hu], ru⟩
/-- isinstance(e, D) -/
def rIsM (K : PySem.W.Frag) (C a : Addr) (d : Option Addr) : List V → Hp → VK → Prop := fun xs H Q => ∃ (D dd : Addr) (fs : List (Str × V)) (b : Bool), xs = [.ref a, .ref D] ∧ d = some dd ∧ H dd = some (.xd fs) ∧ PySem.W.kitOne K (.ref C) (.ref D) = some b ∧ Q (.bl b) H
theorem call_isM (T : XfC X.K C) (hcl : (PySem.W.clsIn X.K C).isSome = true) (hc : PySem.W.findIn X.K (.ref C) "__class__" = some (some (.builtin "object.__class__"))) (hn : PySem.W.specialIn X.K (.builtin "object.__class__") "__get__" = some (some (.builtin "getset_descriptor.__get__")))
    (ht : PySem.W.takesIn X.K (.builtin "object.__class__") = some true) (ho : PySem.W.mroIn X.K C (.type "object") = some true) (hm : (a, oe) ∈ X.pn) (hz : Zc (.ref C) d oe) (hf : ∃ vs, oe.data = .fields vs) : CallR X (.builtin "isinstance") (rIsM X.K C a d) := by
  rintro pins s σ H xs us Q I r ⟨D, dd, fs, b, rfl, rfl, hd, e, q⟩
  obtain ⟨u1, u2, rfl, r1, r2⟩ := vals2 r
  cases r1
  cases r2
  obtain ⟨od, J, _⟩ := err_inst hm hz hf I hd
  exact PySem.W.kia_one (PySem.W.kitx_exc hcl T.ga T.gg T.exC hc hn ht ho) I.kIn J e (fun z => nomatch z) fun tk => ⟨.bl b, H, I.kept (t' := tk) fun _ _ z => z, rfl, q⟩
/-- e.f -/
theorem pe_xfM {e : Expr} {te : TE} {n : Str} {cls : Value} (T : XfC X.K C) (hno : PySem.W.findIn X.K (.ref C) n = some none) (hm : (a, oe) ∈ X.pn) (hz : Zc cls d oe) (hf : ∃ vs, oe.data = .fields vs) (he : PE X e te)
    (hb : attributeBase e n X.env (eval e X.env) = eval e X.env := by rfl) : PE X (.Attribute e n pos) (tXf a cls d C n te) := by
  constructor
  intro pins s σ H Q I h
  refine attr_of hb (thn (he.run pins s σ H _ I h) fun u s1 hh => ?_)
  obtain ⟨x, H1, I1, rx, rfl, rfl, dd, fs, v, rfl, ea, l, q⟩ := hh
  obtain rfl : u = Value.ref a := rx
  obtain ⟨od, J, hl⟩ := err_inst hm hz hf I1 ea
  obtain ⟨u, hu, ru⟩ := hl n v l
  exact PySem.HandSPX.exc_get I1.kIn J T.ga T.gg T.exC (PySem.W.findObj_own T.hdC hno rfl hu) (handed_of ru) ⟨v, H1, I1.tok _, ru, q⟩
end
theorem ex_rest {K mg} (T : Txt K mg) : kitsB K = true ∧ (∀ x ∈ toldl, clsfB K (He.ga K x) = true) ∧ objB K = true ∧ fldsB K = true := by
  have h := (Bool.and_eq_true_iff.mp T.ex).2
  simp only [Bool.and_eq_true] at h
  exact ⟨h.1, fun x hx => List.all_eq_true.mp h.2.1 x hx, h.2.2.1, h.2.2.2.1⟩
theorem objF {K mg} (T : Txt K mg) : PySem.W.specialIn K (.builtin "object.__class__") "__get__" = some (some (.builtin "getset_descriptor.__get__")) ∧ PySem.W.takesIn K (.builtin "object.__class__") = some true := by
  have h := (ex_rest T).2.2.1
  unfold objB at h
  simp only [Bool.and_eq_true, decide_eq_true_eq] at h
  exact h
theorem told_ex : ∀ x ∈ toldl, ∃ fs, (x, fs) ∈ excl := by
  intro x hx
  have h : (toldl.all fun x => excl.any fun p => decide (p.1 = x)) = true := by decide +kernel
  have h1 := List.all_eq_true.mp h x hx
  obtain ⟨p, hp, he⟩ := List.any_eq_true.mp h1
  have := of_decide_eq_true he
  subst this
  exact ⟨p.2, hp⟩
structure ErrF (K : PySem.W.Frag) (x : Str) : Prop where
  xf : XfC K (He.ga K x)
  cl : (PySem.W.clsIn K (He.ga K x)).isSome = true
  cc : PySem.W.findIn K (.ref (He.ga K x)) "__class__" = some (some (.builtin "object.__class__"))
  mo : PySem.W.mroIn K (He.ga K x) (.type "object") = some true
  kit : ∀ y ∈ askedl, PySem.W.kitOne K (.ref (He.ga K x)) (.ref (He.ga K y)) = some (isErr x y)
  fld : ∀ f ∈ (["at", "number", "side", "thing"] : List Str), PySem.W.findIn K (.ref (He.ga K x)) f = some none
theorem errF {K mg} (T : Txt K mg) {x : Str} (hx : x ∈ toldl) : ErrF K x := by
  have hall : ∀ fs, (x, fs) ∈ excl → exB K x fs = true := fun fs hf => List.all_eq_true.mp (Bool.and_eq_true_iff.mp (Bool.and_eq_true_iff.mp T.ex).1).1 (x, fs) hf
  obtain ⟨fs0, hf0⟩ := told_ex x hx
  have h0 := hall fs0 hf0
  unfold exB at h0
  simp only [Bool.and_eq_true] at h0
  have xf := xfB_ok h0.2.2.2.2.2.2.2.2
  obtain ⟨k1, k2, _, k6⟩ := ex_rest T
  have hc := k2 x hx
  unfold clsfB at hc
  simp only [Bool.and_eq_true, decide_eq_true_eq] at hc
  refine ⟨xf, ?_, hc.1, hc.2, fun y hy => ?_, fun f hff => ?_⟩
  · obtain ⟨cd, h, _⟩ := PySem.W.any_some xf.hdC
    rw [h]
    rfl
  · unfold kitsB at k1
    exact of_decide_eq_true (List.all_eq_true.mp (List.all_eq_true.mp k1 x hx) y hy)
  · unfold fldsB at k6
    exact of_decide_eq_true (List.all_eq_true.mp (List.all_eq_true.mp k6 x hx) f hff)
section
variable {X : Cx}
theorem psS_ex {α : Type} {b : List Stmt} {p : α → Prop} {t : α → TS} {t' : TS} (h : ∀ x, p x → PSs X b (t x)) (i : ∀ D σ H, t' D σ H → ∃ x, p x ∧ t x D σ H) : PSs X b t' := ⟨fun pins s σ H D I h' => by
  obtain ⟨x, px, q⟩ := i D σ H h'
  exact (h x px).run pins s σ H D I q⟩
end
/-- what a call may let out here -/
theorem passAtN {X : Cx} {W : WX} (tk : L2N.Takes X W) (σ : L2.St) : PassesAt (L2N.CX X.prog X.w) X σ (fun cls d H => W cls d σ H) := fun _ _ _ er s' I c => tk er s' (L2N.XE.of_call I (fun _ _ _ h => h) c)
theorem takes_no {X : Cx} : L2N.Takes X (fun _ _ _ _ => False) := fun u s' ⟨_, _, _, _, _, _, _, _, _, _, _, _, _, _, _, _, h⟩ => h.elim
end Kx
set_option Elab.async false
set_option linter.all false
set_option maxRecDepth 100000
set_option maxHeartbeats 4000000
namespace Kx
open PySem PySem.Spec PyProof.Rows L2
theorem rIx_str {K : PySem.W.Frag} {H : Hp} {z : Str} {i c : Nat} {Q : VK} (hz : z.length ≤ 100000) (e : z.cps.toList[i]? = some c) (q : Q (.str ⟨#[c]⟩) H) : rIx K (.str z) (.int (i : Nat)) H Q :=
  .inr (.inr ⟨z, _, c, rfl, rfl, Nat.le_trans hz (by decide), atI_nat e, q⟩)
/-! ### the source of draws: a list of three ints, changed by each draw -/
def three (A S C : Int) : HO := .lst [.int A, .int S, .int C]
def SrcAt (H : Hp) (a : Addr) : Prop := ∃ A S C : Int, H a = some (three A S C)
theorem set3 {H : Hp} {a : Addr} {A S C x : Int} {i : Nat} {Q : Hp → Prop} (h : H a = some (three A S C)) (hi : i < 3) (q : Q (upd H a (.lst ([V.int A, .int S, .int C].set i (.int x))))) : rSetL (.ref a) (.int (i : Nat)) (.int x) H Q := by
  refine ⟨a, _, (i : Nat), i, rfl, rfl, h, ?_, q⟩
  match i, hi with
  | 0, _ => rfl
  | 1, _ => rfl
  | 2, _ => rfl
section
variable {P : Program} {w : World} {K : PySem.W.Frag} {mg : Str → Option Value} {base : Heap}
def sp_law_pick : Sp := fun vs H Q _ => ∃ (a : Addr) (m : Int), vs = [.ref a, .int m] ∧ 0 < m ∧ m < 1073741824 ∧ SrcAt H a ∧ ∀ (A S C d : Int), 0 ≤ d → d < m → Q (.int d) (upd H a (three A S C))
theorem upd_upd {H : Hp} {a : Addr} {o o' : HO} : upd (upd H a o) a o' = upd H a o' := by
  funext b
  by_cases hb : b = a
  · subst hb; rw [upd_same, upd_same]
  · rw [upd_ne hb, upd_ne hb, upd_ne hb]
theorem ok_law_pick (T : Txt K mg) : Cal P w K mg base CX0 1 "_law_pick" ["_law_source_here", "_law_many"] sp_law_pick := by
  obtain ⟨fd, F⟩ := F__law_pick T
  refine cal_mk F (g__law_pick T) sc__law_pick (fun _ _ _ _ _ _ us hl => match us, hl with | [_, _], _ => rfl) (fun vs H Q E h => ?_) (fun cdv A outer s H vs Q E hr h => ?_)
  · obtain ⟨a, m, rfl, _⟩ := h; rfl
  · refine ⟨_, PSs.nox (pss_cons (ps_if (pt_cmpR op_gt (pe_ix ix_list (pv 0) pe_int (fun _ _ => rfl)) pe_int (nomark _))
        (pss_cons (ps_set (i := 2) sc__law_pick.nd rfl (Or.inl rfl) (pe_op op_mod (pe_callTy call_int1 (by rfl) (fr_int T) b_int (pa_cons (pe_ix ix_list (pv 0) pe_int (fun _ _ => rfl)) pa_nil)) (pv 1)))
        (pss_cons (ps_asg (pe_op op_fdiv (pe_ix ix_list (pv 0) pe_int (fun _ _ => rfl)) (pv 1)) (pg_sub (pv 0) pe_int set_list))
        (pss_one (ps_ret (pv 2))))) pss_nil)
      (pss_cons (ps_asg (pe_op op_add (pe_ix ix_list (pv 0) pe_int (fun _ _ => rfl)) pe_int) (pg_sub (pv 0) pe_int set_list))
      (pss_cons (ps_set (i := 3) sc__law_pick.nd rfl (Or.inl rfl) (pe_op op_mod (pe_callTy call_int1 (by rfl) (fr_int T) b_int (pa_cons (pe_op op_mul (pe_op op_add (pe_ix ix_list (pv 0) pe_int (fun _ _ => rfl)) (pe_op op_mul pe_int (pe_ix ix_list (pv 0) pe_int (fun _ _ => rfl)))) pe_int) pa_nil)) pe_int))
      (pss_cons (ps_set (i := 3) sc__law_pick.nd rfl (Or.inl rfl) (pe_op op_mod (pe_callTy call_int1 (by rfl) (fr_int T) b_int (pa_cons (pe_op op_add (pe_op op_add (pe_op op_mul (pv 3) (pv 3)) (pe_op op_mul pe_int (pe_ix ix_list (pv 0) pe_int (fun _ _ => rfl)))) (pe_ix ix_list (pv 0) pe_int (fun _ _ => rfl))) pa_nil)) pe_int))
      (pss_cons (ps_set (i := 3) sc__law_pick.nd rfl (Or.inl rfl) (pe_op op_mod (pe_callTy call_int1 (by rfl) (fr_int T) b_int (pa_cons (pe_op op_add (pe_op op_mul (pv 3) pe_int) pe_int) pa_nil)) pe_int))
      (pss_cons (ps_set (i := 3) sc__law_pick.nd rfl (Or.inl rfl) (pe_op op_mod (pe_callTy call_int1 (by rfl) (fr_int T) b_int (pa_cons (pe_op op_add (pe_op op_mul (pv 3) (pv 3)) (pv 3)) pa_nil)) pe_int))
      (pss_one (ps_ret (pe_op op_mod (pe_callTy call_int1 (by rfl) (fr_int T) b_int (pa_cons (pe_op op_fdiv (pv 3) pe_int) pa_nil)) (pv 1)))))))))), ?_⟩
    obtain ⟨a, m, rfl, hm0, hm1, ⟨A0, S0, C0, hs⟩, q⟩ := h
    have hs' : H a = some (.lst [.int A0, .int S0, .int C0]) := hs
    refine ⟨.ref a, rfl, a, _, _, _, rfl, rfl, SqL.of hs', rfl, A0, 0, rfl, rfl, _, rfl, ?_⟩
    by_cases hA : (0 : Int) < A0
    · rw [decide_eq_true hA]
      refine iteT ⟨.ref a, rfl, a, _, _, _, rfl, rfl, SqL.of hs', rfl, .inl ⟨A0, rfl, .int m, rfl, A0, m, rfl, rfl, hm0, ?_⟩⟩
      refine ⟨.ref a, rfl, a, _, _, _, rfl, rfl, SqL.of hs', rfl, .int m, rfl, A0, m, rfl, rfl, ⟨hm0, hm1⟩, .ref a, rfl, a, _, _, 0, rfl, rfl, hs', rfl, ?_⟩
      exact ⟨.int (A0 % m), rfl, q (A0 / m) S0 C0 (A0 % m) (Int.emod_nonneg _ (by omega)) (Int.emod_lt_of_pos _ hm0)⟩
    · rw [decide_eq_false hA]
      refine iteF ?_
      refine ⟨.ref a, rfl, a, _, _, _, rfl, rfl, SqL.of hs', rfl, C0, 1, rfl, rfl, .ref a, rfl, a, _, _, 2, rfl, rfl, hs', rfl, ?_⟩
      have h2 : upd H a (.lst [.int A0, .int S0, .int (C0 + 1)]) a = some (.lst [.int A0, .int S0, .int (C0 + 1)]) := upd_same
      have hq := q A0 S0 (C0 + 1)
      have e3 : upd H a (.lst ([V.int A0, V.int S0, V.int C0].set 2 (.int (C0 + 1)))) = upd H a (three A0 S0 (C0 + 1)) := rfl
      rw [e3]
      have h3 : upd H a (three A0 S0 (C0 + 1)) a = some (.lst [.int A0, .int S0, .int (C0 + 1)]) := upd_same
      generalize upd H a (three A0 S0 (C0 + 1)) = H3 at h3 hq ⊢
      have sm : ∀ x n : Int, 0 < n → n < 2 ^ 40 → -(2 ^ 64) < x % n ∧ x % n < 2 ^ 64 := fun x n h1 h2 => by
        have e1 := Int.emod_nonneg x (Int.ne_of_gt h1)
        have e2 := Int.emod_lt_of_pos x h1
        omega
      refine ⟨.ref a, rfl, a, _, _, _, rfl, rfl, SqL.of h3, rfl, .ref a, rfl, a, _, _, _, rfl, rfl, SqL.of h3, rfl, 7919, C0 + 1, rfl, rfl, .inl (by omega), S0, _, rfl, rfl, _, 48271, rfl, rfl, .inr (by omega), .inl ⟨_, rfl, _, 2147483647, rfl, rfl, by omega, ?_⟩⟩
      generalize (S0 + 7919 * (C0 + 1)) * 48271 = x1
      refine ⟨_, rfl, _, rfl, _, _, rfl, rfl, .inl (sm x1 2147483647 (by omega) (by omega)), .ref a, rfl, a, _, _, _, rfl, rfl, SqL.of h3, rfl, 69621, C0 + 1, rfl, rfl, .inl (by omega), _, _, rfl, rfl, .ref a, rfl, a, _, _, _, rfl, rfl, SqL.of h3, rfl, _, S0, rfl, rfl, .inl ⟨_, rfl, _, 2147483629, rfl, rfl, by omega, ?_⟩⟩
      generalize x1 % 2147483647 * (x1 % 2147483647) + 69621 * (C0 + 1) + S0 = x2
      refine ⟨_, rfl, _, 16807, rfl, rfl, .inr (by omega), _, 11, rfl, rfl, .inl ⟨_, rfl, _, 2147483647, rfl, rfl, by omega, ?_⟩⟩
      generalize x2 % 2147483629 * 16807 + 11 = x3
      refine ⟨_, rfl, _, rfl, _, _, rfl, rfl, .inl (sm x3 2147483647 (by omega) (by omega)), _, rfl, _, _, rfl, rfl, .inl ⟨_, rfl, _, 2147483587, rfl, rfl, by omega, ?_⟩⟩
      generalize x3 % 2147483647 * (x3 % 2147483647) + x3 % 2147483647 = x4
      refine ⟨_, rfl, _, 3, rfl, rfl, ⟨by omega, by omega⟩, .inl ⟨_, rfl, .int m, rfl, _, m, rfl, rfl, hm0, ?_⟩⟩
      exact hq _ (Int.emod_nonneg _ (by omega)) (Int.emod_lt_of_pos _ hm0)
end
/-! ### what draws leave: the source is a source, all else stands -/
structure Fra (a : Addr) (H H' : Hp) : Prop where
  src : SrcAt H' a
  sm : Same (del H a) (del H' a)
theorem same_del {H H' : Hp} (a : Addr) (s : Same H H') : Same (del H a) (del H' a) := fun b o e => by
  by_cases hb : b = a
  · subst hb; rw [del_same] at e; cases e
  · rw [del_ne hb] at e ⊢; exact s b o e
theorem del_le {H : Hp} (a : Addr) : Same (del H a) H := fun b o e => by
  by_cases hb : b = a
  · subst hb; rw [del_same] at e; cases e
  · rw [del_ne hb] at e; exact e
theorem Fra.refl {a : Addr} {H : Hp} (h : SrcAt H a) : Fra a H H := ⟨h, Same.refl _⟩
theorem Fra.trans {a : Addr} {H H1 H2 : Hp} (f : Fra a H H1) (g : Fra a H1 H2) : Fra a H H2 := ⟨g.src, f.sm.trans g.sm⟩
theorem SrcAt.same {a : Addr} {H H' : Hp} (h : SrcAt H a) (s : Same H H') : SrcAt H' a := by
  obtain ⟨A, S, C, e⟩ := h
  exact ⟨A, S, C, s _ _ e⟩
theorem Fra.same {a : Addr} {H H' : Hp} (h : SrcAt H a) (s : Same H H') : Fra a H H' := ⟨h.same s, same_del a s⟩
theorem Fra.drawn {a : Addr} {H : Hp} (A S C : Int) : Fra a H (upd H a (three A S C)) := ⟨⟨A, S, C, upd_same⟩, fun b o e => by
  by_cases hb : b = a
  · subst hb; rw [del_same] at e; cases e
  · rw [del_ne hb] at e ⊢; rw [upd_ne hb]; exact e⟩
/-- what is seen beside the source stands there behind it -/
theorem Fra.up {a : Addr} {H H' : Hp} (f : Fra a H H') : Same (del H a) H' := f.sm.trans (del_le a)
section
variable {P : Program} {w : World} {K : PySem.W.Frag} {mg : Str → Option Value} {base : Heap}
/-- a draw, told with its frame -/
theorem pick_r {H : Hp} {a : Addr} {m : Int} {Q : VK} {E : XK} (hs : SrcAt H a) (h0 : 0 < m) (h1 : m < 1073741824) (q : ∀ H' d, Fra a H H' → 0 ≤ d → d < m → Q (.int d) H') : sp_law_pick [.ref a, .int m] H Q E :=
  ⟨a, m, rfl, h0, h1, hs, fun A S C d h2 h3 => q _ d (Fra.drawn A S C) h2 h3⟩
end
section
variable {P : Program} {w : World} {K : PySem.W.Frag} {mg : Str → Option Value} {base : Heap}
theorem Fra.over {a : Addr} {H H' : Hp} {D : Addr} {o : HO} (f : Fra a H H') (hD : H D = none) (hna : D ≠ a) : Fra a H (upd H' D o) := by
  refine ⟨?_, fun b u e => ?_⟩
  · obtain ⟨A, S, C, e⟩ := f.src
    exact ⟨A, S, C, by rw [upd_ne (Ne.symm hna)]; exact e⟩
  · have h1 := f.sm b u e
    by_cases hb : b = a
    · subst hb; rw [del_same] at e; cases e
    · rw [del_ne hb] at e h1 ⊢
      rw [upd_ne (ne_of_none e hD)]
      exact h1
def sp_law_word : Sp := fun vs H Q _ => ∃ (a : Addr) (al : Str) (most : Nat), vs = [.ref a, .str al, .int (most : Nat)] ∧ 1 ≤ al.length ∧ al.length ≤ 8 ∧ most ≤ 200 ∧ SrcAt H a ∧
  ∀ H' (cs : List Nat), Fra a H H' → (∀ c ∈ cs, c ∈ al.cps.toList) → cs.length ≤ most → Q (.str (Txt.join "" (cs.map one1))) H'
theorem ok_law_word (T : Txt K mg) : Cal P w K mg base CX0 2 "_law_word" ["_law_source_here", "_law_alphabet_here", "_law_most"] sp_law_word := by
  obtain ⟨fd, F⟩ := F__law_word T
  refine cal_mk F (g__law_word T) sc__law_word (fun _ _ _ _ _ _ us hl => match us, hl with | [_, _, _], _ => rfl) (fun vs H Q E h => ?_) (fun cdv A outer s H vs Q E hr h => ?_)
  · obtain ⟨a, al, most, rfl, _⟩ := h; rfl
  · refine ⟨_, PSs.nox (pss_cons (ps_set (i := 3) sc__law_word.nd rfl (Or.inl rfl) (pe_cal (ok_law_pick T) hr pass0 (pa_cons (pv 0) (pa_cons (pe_op op_add (pv 2) pe_int) pa_nil))))
      (pss_one (ps_ret (pe_join pe_str (pe_lc (own := [("_law_k", 4)]) (g := gName 4) (tt := tYes) rfl sc__law_word.nd (pi_range1 (by rfl) (fr_range T) (pa_cons (pv 3) pa_nil)) (blkOk_by (N := N__law_word) (sc := defScope s__law_word) (by decide +kernel))
        (fun _ _ _ _ _ => pg_name (i := 4) sc__law_word.nd rfl (Or.inl rfl)) (fun _ _ _ _ _ => pts_nil)
        (fun _ _ _ _ _ => by refine pe_ix (ta := tVar 1) (tb := tCall sp_law_pick [] E0 (tCons (tVar 0) (tCons (tCB (rLen K) (tCons (tVar 1) tNil)) tNil))) (r := rIx K) ?_ (pv 1) ?_ (fun _ _ => rfl); exact ix_seq; exact pe_cal (ok_law_pick T) hr pass0 (pa_cons (pv 0) (pa_cons (pe_callB call_len (by rfl) (fr_len T) boot_len (pa_cons (pv 1) pa_nil)) pa_nil)))))))), ?_⟩
    obtain ⟨a, al, most, rfl, h1, h8, hm, hs, q⟩ := h
    refine ⟨.ref a, rfl, .int (most : Nat), rfl, _, 1, rfl, rfl, a, _, rfl, (by omega), (by omega), hs, fun A1 S1 C1 d hd0 hd1 => ?_⟩
    have f1 : Fra a H (upd H a (three A1 S1 C1)) := Fra.drawn A1 S1 C1
    generalize upd H a (three A1 S1 C1) = H1 at f1
    obtain ⟨n, rfl⟩ := Int.eq_ofNat_of_zero_le hd0
    have hn : n ≤ most := by omega
    refine ⟨⟨"", rfl⟩, .int (n : Nat), rfl, (n : Nat), rfl, (by omega), (by omega), fun D hD => ?_⟩
    have hna : D ≠ a := fun z => by
      obtain ⟨A, S, C, e⟩ := f1.src
      rw [← z, hD] at e
      cases e
    have en : ((n : Nat) : Int).toNat = n := by omega
    rw [en]
    refine lc_it (walk_range (n := n)) (tt := tYes) (fun i H2 => ∃ cs : List Nat, H2 D = some (.lst (cs.map fun c => V.str (one1 c))) ∧ cs.length = i ∧ (∀ c ∈ cs, c ∈ al.cps.toList) ∧ Fra a H1 H2)
      ⟨[], upd_same, rfl, fun c hc => (by cases hc), Fra.same f1.src (same_upd hD)⟩ (fun _ _ _ _ => trivial) ?_ ?_
    · rintro i x H2 H3 hi ⟨cs, hDc, hl, hc, f2⟩ ⟨eH, ex0⟩
      replace eH := eH.symm
      subst eH
      refine ⟨rfl, .str al, rfl, .ref a, rfl, .str al, rfl, _, _, rfl, lenV_str (Nat.le_trans h8 (by decide)), a, _, rfl, (by omega), (by omega), f2.src, fun A2 S2 C2 d2 hd2 hd3 => ?_⟩
      have f3 : Fra a H2 (upd H2 a (three A2 S2 C2)) := Fra.drawn A2 S2 C2
      obtain ⟨m, rfl⟩ := Int.eq_ofNat_of_zero_le hd2
      have hml : m < al.cps.toList.length := by have e : al.cps.toList.length = al.length := Array.length_toList; omega
      have hD3 : upd H2 a (three A2 S2 C2) D = some (.lst (cs.map fun c => V.str (one1 c))) := by rw [upd_ne hna]; exact hDc
      refine rIx_str (Nat.le_trans h8 (by decide)) (List.getElem?_eq_getElem hml) ⟨_, hD3, ?_, cs ++ [al.cps.toList[m]], ?_, ?_, ?_, ?_⟩
      · rw [List.length_map, hl]
        exact Nat.lt_of_lt_of_le (by have : i < n := hi; omega : i < 201) (by decide)
      · rw [upd_same, List.map_append]
        rfl
      · rw [List.length_append, hl]
        rfl
      · intro c hcc
        rcases List.mem_append.mp hcc with h | h
        · exact hc c h
        · rw [List.mem_singleton.mp h]
          exact List.getElem_mem hml
      · exact (f2.trans f3).over hD hna
    · rintro H2 ⟨cs, hDc, hl, hc, f2⟩
      have hj : (((cs.map one1).map V.str)) = cs.map fun c => V.str (one1 c) := by rw [List.map_map]; rfl
      refine ⟨"", D, cs.map one1, rfl, rfl, .inl (SqL.of (by rw [hDc, hj])), ?_, q H2 cs (f1.trans f2) hc (by omega)⟩
      have e : ((cs.map one1).map (·.length)).sum = cs.length := by
        clear hDc hl hc f2 hj
        induction cs with
        | nil => rfl
        | cons c cs ih => simp only [List.map_cons, List.sum_cons, ih, List.length_cons]; show 1 + cs.length = cs.length + 1; omega
      rw [e]
      have e0 : ("" : Str).length = 0 := rfl
      rw [e0]
      omega
end
theorem none_upd {H : Hp} {p a : Addr} {o : HO} (h : upd H p o a = none) : H a = none := by
  by_cases e : a = p
  · subst e; rw [upd_same] at h; cases h
  · rwa [upd_ne e] at h
theorem cut_int {ns : List Int} {lo hi : Option Int} {v : V} (h : v ∈ cutV (ns.map V.int) lo hi) : ∃ j, v = .int j := by
  unfold cutV at h
  have h1 := List.mem_of_mem_drop (List.mem_of_mem_take h)
  obtain ⟨j, _, rfl⟩ := List.mem_map.mp h1
  exact ⟨j, rfl⟩
theorem log2_mono {a n : Nat} (h : a ≤ n) : a.log2 ≤ n.log2 := by
  by_cases ha : a = 0
  · subst ha; simp
  · exact Nat.le_of_lt_succ ((Nat.log2_lt ha).mpr (Nat.lt_of_le_of_lt h Nat.lt_log2_self))
theorem bits_mono {a n : Int} (h0 : 0 ≤ a) (h : a ≤ n) : Builtin.Int.intBits a ≤ Builtin.Int.intBits n := by
  unfold Builtin.Int.intBits
  have h1 := log2_mono (a := a.natAbs) (n := n.natAbs) (by omega)
  by_cases ha : a = 0
  · subst ha; simp
  · have hn : n ≠ 0 := by omega
    rw [if_neg (by simpa using ha), if_neg (by simpa using hn)]
    omega
theorem bits_quot {n : Int} (h0 : 0 ≤ n) (h : Builtin.Int.intBits n ≤ 1048576) : (Builtin.Int.intBits (n / 2 ^ (3000 : Int).toNat) : Int) + 3000 ≤ 2 ^ 27 := by
  have h1 : 0 ≤ n / 2 ^ (3000 : Int).toNat := Int.ediv_nonneg h0 (Int.le_of_lt (Int.pow_pos (by decide)))
  have h2 : n / 2 ^ (3000 : Int).toNat ≤ n := Int.ediv_le_self _ h0
  have h3 := bits_mono h1 h2
  have h4 : (Builtin.Int.intBits (n / 2 ^ (3000 : Int).toNat) : Int) ≤ 1048576 := by omega
  have h5 : (1048576 : Int) + 3000 ≤ 2 ^ 27 := by decide
  omega
theorem bits_small {n : Int} (h0 : 0 ≤ n) (h : n ≤ 100000) : Builtin.Int.intBits n ≤ 1048576 := by
  have := bits_mono h0 h
  have e : Builtin.Int.intBits 100000 ≤ 1048576 := by decide +kernel
  omega
section
variable {P : Program} {w : World} {K : PySem.W.Frag} {mg : Str → Option Value} {base : Heap}
def sp_law_source (K : PySem.W.Frag) : Sp := fun vs H Q _ => ∃ (b : Addr) (ns : List Int) (k : Nat), vs = [.ref b, .int (k : Nat)] ∧ SqL K H b (ns.map V.int) ∧ ns.length ≤ 1000 ∧ (∀ n ∈ ns, Builtin.Int.intBits n ≤ 1048576) ∧ k ≤ 1000 ∧
  ∀ H' a, Same H H' → SrcAt H' a → H a = none → Q (.ref a) H'
theorem ok_law_source (T : Txt K mg) : Cal P w K mg base CX0 1 "_law_source" ["_law_script", "_law_place_here"] (sp_law_source K) := by
  obtain ⟨fd, F⟩ := F__law_source T
  refine cal_mk F (g__law_source T) sc__law_source (fun _ _ _ _ _ _ us hl => match us, hl with | [_, _], _ => rfl) (fun vs H Q E h => ?_) (fun cdv A outer s H vs Q E hr h => ?_)
  · obtain ⟨b, ns, k, rfl, _⟩ := h; rfl
  · refine ⟨_, PSs.nox (pss_cons (ps_set (i := 2) sc__law_source.nd rfl (Or.inl rfl) (pe_ifExp (pt_cmpR op_lt (pv 1) (pe_callB call_len (by rfl) (fr_len T) boot_len (pa_cons (pv 0) pa_nil)) (nomark _)) (pe_ix ix_list (pv 0) (pv 1) (fun _ _ => rfl)) (pe_op op_add (pe_op op_mul pe_int (pv 1)) pe_int)))
      (pss_cons (ps_set (i := 3) sc__law_source.nd rfl (Or.inl rfl) (pe_op op_add (pe_op op_mul pe_int (pv 1)) pe_int))
      (pss_cons (ps_for PassesOwn.never rfl (pi_list (pe_slice sl_list (pv 0) po_none (po_some pe_int))) (pg_name (i := 4) sc__law_source.nd rfl (Or.inl rfl))
        (pss_one (ps_set (i := 3) sc__law_source.nd rfl (Or.inl rfl) (pe_op op_mod (pe_callTy call_int1 (by rfl) (fr_int T) b_int (pa_cons (pe_op op_add (pe_op op_mul (pv 3) pe_int) (pe_op op_mod (pe_callTy call_int1 (by rfl) (fr_int T) b_int (pa_cons (pv 4) pa_nil)) pe_int)) pa_nil)) pe_int))))
      (pss_cons (ps_set (i := 3) sc__law_source.nd rfl (Or.inl rfl) (pe_op op_mod (pe_callTy call_int1 (by rfl) (fr_int T) b_int (pa_cons (pe_op op_add (pe_op op_mul (pv 3) pe_int) (pe_op op_mod (pe_callTy call_int1 (by rfl) (fr_int T) b_int (pa_cons (pv 2) pa_nil)) pe_int)) pa_nil)) pe_int))
      (pss_cons (ps_set (i := 5) sc__law_source.nd rfl (Or.inl rfl) (pe_callB call_abs (by rfl) (fr_abs T) (by decide +kernel) (pa_cons (pv 2) pa_nil)))
      (pss_cons (ps_if (pt_cmpR op_lt (pv 5) (pe_op op_pow pe_int pe_int) (nomark _)) (pss_one (ps_ret (pe_lst (pa_cons pe_int (pa_cons (pv 3) (pa_cons pe_int pa_nil)))))) pss_nil)
      (pss_cons (ps_if (pt_cmpR op_gt (pe_op op_shr (pv 5) pe_int) pe_int (nomark _)) (pss_one (ps_set (i := 5) sc__law_source.nd rfl (Or.inl rfl) (pe_op op_sub (pv 5) (pe_op op_shlW (pe_op op_shr (pv 5) pe_int) pe_int)))) pss_nil)
      (pss_one (ps_ret (pe_lst (pa_cons (pv 5) (pa_cons (pv 3) (pa_cons pe_int pa_nil))))))))))))), ?_⟩
    obtain ⟨b, ns, k, rfl, hs, hn, hbits, hk, q⟩ := h
    have hlen : (ns.map V.int).length = ns.length := List.length_map ..
    by_cases hk2 : k < ns.length
    all_goals refine ⟨.int (k : Nat), rfl, .ref b, rfl, _, _, rfl, .inl ⟨_, hs, rfl⟩, _, _, rfl, rfl, _, rfl, ?_⟩
    · rw [decide_eq_true (by rw [hlen]; omega)]
      have hg : (ns.map V.int)[k]? = some (V.int ns[k]) := by rw [List.getElem?_map, List.getElem?_eq_getElem hk2]; rfl
      have hb9 := hbits _ (List.getElem_mem hk2)
      refine iteT ⟨.ref b, rfl, .int (k : Nat), rfl, b, _, _, V.int ns[k], rfl, rfl, hs, atI_nat hg, ?_⟩
      generalize ns[k] = c at hb9 ⊢
      refine ⟨.int (k : Nat), rfl, 1009, _, rfl, rfl, .inl (by omega), _, 17, rfl, rfl, ?_⟩
      refine ⟨.ref b, rfl, 3, rfl, b, _, rfl, hs, fun p hp => ?_⟩
      have sp1 := same_upd (o := .lst (cutV (ns.map V.int) none (some 3))) hp
      refine ⟨p, rfl, ⟨_, SqL.of upd_same⟩, ?_⟩
      refine for_it (walk_list (xs := cutV (ns.map V.int) none (some 3))) (fun i σ H2 => ∃ (seed : Int) (v4 v5 : Option V), σ = [some (.ref b), some (.int (k : Nat)), some (.int c), some (.int seed), v4, v5] ∧ H2 = upd H p (.lst (cutV (ns.map V.int) none (some 3))))
        ⟨_, none, none, rfl, rfl⟩ (fun i σ H2 _ ⟨_, _, _, _, e⟩ => SqL.of (by rw [e]; exact upd_same)) ?_ ?_
      · rintro i x σ H2 H3 hi ⟨seed, v4, v5, rfl, rfl⟩ ⟨eH, hx⟩
        subst eH
        obtain ⟨j, rfl⟩ := cut_int (List.mem_of_getElem? hx)
        exact ⟨_, rfl, _, 31, rfl, rfl, .inr (by omega), .int j, rfl, .inl ⟨j, rfl, _, 2147483629, rfl, rfl, by omega, _, _, rfl, rfl, .inl ⟨_, rfl, _, 2147483629, rfl, rfl, by omega, _, _, _, rfl, rfl⟩⟩⟩
      · rintro σ H2 ⟨seed, v4, v5, rfl, rfl⟩
        refine ⟨_, rfl, _, 31, rfl, rfl, .inr (by omega), .int c, rfl, .inl ⟨c, rfl, _, 2147483587, rfl, rfl, by omega, _, _, rfl, rfl, .inl ⟨_, rfl, _, 2147483629, rfl, rfl, by omega, ?_⟩⟩⟩
        refine ⟨.int c, rfl, c, rfl, ?_⟩
        have hb0 : Builtin.Int.intBits (if c < 0 then -c else c) ≤ 1048576 ∧ 0 ≤ (if c < 0 then -c else c) := by
          constructor
          · unfold Builtin.Int.intBits at hb9 ⊢
            split
            · simpa using hb9
            · exact hb9
          · split <;> omega
        generalize (if c < 0 then -c else c) = num at hb0
        obtain ⟨hb1, hn0⟩ := hb0
        refine ⟨.int num, rfl, 10, 18, rfl, rfl, ⟨by omega, by omega, by decide⟩, _, _, rfl, rfl, _, rfl, ?_⟩
        cases hlt : decide (num < 10 ^ (18 : Int).toNat) with
        | true => exact iteT ⟨_, rfl, (by show 3 ≤ sizeLine; decide), fun a ha => q _ a (sp1.trans (same_upd ha)) ⟨0, _, 0, upd_same⟩ (none_upd ha)⟩
        | false =>
          refine iteF ⟨.int num, rfl, num, 3000, rfl, rfl, by omega, _, 0, rfl, rfl, _, rfl, ?_⟩
          cases hgt : decide (0 < num / 2 ^ (3000 : Int).toNat) with
          | false => exact iteF ⟨.int num, rfl, _, rfl, (by show 3 ≤ sizeLine; decide), fun a ha => q _ a (sp1.trans (same_upd ha)) ⟨num, _, 0, upd_same⟩ (none_upd ha)⟩
          | true =>
            refine iteT ⟨.int num, rfl, .int num, rfl, num, 3000, rfl, rfl, by omega, _, 3000, rfl, rfl, ⟨by omega, bits_quot hn0 hb1⟩, num, _, rfl, rfl, ?_⟩
            exact ⟨_, rfl, _, rfl, (by show 3 ≤ sizeLine; decide), fun a ha => q _ a (sp1.trans (same_upd ha)) ⟨_, _, 0, upd_same⟩ (none_upd ha)⟩
    · rw [decide_eq_false (by rw [hlen]; omega)]
      refine iteF ⟨.int (k : Nat), rfl, 5, _, rfl, rfl, .inl (by omega), _, 3, rfl, rfl, ?_⟩
      have hb9 : Builtin.Int.intBits (5 * ((k : Nat) : Int) + 3) ≤ 1048576 := bits_small (by omega) (by omega)
      refine ⟨.int (k : Nat), rfl, 1009, _, rfl, rfl, .inl (by omega), _, 17, rfl, rfl, ?_⟩
      refine ⟨.ref b, rfl, 3, rfl, b, _, rfl, hs, fun p hp => ?_⟩
      have sp1 := same_upd (o := .lst (cutV (ns.map V.int) none (some 3))) hp
      refine ⟨p, rfl, ⟨_, SqL.of upd_same⟩, ?_⟩
      refine for_it (walk_list (xs := cutV (ns.map V.int) none (some 3))) (fun i σ H2 => ∃ (seed : Int) (v4 v5 : Option V), σ = [some (.ref b), some (.int (k : Nat)), some (.int (5 * ((k : Nat) : Int) + 3)), some (.int seed), v4, v5] ∧ H2 = upd H p (.lst (cutV (ns.map V.int) none (some 3))))
        ⟨_, none, none, rfl, rfl⟩ (fun i σ H2 _ ⟨_, _, _, _, e⟩ => SqL.of (by rw [e]; exact upd_same)) ?_ ?_
      · rintro i x σ H2 H3 hi ⟨seed, v4, v5, rfl, rfl⟩ ⟨eH, hx⟩
        subst eH
        obtain ⟨j, rfl⟩ := cut_int (List.mem_of_getElem? hx)
        exact ⟨_, rfl, _, 31, rfl, rfl, .inr (by omega), .int j, rfl, .inl ⟨j, rfl, _, 2147483629, rfl, rfl, by omega, _, _, rfl, rfl, .inl ⟨_, rfl, _, 2147483629, rfl, rfl, by omega, _, _, _, rfl, rfl⟩⟩⟩
      · rintro σ H2 ⟨seed, v4, v5, rfl, rfl⟩
        refine ⟨_, rfl, _, 31, rfl, rfl, .inr (by omega), .int (5 * ((k : Nat) : Int) + 3), rfl, .inl ⟨(5 * ((k : Nat) : Int) + 3), rfl, _, 2147483587, rfl, rfl, by omega, _, _, rfl, rfl, .inl ⟨_, rfl, _, 2147483629, rfl, rfl, by omega, ?_⟩⟩⟩
        refine ⟨.int (5 * ((k : Nat) : Int) + 3), rfl, (5 * ((k : Nat) : Int) + 3), rfl, ?_⟩
        have hb0 : Builtin.Int.intBits (if (5 * ((k : Nat) : Int) + 3) < 0 then -(5 * ((k : Nat) : Int) + 3) else (5 * ((k : Nat) : Int) + 3)) ≤ 1048576 ∧ 0 ≤ (if (5 * ((k : Nat) : Int) + 3) < 0 then -(5 * ((k : Nat) : Int) + 3) else (5 * ((k : Nat) : Int) + 3)) := by
          constructor
          · unfold Builtin.Int.intBits at hb9 ⊢
            split
            · simpa using hb9
            · exact hb9
          · split <;> omega
        generalize (if (5 * ((k : Nat) : Int) + 3) < 0 then -(5 * ((k : Nat) : Int) + 3) else (5 * ((k : Nat) : Int) + 3)) = num at hb0
        obtain ⟨hb1, hn0⟩ := hb0
        refine ⟨.int num, rfl, 10, 18, rfl, rfl, ⟨by omega, by omega, by decide⟩, _, _, rfl, rfl, _, rfl, ?_⟩
        cases hlt : decide (num < 10 ^ (18 : Int).toNat) with
        | true => exact iteT ⟨_, rfl, (by show 3 ≤ sizeLine; decide), fun a ha => q _ a (sp1.trans (same_upd ha)) ⟨0, _, 0, upd_same⟩ (none_upd ha)⟩
        | false =>
          refine iteF ⟨.int num, rfl, num, 3000, rfl, rfl, by omega, _, 0, rfl, rfl, _, rfl, ?_⟩
          cases hgt : decide (0 < num / 2 ^ (3000 : Int).toNat) with
          | false => exact iteF ⟨.int num, rfl, _, rfl, (by show 3 ≤ sizeLine; decide), fun a ha => q _ a (sp1.trans (same_upd ha)) ⟨num, _, 0, upd_same⟩ (none_upd ha)⟩
          | true =>
            refine iteT ⟨.int num, rfl, .int num, rfl, num, 3000, rfl, rfl, by omega, _, 3000, rfl, rfl, ⟨by omega, bits_quot hn0 hb1⟩, num, _, rfl, rfl, ?_⟩
            exact ⟨_, rfl, _, rfl, (by show 3 ≤ sizeLine; decide), fun a ha => q _ a (sp1.trans (same_upd ha)) ⟨_, _, 0, upd_same⟩ (none_upd ha)⟩
end
end Kx
set_option Elab.async false
set_option linter.all false
set_option maxRecDepth 100000
set_option maxHeartbeats 4000000
namespace Kx
open PySem PySem.Spec PyProof.Rows L2
def over (al : Str) (n : Nat) (z : Str) : Prop := z.length ≤ n ∧ ∀ c ∈ z.cps.toList, c ∈ al.cps.toList
theorem over_up {al : Str} {n : Nat} {z : Str} (h : over al n z) : over al (n + 1) z := ⟨Nat.le_succ_of_le h.1, h.2⟩
theorem over_mono {al : Str} {n m : Nat} {z : Str} (h : over al n z) (k : n ≤ m) : over al m z := ⟨Nat.le_trans h.1 k, h.2⟩
theorem cps_app (a b : Str) : (a ++ b).cps.toList = a.cps.toList ++ b.cps.toList := by
  show (a.cps ++ b.cps).toList = _
  exact Array.toList_append
theorem len_app (a b : Str) : (a ++ b).length = a.length + b.length := by
  have h := congrArg List.length (cps_app a b)
  rw [List.length_append, Array.length_toList, Array.length_toList, Array.length_toList] at h
  exact h
theorem over_snoc {al : Str} {n : Nat} {z : Str} {c : Nat} (h : over al n z) (hc : c ∈ al.cps.toList) : over al (n + 1) (z ++ ⟨#[c]⟩) := by
  refine ⟨?_, fun d hd => ?_⟩
  · rw [len_app]
    exact Nat.succ_le_succ h.1
  · rw [cps_app] at hd
    rcases List.mem_append.mp hd with hd | hd
    · exact h.2 d hd
    · rw [List.mem_singleton.mp (show d ∈ [c] from hd)]
      exact hc
section
variable {P : Program} {w : World} {K : PySem.W.Frag} {mg : Str → Option Value} {base : Heap}
def menuA : List Str := ["ab", "ab", "ab", "ab", "bd", "ac", "abc", "abc", "aeh", "a", "abcd", "bcfg"]
def sp_law_alphabet : Sp := fun vs H Q _ => ∃ a : Addr, vs = [.ref a] ∧ SrcAt H a ∧ ∀ H' z, z ∈ menuA → Fra a H H' → Q (.str z) H'
theorem ok_law_alphabet (T : Txt K mg) : Cal P w K mg base CX0 2 "_law_alphabet" ["_law_source_here"] sp_law_alphabet := by
  obtain ⟨fd, F⟩ := F__law_alphabet T
  refine cal_mk F (g__law_alphabet T) sc__law_alphabet (fun _ _ _ _ _ _ us hl => match us, hl with | [_], _ => rfl) (fun vs H Q E h => ?_) (fun cdv A outer s H vs Q E hr h => ?_)
  · obtain ⟨a, rfl, _⟩ := h; rfl
  · refine ⟨_, PSs.nox (pss_cons (ps_set (i := 1) sc__law_alphabet.nd rfl (Or.inl rfl) (pe_lst (pa_cons pe_str (pa_cons pe_str (pa_cons pe_str (pa_cons pe_str (pa_cons pe_str (pa_cons pe_str (pa_cons pe_str (pa_cons pe_str (pa_cons pe_str (pa_cons pe_str (pa_cons pe_str (pa_cons pe_str pa_nil))))))))))))))
      (pss_one (ps_ret (pe_ix ix_list (pv 1) (pe_cal (ok_law_pick T) hr pass0 (pa_cons (pv 0) (pa_cons (pe_callB call_len (by rfl) (fr_len T) boot_len (pa_cons (pv 1) pa_nil)) pa_nil))) (fun _ _ => rfl))))), ?_⟩
    obtain ⟨a, rfl, hs, q⟩ := h
    refine ⟨(by show 12 ≤ sizeLine; decide), fun L hL => ?_⟩
    have sL := same_upd (o := .lst (menuA.map V.str)) hL
    have hLL : upd H L (.lst (menuA.map V.str)) L = some (.lst (menuA.map V.str)) := upd_same
    have hs1 := hs.same sL
    have hna : L ≠ a := fun z => by
      obtain ⟨A, S, C, e⟩ := hs
      rw [← z, hL] at e
      cases e
    have f1 := Fra.same hs sL
    refine ⟨.ref L, rfl, .ref a, rfl, .ref L, rfl, _, 12, rfl, .inl ⟨_, SqL.of hLL, rfl⟩, a, 12, rfl, (by decide), (by decide), hs1, fun A1 S1 C1 d h2 h3 => ?_⟩
    have f2 : Fra a (upd H L (.lst (menuA.map V.str))) (upd (upd H L (.lst (menuA.map V.str))) a (three A1 S1 C1)) := Fra.drawn A1 S1 C1
    have hL2 : upd (upd H L (.lst (menuA.map V.str))) a (three A1 S1 C1) L = some (.lst (menuA.map V.str)) := f2.up L _ (by rw [del_ne hna]; exact hLL)
    obtain ⟨n, rfl⟩ := Int.eq_ofNat_of_zero_le h2
    have hn : n < menuA.length := by have : ((n : Nat) : Int) < 12 := h3; show n < 12; omega
    show ∃ p xs i v, _
    refine ⟨L, _, _, .str menuA[n], rfl, rfl, SqL.of hL2, atI_nat (by rw [List.getElem?_map, List.getElem?_eq_getElem hn]; rfl), q _ _ (List.getElem_mem hn) (f1.trans f2)⟩
end
end Kx
set_option Elab.async false
set_option linter.all false
set_option maxRecDepth 100000
set_option maxHeartbeats 4000000
namespace Kx
open PySem PySem.Spec PyProof.Rows L2
def rowD (r : List Nat) : PyData := .list (r.map fun k => .int (k : Nat))
def rowsD (rows : List (List Nat)) : PyData := .list (rows.map rowD)
structure RowsOk (many most : Nat) (rows : List (List Nat)) : Prop where
  ne : 1 ≤ rows.length
  le : rows.length ≤ most
  ok : ∀ r ∈ rows, r.length = many ∧ ∀ k ∈ r, k < rows.length
theorem SrcAt.ne {a b : Addr} {H : Hp} (h : SrcAt H a) (hb : H b = none) : b ≠ a := fun z => by
  obtain ⟨A, S, C, e⟩ := h
  rw [← z, hb] at e
  cases e
theorem Fra.none {a b : Addr} {H H' : Hp} (f : Fra a H H') (hn : b ≠ a) (hb : H' b = none) : H b = none := by
  cases e : H b with
  | none => rfl
  | some o =>
    have := f.sm b o (by rw [del_ne hn]; exact e)
    rw [del_ne hn, hb] at this
    cases this
theorem del_upd {H : Hp} {a : Addr} {o : HO} : del (upd H a o) a = del H a := by
  funext b
  by_cases hb : b = a
  · subst hb; rw [del_same, del_same]
  · rw [del_ne hb, del_ne hb, upd_ne hb]
theorem dd_same {H : Hp} {a D : Addr} {o : HO} : del (del (upd H D o) a) D = del (del H a) D := by
  funext b
  by_cases hb : b = D
  · subst hb; rw [del_same, del_same]
  · rw [del_ne hb, del_ne hb]
    by_cases ha : b = a
    · subst ha; rw [del_same, del_same]
    · rw [del_ne ha, del_ne ha, upd_ne hb]
theorem same_dd {G H : Hp} {a D D2 : Addr} {o : HO} (s : Same G (del (del H a) D)) (g : G D2 = none) : Same G (del (del (upd H D2 o) a) D) := fun b u e => by
  have h := s b u e
  have h2 := ne_of_none e g
  by_cases hb : b = D
  · subst hb; rw [del_same] at h; cases h
  · rw [del_ne hb] at h ⊢
    by_cases ha : b = a
    · subst ha; rw [del_same] at h; cases h
    · rw [del_ne ha] at h ⊢
      rw [upd_ne h2]
      exact h
theorem dd_upd {H : Hp} {a D D2 : Addr} {o : HO} (g : del (del H a) D D2 = none) : Same (del (del H a) D) (del (del (upd H D2 o) a) D) := same_dd (Same.refl _) g
theorem rpL_append {H : Hp} {v : V} {d : PyData} : ∀ {vs : List V} {ds : List PyData}, RpL H vs ds → Rp H v d → RpL H (vs ++ [v]) (ds ++ [d])
  | _, _, .nil, h => .cons h .nil
  | _, _, .cons a b, h => .cons a (rpL_append b h)
theorem rpL_nats {H : Hp} : ∀ r : List Nat, RpL H (r.map fun k => V.int (k : Nat)) (r.map fun k => PyData.int (k : Nat))
  | [] => .nil
  | k :: r => .cons (.int _) (rpL_nats r)
section
variable {P : Program} {w : World} {K : PySem.W.Frag} {mg : Str → Option Value} {base : Heap}
def lcSc : Stmt → Scope
  | .Return (some (.ListComp _ _ sc _)) _ => sc
  | _ => ⟨.function, [], false, false, []⟩
def sp_law_reader : Sp := fun vs H Q _ => ∃ (a : Addr) (many most : Nat), vs = [.ref a, .int (many : Nat), .int (most : Nat)] ∧ 1 ≤ many ∧ many ≤ 8 ∧ 1 ≤ most ∧ most ≤ 40 ∧ SrcAt H a ∧
  ∀ H' t (rows : List (List Nat)), Fra a H H' → Rp (del H' a) t (rowsD rows) → RowsOk many most rows → Q t H'
theorem ok_law_reader (T : Txt K mg) : Cal P w K mg base CX0 2 "_law_reader" ["_law_source_here", "_law_many", "_law_most"] sp_law_reader := by
  obtain ⟨fd, F⟩ := F__law_reader T
  refine cal_mk F (g__law_reader T) sc__law_reader (fun _ _ _ _ _ _ us hl => match us, hl with | [_, _, _], _ => rfl) (fun vs H Q E h => ?_) (fun cdv A outer s H vs Q E hr h => ?_)
  · obtain ⟨a, many, most, rfl, _⟩ := h; rfl
  · refine ⟨_, PSs.nox (pss_cons (ps_set (i := 3) sc__law_reader.nd rfl (Or.inr rfl) (pe_op op_add pe_int (pe_cal (ok_law_pick T) hr pass0 (pa_cons (pv 0) (pa_cons (pv 2) pa_nil)))))
      (pss_one (ps_ret (pe_lc (own := [("_law_p", 5)]) (g := gName 5) (tt := tYes) rfl sc__law_reader.nd (pi_range1 (by rfl) (fr_range T) (pa_cons (pv 3) pa_nil)) (blkOk_by (N := N__law_reader) (sc := defScope s__law_reader) (by decide +kernel))
        (fun _ _ _ _ _ => pg_name (i := 5) sc__law_reader.nd rfl (Or.inl rfl)) (fun _ _ _ _ _ => pts_nil)
        (fun _ _ _ _ _ => by
          refine pe_lc (te := tCall sp_law_pick [] E0 (tCons (tVar 0) (tCons (tVar 3) tNil))) (wi := iRng1 (tCons (tVar 1) tNil)) (own := [("_law_t", 4)]) (g := gName 4) (tt := tYes) rfl sc__law_reader.nd (pi_range1 (by rfl) (fr_range T) (pa_cons (pv 1) pa_nil)) ?_
            (fun _ _ _ _ _ => pg_name (i := 4) sc__law_reader.nd rfl (Or.inl rfl)) (fun _ _ _ _ _ => pts_nil) (fun _ _ _ _ _ => ?_)
          · refine blkOk_by ?_
            simp only [cxOf, Cx.nox, Cx.blk, compEnvC]
            change blkC _ (relabel _ (envOfC "_law_reader" (defScope s__law_reader) 0 0 Value.none)) _ _ = true
            decide +kernel
          exact pe_cal (ok_law_pick T) hr pass0 (pa_cons (pv 0) (pa_cons (pv 3) pa_nil))))))), ?_⟩
    obtain ⟨a, many, most, rfl, h1, h8, hm1, hm4, hs, q⟩ := h
    refine ⟨.ref a, rfl, .int (most : Nat), rfl, a, _, rfl, (by omega), (by omega), hs, fun A1 S1 C1 d hd0 hd1 => ⟨1, _, rfl, rfl, ?_⟩⟩
    have f1 : Fra a H (upd H a (three A1 S1 C1)) := Fra.drawn A1 S1 C1
    generalize upd H a (three A1 S1 C1) = H1 at f1 ⊢
    obtain ⟨n, rfl⟩ := Int.eq_ofNat_of_zero_le hd0
    refine ⟨_, rfl, 1 + ((n : Nat) : Int), rfl, (by omega), (by omega), fun D hD => ?_⟩
    have en : ((1 : Int) + ((n : Nat) : Int)).toNat = n + 1 := by omega
    rw [en]
    have hna : D ≠ a := f1.src.ne hD
    refine lc_it (walk_range (n := n + 1)) (tt := tYes) (fun i H2 => ∃ (rows : List (List Nat)) (vs : List V), rows.length = i ∧ (∀ r ∈ rows, r.length = many ∧ ∀ k ∈ r, k < n + 1) ∧ H2 D = some (.lst vs) ∧ RpL (del (del H2 a) D) vs (rows.map rowD) ∧ Fra a H1 H2)
      ⟨[], [], rfl, fun r hr => (by cases hr), upd_same, .nil, Fra.same f1.src (same_upd hD)⟩ (fun _ _ _ _ => trivial) ?_ ?_
    · rintro i x H2 H3 hi ⟨rows, vs, hrl, hro, hDv, hrp, f2⟩ ⟨eH, ex0⟩
      replace eH := eH.symm
      subst eH
      refine ⟨rfl, .int (many : Nat), rfl, (many : Nat), rfl, (by omega), (by omega), fun D2 hD2 => ?_⟩
      have hDD : D2 ≠ D := fun z => by rw [z, hDv] at hD2; cases hD2
      have h2a : D2 ≠ a := f2.src.ne hD2
      have h1D2 : H1 D2 = none := f2.none h2a hD2
      have gD2 : del (del H2 a) D D2 = none := by rw [del_ne hDD, del_ne h2a]; exact hD2
      have em : (((many : Nat) : Int)).toNat = many := by omega
      rw [em]
      refine lc_it (walk_range (n := many)) (tt := tYes) (fun j H5 => ∃ r : List Nat, r.length = j ∧ (∀ k ∈ r, k < n + 1) ∧ H5 D2 = some (.lst (r.map fun k => V.int (k : Nat))) ∧ H5 D = some (.lst vs) ∧ Same (del (del H2 a) D) (del (del H5 a) D) ∧ Fra a H1 H5)
        ⟨[], rfl, fun k hk => (by cases hk), upd_same, by rw [upd_ne (Ne.symm hDD)]; exact hDv, dd_upd gD2, f2.over h1D2 h2a⟩ (fun _ _ _ _ => trivial) ?_ ?_
      · rintro j y H5 H6 hj ⟨r, hrj, hrk, hr2, hrD, sg, f5⟩ ⟨eH, ey0⟩
        replace eH := eH.symm
        subst eH
        refine ⟨rfl, .ref a, rfl, _, rfl, a, _, rfl, (by omega), (by omega), f5.src, fun A2 S2 C2 d2 hd2 hd3 => ?_⟩
        obtain ⟨m, rfl⟩ := Int.eq_ofNat_of_zero_le hd2
        have f6 : Fra a H5 (upd H5 a (three A2 S2 C2)) := Fra.drawn A2 S2 C2
        have e6 : del (upd H5 a (three A2 S2 C2)) a = del H5 a := del_upd
        refine ⟨r.map fun k => V.int (k : Nat), by rw [upd_ne h2a]; exact hr2, ?_, r ++ [m], ?_, ?_, ?_, ?_, ?_, ?_⟩
        · rw [List.length_map, hrj]
          exact Nat.lt_of_lt_of_le (by have : j < many := hj; omega : j < 201) (by decide)
        · rw [List.length_append, hrj]; rfl
        · intro k hk
          rcases List.mem_append.mp hk with h | h
          · exact hrk k h
          · rw [List.mem_singleton.mp h]; omega
        · rw [upd_same, List.map_append]; rfl
        · rw [upd_ne (Ne.symm hDD), upd_ne hna]; exact hrD
        · have s6 : Same (del (del H2 a) D) (del (del (upd H5 a (three A2 S2 C2)) a) D) := by rw [e6]; exact sg
          exact same_dd s6 gD2
        · exact (f5.trans f6).over h1D2 h2a
      · rintro H5 ⟨r, hrj, hrk, hr2, hrD, sg, f5⟩
        refine ⟨vs, hrD, ?_, rows ++ [r], vs ++ [.ref D2], by rw [List.length_append, hrl]; rfl, ?_, upd_same, ?_, f5.over hD hna⟩
        · have := hrp.length
          rw [List.length_map] at this
          rw [this, hrl]
          exact Nat.lt_of_lt_of_le (by have : i < n + 1 := hi; omega : i < 201) (by decide)
        · intro z hz
          rcases List.mem_append.mp hz with h | h
          · exact hro z h
          · rw [List.mem_singleton.mp h]; exact ⟨hrj, hrk⟩
        · rw [dd_same, List.map_append]
          refine rpL_append (hrp.same sg) (.lst (by rw [del_ne hDD, del_ne h2a]; exact hr2) ?_)
          exact rpL_nats r
    · rintro H2 ⟨rows, vs, hrl, hro, hDv, hrp, f2⟩
      refine q H2 (.ref D) rows (f1.trans f2) (.lst (by rw [del_ne hna]; exact hDv) (hrp.same (del_le D))) ⟨by omega, by omega, fun r hr => ⟨(hro r hr).1, fun k hk => by rw [hrl]; exact (hro r hr).2 k hk⟩⟩
end
end Kx
set_option Elab.async false
set_option linter.all false
set_option maxRecDepth 100000
set_option maxHeartbeats 4000000
namespace Kx
open PySem PySem.Spec PyProof.Rows L2
/-- the triples in the order of three loops -/
def fullQ (p c nr : Nat) : List Tri := (List.range nr).map fun q => (p, c, q)
def fullC (p nr : Nat) (cs : List Nat) : List Tri := cs.flatMap fun c => fullQ p c nr
def fullP (n nr : Nat) (cs : List Nat) : List Tri := (List.range n).flatMap fun p => fullC p nr cs
theorem fullQ_succ (p c n : Nat) : fullQ p c (n + 1) = fullQ p c n ++ [(p, c, n)] := by
  unfold fullQ
  rw [List.range_succ, List.map_append]
  rfl
theorem fullP_succ (n nr : Nat) (cs : List Nat) : fullP (n + 1) nr cs = fullP n nr cs ++ fullC n nr cs := by
  unfold fullP
  rw [List.range_succ, List.flatMap_append]
  simp
theorem fullC_snoc (p nr : Nat) (cs : List Nat) (c : Nat) : fullC p nr (cs ++ [c]) = fullC p nr cs ++ fullQ p c nr := by
  unfold fullC
  rw [List.flatMap_append]
  simp
/-- a list or a tuple of n things -/
def SeqN (H : Hp) (v : V) (n : Nat) : Prop := ∃ a xs, v = .ref a ∧ (H a = some (.lst xs) ∨ H a = some (.tup xs)) ∧ xs.length = n
theorem SeqN.same {H H' : Hp} {v : V} {n : Nat} (s : Same H H') (h : SeqN H v n) : SeqN H' v n := by
  obtain ⟨a, xs, e, h, l⟩ := h
  exact ⟨a, xs, e, sq_same s h, l⟩
theorem SeqN.lenV {K : PySem.W.Frag} {H : Hp} {v : V} {n : Nat} (h : SeqN H v n) : LenV K v H n := by
  obtain ⟨a, xs, rfl, h, l⟩ := h
  exact lenV_sq h l
theorem seqN_of {H : Hp} {v : V} {d : PyData} {ds : List PyData} (h : Rp H v d) (e : itemsD d = some ds) : SeqN H v (lenD d) := by
  obtain ⟨a, xs, rfl, hx, hs⟩ := rp_seq h e
  refine ⟨a, xs, rfl, hs, ?_⟩
  unfold lenD
  rw [e]
  exact hx.length
section
variable {P : Program} {w : World} {K : PySem.W.Frag} {mg : Str → Option Value} {base : Heap}
def sp_law_marked : Sp := fun vs H Q _ => ∃ (a : Addr) (al : Str) (vl vr : V) (nl nr : Nat), vs = [.ref a, .str al, vl, vr] ∧ SrcAt H a ∧ SeqN (del H a) vl nl ∧ SeqN (del H a) vr nr ∧ al.length ≤ 8 ∧ nl ≤ 40 ∧ nr ≤ 40 ∧
  ∀ H' t (trs : List Tri), Fra a H H' → Rp (del H' a) t (.list (trs.map encTri)) → trs.Sublist (fullP nl nr al.cps.toList) → trs.length ≤ 12800 → Q t H'
theorem ok_law_marked (T : Txt K mg) : Cal P w K mg base CX0 2 "_law_marked" ["_law_source_here", "_law_alphabet_here", "_law_left", "_law_right"] sp_law_marked := by
  obtain ⟨fd, F⟩ := F__law_marked T
  refine cal_mk F (g__law_marked T) sc__law_marked (fun _ _ _ _ _ _ us hl => match us, hl with | [_, _, _, _], _ => rfl) (fun vs H Q E h => ?_) (fun cdv A outer s H vs Q E hr h => ?_)
  · obtain ⟨a, al, vl, vr, nl, nr, rfl, _⟩ := h; rfl
  · refine ⟨_, PSs.nox (pss_cons (ps_set (i := 4) sc__law_marked.nd rfl (Or.inl rfl) (pe_lst pa_nil))
      (pss_cons (ps_for PassesOwn.never rfl (pi_range1 (by rfl) (fr_range T) (pa_cons (pe_callB call_len (by rfl) (fr_len T) boot_len (pa_cons (pv 2) pa_nil)) pa_nil)) (pg_name (i := 5) sc__law_marked.nd rfl (Or.inl rfl))
        (pss_one (ps_for PassesOwn.never rfl (pi_str (pv 1)) (pg_name (i := 6) sc__law_marked.nd rfl (Or.inl rfl))
          (pss_one (ps_for PassesOwn.never rfl (pi_range1 (by rfl) (fr_range T) (pa_cons (pe_callB call_len (by rfl) (fr_len T) boot_len (pa_cons (pv 3) pa_nil)) pa_nil)) (pg_name (i := 7) sc__law_marked.nd rfl (Or.inl rfl))
            (pss_one (ps_if (pt_cmpR op_eq (pe_cal (ok_law_pick T) hr pass0 (pa_cons (pv 0) (pa_cons pe_int pa_nil))) pe_int (nomark _))
              (pss_one (ps_expr (pe_bm PySem.F.plainAttrs_list PySem.F.slot_list_append PySem.F.type_list_append mt_append (pv 4) (pa_cons (pe_tup (pa_cons (pv 5) (pa_cons (pv 6) (pa_cons (pv 7) pa_nil)))) pa_nil)))) pss_nil)))))))
      (pss_one (ps_ret (pv 4))))), ?_⟩
    obtain ⟨a, al, vl, vr, nl, nr, rfl, hs, sl, sr, h8, hl40, hr40, q⟩ := h
    refine ⟨(by show 0 ≤ sizeLine; decide), fun N hN => ?_⟩
    have hNa : N ≠ a := hs.ne hN
    have hz : al.cps.toList.length = al.length := Array.length_toList
    -- what holds all along
    have lenL : ∀ H2, Fra a H H2 → LenV K vl H2 nl := fun H2 f => (sl.same f.up).lenV
    have lenR : ∀ H2, Fra a H H2 → LenV K vr H2 nr := fun H2 f => (sr.same f.up).lenV
    have f0 : Fra a H (upd H N (.lst [])) := (Fra.refl hs).over hN hNa
    refine ⟨vl, rfl, _, _, rfl, lenL _ f0, (nl : Nat), rfl, by omega, by omega, ?_⟩
    refine for_it walk_range (fun i σ H2 => ∃ (v5 v6 v7 : Option V) (trs : List Tri) (vs : List V), σ = [some (.ref a), some (.str al), some vl, some vr, some (.ref N), v5, v6, v7] ∧ H2 N = some (.lst vs) ∧ RpL (del (del H2 a) N) vs (trs.map encTri) ∧ trs.Sublist (fullP i nr al.cps.toList) ∧ trs.length ≤ i * 320 ∧ Fra a H H2)
      ⟨none, none, none, [], [], rfl, upd_same, .nil, List.nil_sublist _, Nat.zero_le _, f0⟩ (fun _ _ _ _ _ => trivial) ?_ ?_
    · rintro i x σ H2 H3 hi ⟨v5, v6, v7, trs, vs, rfl, hNv, hrp, hsub, hlen, f2⟩ ⟨eH, ex0⟩
      replace eH := eH.symm
      subst eH
      replace ex0 : x = .int (i : Nat) := ex0.trans (congrArg V.int (Int.zero_add _))
      subst ex0
      have hi40 : i < 40 := by have : i < (((nl : Nat) : Int)).toNat := hi; omega
      refine ⟨.str al, rfl, al, rfl, ?_⟩
      refine for_it walk_str (fun j σ H2 => ∃ (v6 v7 : Option V) (trs : List Tri) (vs : List V), σ = [some (.ref a), some (.str al), some vl, some vr, some (.ref N), some (.int (i : Nat)), v6, v7] ∧ H2 N = some (.lst vs) ∧ RpL (del (del H2 a) N) vs (trs.map encTri) ∧
          trs.Sublist (fullP i nr al.cps.toList ++ fullC i nr (al.cps.toList.take j)) ∧ trs.length ≤ i * 320 + j * 40 ∧ Fra a H H2)
        ⟨v6, v7, trs, vs, rfl, hNv, hrp, by rw [List.take_zero]; unfold fullC; simpa using hsub, by omega, f2⟩ (fun _ _ _ _ _ => trivial) ?_ ?_
      · rintro j y σ H2 H3 hj ⟨v6, v7, trs, vs, rfl, hNv, hrp, hsub, hlen, f2⟩ ⟨eH, c, hc, rfl⟩
        replace eH := eH.symm
        subst eH
        have hc' : al.cps.toList[j]? = some c := by rw [Array.getElem?_toList]; exact hc
        have htk : al.cps.toList.take (j + 1) = al.cps.toList.take j ++ [c] := by rw [List.take_succ, hc']; rfl
        have hj8 : j < 8 := by have : j < al.cps.size := hj; have e : al.cps.size = al.length := rfl; omega
        refine ⟨vr, rfl, _, _, rfl, lenR _ f2, (nr : Nat), rfl, by omega, by omega, ?_⟩
        refine for_it walk_range (fun k σ H2 => ∃ (v7 : Option V) (trs : List Tri) (vs : List V), σ = [some (.ref a), some (.str al), some vl, some vr, some (.ref N), some (.int (i : Nat)), some (.str ⟨#[c]⟩), v7] ∧ H2 N = some (.lst vs) ∧ RpL (del (del H2 a) N) vs (trs.map encTri) ∧
            trs.Sublist (fullP i nr al.cps.toList ++ fullC i nr (al.cps.toList.take j) ++ fullQ i c k) ∧ trs.length ≤ i * 320 + j * 40 + k ∧ Fra a H H2)
          ⟨v7, trs, vs, rfl, hNv, hrp, by unfold fullQ; simpa using hsub, by omega, f2⟩ (fun _ _ _ _ _ => trivial) ?_ ?_
        · rintro k z σ H2 H3 hk ⟨v7, trs, vs, rfl, hNv, hrp, hsub, hlen, f2⟩ ⟨eH, ez0⟩
          replace eH := eH.symm
          subst eH
          replace ez0 : z = .int (k : Nat) := ez0.trans (congrArg V.int (Int.zero_add _))
          subst ez0
          have hk40 : k < 40 := by have : k < (((nr : Nat) : Int)).toNat := hk; omega
          refine ⟨.ref a, rfl, a, 2, rfl, (by omega), (by omega), f2.src, fun A2 S2 C2 d hd0 hd1 => ?_⟩
          have f3 : Fra a H (upd H2 a (three A2 S2 C2)) := f2.trans (Fra.drawn A2 S2 C2)
          have e3 : del (upd H2 a (three A2 S2 C2)) a = del H2 a := del_upd
          have hN3 : upd H2 a (three A2 S2 C2) N = some (.lst vs) := by rw [upd_ne hNa]; exact hNv
          have r3 : RpL (del (del (upd H2 a (three A2 S2 C2)) a) N) vs (trs.map encTri) := by rw [e3]; exact hrp
          generalize upd H2 a (three A2 S2 C2) = H4 at f3 e3 hN3 r3 ⊢
          refine ⟨rfl, _, rfl, ?_⟩
          cases hd : decide (V.int d = V.int 1) with
          | false => exact iteF ⟨_, trs, vs, rfl, hN3, r3, by rw [fullQ_succ, ← List.append_assoc]; exact hsub.trans (List.sublist_append_left _ _), by omega, f3⟩
          | true =>
            refine iteT ⟨.ref N, rfl, .inl ⟨rfl, _, SqL.of hN3⟩, .int (i : Nat), rfl, .str ⟨#[c]⟩, rfl, .int (k : Nat), rfl, (by show 3 ≤ sizeLine; decide), fun t ht => ?_⟩
            have hta : t ≠ a := f3.src.ne ht
            have htN : t ≠ N := fun z => by rw [z, hN3] at ht; cases ht
            have gt : del (del H4 a) N t = none := by rw [del_ne htN, del_ne hta]; exact ht
            have sT := dd_upd (o := .tup [.int (i : Nat), .str ⟨#[c]⟩, .int (k : Nat)]) gt
            have f4 := f3.over (o := .tup [.int (i : Nat), .str ⟨#[c]⟩, .int (k : Nat)]) (f3.none hta ht) hta
            have hvl : vs.length = trs.length := by have := r3.length; rwa [List.length_map] at this
            refine ⟨N, vs, _, rfl, rfl, by rw [upd_ne (Ne.symm htN)]; exact hN3, Nat.lt_of_lt_of_le (by omega : vs.length < 20000) (by decide), ?_⟩
            refine ⟨_, trs ++ [(i, c, k)], vs ++ [.ref t], rfl, upd_same, ?_, ?_, ?_, f4.over hN hNa⟩
            · rw [dd_same, List.map_append]
              refine rpL_append (r3.same sT) (.tup (by rw [del_ne htN, del_ne hta]; exact upd_same) (.cons (.int _) (.cons (.str _) (.cons (.int _) .nil))))
            · rw [fullQ_succ, ← List.append_assoc]
              exact hsub.append (List.Sublist.refl _)
            · rw [List.length_append]
              show trs.length + 1 ≤ _
              omega
        · rintro σ H2 ⟨v7, trs, vs, rfl, hNv, hrp, hsub, hlen, f2⟩
          have e9 : (((nr : Nat) : Int)).toNat = nr := by omega
          rw [e9] at hsub hlen
          exact ⟨_, _, trs, vs, rfl, hNv, hrp, by rw [htk, fullC_snoc, ← List.append_assoc]; exact hsub, by omega, f2⟩
      · rintro σ H2 ⟨v6, v7, trs, vs, rfl, hNv, hrp, hsub, hlen, f2⟩
        have e9 : al.cps.size = al.length := rfl
        rw [← Array.length_toList, List.take_length] at hsub
        rw [e9] at hlen
        exact ⟨_, _, _, trs, vs, rfl, hNv, hrp, by rw [fullP_succ]; exact hsub, by omega, f2⟩
    · rintro σ H2 ⟨v5, v6, v7, trs, vs, rfl, hNv, hrp, hsub, hlen, f2⟩
      have e9 : (((nl : Nat) : Int)).toNat = nl := by omega
      rw [e9] at hsub hlen
      refine ⟨.ref N, rfl, q H2 (.ref N) trs f2 (.lst (by rw [del_ne hNa]; exact hNv) (hrp.same (del_le N))) hsub (by omega)⟩
end
end Kx
set_option Elab.async false
set_option linter.all false
set_option maxRecDepth 100000
set_option maxHeartbeats 4000000
namespace Kx
open PySem PySem.Spec PyProof.Rows L2
section
variable {P : Program} {w : World} {K : PySem.W.Frag} {mg : Str → Option Value} {base : Heap}
/-- steady readers are not drawn here -/
theorem ok_law_steady_reader (T : Txt K mg) : Cal P w K mg base CX0 1 "_law_steady_reader" ["_law_source_here", "_law_many", "_law_most"] (fun _ _ _ _ => False) := by
  obtain ⟨fd, F⟩ := F__law_steady_reader T
  exact cal_mk F (g__law_steady_reader T) sc__law_steady_reader (fun _ _ _ _ _ _ us hl => match us, hl with | [_, _, _], _ => rfl) (fun vs H Q E h => h.elim) (fun cdv A outer s H vs Q E hr h => h.elim)
def tabsD (ls rs : List (List Nat)) (trs : List Tri) : PyData := .tuple [rowsD ls, rowsD rs, .list (trs.map encTri)]
structure TabsOk (al : Str) (most : Nat) (ls rs : List (List Nat)) (trs : List Tri) : Prop where
  l : RowsOk al.length most ls
  r : RowsOk al.length most rs
  sub : trs.Sublist (fullP ls.length rs.length al.cps.toList)
  le : trs.length ≤ 12800
def sp_law_tables : Sp := fun vs H Q _ => ∃ (a : Addr) (al : Str) (most : Nat), vs = [.ref a, .str al, .int (most : Nat), .bl false] ∧ SrcAt H a ∧ 1 ≤ al.length ∧ al.length ≤ 8 ∧ 1 ≤ most ∧ most ≤ 40 ∧
  ∀ H' t (ls rs : List (List Nat)) (trs : List Tri), Fra a H H' → Rp (del H' a) t (tabsD ls rs trs) → TabsOk al most ls rs trs → Q t H'
theorem ok_law_tables (T : Txt K mg) : Cal P w K mg base CX0 3 "_law_tables" ["_law_source_here", "_law_alphabet_here", "_law_most", "_law_steady"] sp_law_tables := by
  obtain ⟨fd, F⟩ := F__law_tables T
  refine cal_mk F (g__law_tables T) sc__law_tables (fun _ _ _ _ _ _ us hl => match us, hl with | [_, _, _, _], _ => rfl) (fun vs H Q E h => ?_) (fun cdv A outer s H vs Q E hr h => ?_)
  · obtain ⟨a, al, most, rfl, _⟩ := h; rfl
  · refine ⟨_, PSs.nox (pss_cons (ps_set (i := 4) sc__law_tables.nd rfl (Or.inl rfl) (pe_callB call_len (by rfl) (fr_len T) boot_len (pa_cons (pv 1) pa_nil)))
      (pss_cons (ps_if (pt_val (pv 3))
          (pss_cons (ps_set (i := 5) sc__law_tables.nd rfl (Or.inl rfl) (pe_cal (ok_law_steady_reader T) (hr.mono (by decide)) pass0 (pa_cons (pv 0) (pa_cons (pv 4) (pa_cons (pv 2) pa_nil)))))
            (pss_one (ps_set (i := 6) sc__law_tables.nd rfl (Or.inl rfl) (pe_cal (ok_law_steady_reader T) (hr.mono (by decide)) pass0 (pa_cons (pv 0) (pa_cons (pv 4) (pa_cons (pv 2) pa_nil)))))))
          (pss_cons (ps_set (i := 5) sc__law_tables.nd rfl (Or.inl rfl) (pe_cal (ok_law_reader T) hr pass0 (pa_cons (pv 0) (pa_cons (pv 4) (pa_cons (pv 2) pa_nil)))))
            (pss_one (ps_set (i := 6) sc__law_tables.nd rfl (Or.inl rfl) (pe_cal (ok_law_reader T) hr pass0 (pa_cons (pv 0) (pa_cons (pv 4) (pa_cons (pv 2) pa_nil))))))))
      (pss_one (ps_ret (pe_tup (pa_cons (pv 5) (pa_cons (pv 6) (pa_cons (pe_cal (ok_law_marked T) hr pass0 (pa_cons (pv 0) (pa_cons (pv 1) (pa_cons (pv 5) (pa_cons (pv 6) pa_nil))))) pa_nil)))))))), ?_⟩
    obtain ⟨a, al, most, rfl, hs, h1, h8, m1, m40, q⟩ := h
    refine ⟨.str al, rfl, _, _, rfl, lenV_str (Nat.le_trans h8 (by decide)), .bl false, rfl, false, rfl, iteF ?_⟩
    refine ⟨.ref a, rfl, .int (al.length : Nat), rfl, .int (most : Nat), rfl, a, al.length, most, rfl, h1, h8, m1, m40, hs, fun H1 tl ls f1 d1 k1 => ?_⟩
    refine ⟨.ref a, rfl, .int (al.length : Nat), rfl, .int (most : Nat), rfl, a, al.length, most, rfl, h1, h8, m1, m40, f1.src, fun H2 tr rs f2 d2 k2 => ?_⟩
    have d1' := d1.same f2.sm
    have sl : SeqN (del H2 a) tl ls.length := by
      have := seqN_of d1' (ds := ls.map rowD) rfl
      unfold lenD rowsD itemsD at this
      simpa using this
    have sr : SeqN (del H2 a) tr rs.length := by
      have := seqN_of d2 (ds := rs.map rowD) rfl
      unfold lenD rowsD itemsD at this
      simpa using this
    refine ⟨tl, rfl, tr, rfl, .ref a, rfl, .str al, rfl, tl, rfl, tr, rfl, a, al, tl, tr, ls.length, rs.length, rfl, f2.src, sl, sr, h8, Nat.le_trans k1.le m40, Nat.le_trans k2.le m40, fun H3 tm trs f3 d3 hsub hlen => ?_⟩
    refine ⟨(by show 3 ≤ sizeLine; decide), fun t ht => ?_⟩
    have hta : t ≠ a := f3.src.ne ht
    have s4 := same_del a (same_upd (o := .tup [tl, tr, tm]) ht)
    refine q _ _ ls rs trs ((f1.trans (f2.trans f3)).trans (Fra.same f3.src (same_upd ht))) (.tup (by rw [del_ne hta]; exact upd_same) (.cons ((d1'.same f3.sm).same s4) (.cons ((d2.same f3.sm).same s4) (.cons (d3.same s4) .nil)))) ⟨k1, k2, hsub, hlen⟩
end
end Kx
set_option Elab.async false
set_option linter.all false
set_option maxRecDepth 100000
set_option maxHeartbeats 4000000
namespace Kx
open PySem PySem.Spec PyProof.Rows L2
theorem none_of {H H' : Hp} {D : Addr} (s : Same H H') (h : H' D = none) : H D = none := by
  cases hx : H D with
  | none => rfl
  | some u => rw [s _ _ hx] at h; cases h
theorem src_ne {H : Hp} {a D : Addr} (h : SrcAt H a) (hD : H D = none) : D ≠ a := fun z => by
  obtain ⟨A, S, C, e⟩ := h
  rw [← z, hD] at e
  cases e
theorem src_drawn {H : Hp} {a : Addr} (A S C : Int) : SrcAt (upd H a (three A S C)) a := ⟨A, S, C, upd_same⟩
/-! ### steps, one for each form -/
theorem seq_if {t : TT} {a b u : TS} {D : Ends} {σ : L2.St} {H : Hp} (h : t σ H fun k H1 => if k = true then a { D with nx := u D } σ H1 else b { D with nx := u D } σ H1) : tSeq (tIfS t a b) u D σ H := h
theorem one_if {t : TT} {a b : TS} {D : Ends} {σ : L2.St} {H : Hp} (h : t σ H fun k H1 => if k = true then a D σ H1 else b D σ H1) : tIfS t a b D σ H := h
/-- an if, then the rest: what is true behind the if -/
theorem if_then {t : TT} {a b u : TS} {D : Ends} {σ : L2.St} {H : Hp} (R : L2.St → Hp → Prop) (rest : ∀ σ' G, R σ' G → u D σ' G) (h : (∀ σ' G, R σ' G → u D σ' G) → tIfS t a b { D with nx := u D } σ H) : tSeq (tIfS t a b) u D σ H := h rest
theorem test_op {r : R2} {ta tb : TE} {σ : L2.St} {H : Hp} {R : Bool → Hp → Prop} (h : ta σ H fun x H1 => tb σ H1 fun y H2 => r x y H2 fun v H3 => ∃ k, v = .bl k ∧ R k H3) : tTest (tOp r ta tb) σ H R := h
theorem test_not {t : TT} {σ : L2.St} {H : Hp} {R : Bool → Hp → Prop} (h : t σ H fun k H1 => R (!k) H1) : tNot t σ H R := h
theorem test_val {t : TE} {σ : L2.St} {H : Hp} {R : Bool → Hp → Prop} (h : t σ H fun x H1 => ∃ c, x = .bl c ∧ R c H1) : tB t σ H R := h
theorem ret_te {te : TE} {D : Ends} {σ : L2.St} {H : Hp} (h : te σ H D.rt) : tRet te D σ H := h
theorem op_of {r : R2} {ta tb : TE} {σ : L2.St} {H : Hp} {Q : VK} (h : ta σ H fun x H1 => tb σ H1 fun y H2 => r x y H2 Q) : tOp r ta tb σ H Q := h
theorem call_of {sp : Sp} {E : XK} {ta : TA} {σ : L2.St} {H : Hp} {Q : VK} (h : ta σ H fun vs H1 => sp (vs ++ []) H1 Q E) : tCall sp [] E ta σ H Q := h
theorem cb_of {r : List V → Hp → VK → Prop} {ta : TA} {σ : L2.St} {H : Hp} {Q : VK} (h : ta σ H fun vs H1 => r vs H1 Q) : tCB r ta σ H Q := h
theorem args_of {te : TE} {ts : TA} {σ : L2.St} {H : Hp} {Q : List V → Hp → Prop} (h : te σ H fun x H1 => ts σ H1 fun xs H2 => Q (x :: xs) H2) : tCons te ts σ H Q := h
theorem args_end {σ : L2.St} {H : Hp} {Q : List V → Hp → Prop} (h : Q [] H) : tNil σ H Q := h
theorem var_of {i : Nat} {v : V} {σ : L2.St} {H : Hp} {Q : VK} (e : σ[i]? = some (some v)) (h : Q v H) : tVar i σ H Q := ⟨v, e, h⟩
theorem if_e {t : TT} {a b : TE} {σ : L2.St} {H : Hp} {Q : VK} (h : t σ H fun k H1 => if k = true then a σ H1 Q else b σ H1 Q) : tIf t a b σ H Q := h
theorem sl_of {r : V → Option Int → Option Int → Hp → VK → Prop} {te : TE} {lo hi : TO} {σ : L2.St} {H : Hp} {Q : VK} (h : te σ H fun x H1 => lo σ H1 fun l H2 => hi σ H2 fun u H3 => r x l u H3 Q) : tSl r te lo hi σ H Q := h
theorem part_of {te : TE} {σ : L2.St} {H : Hp} {R : Option Int → Hp → Prop} (h : te σ H fun x H1 => ∃ i, x = .int i ∧ R (some i) H1) : tPart te σ H R := h
theorem nopart_of {σ : L2.St} {H : Hp} {R : Option Int → Hp → Prop} (h : R none H) : tNoPart σ H R := h
theorem c_of {v : V} {σ : L2.St} {H : Hp} {Q : VK} (h : Q v H) : tC v σ H Q := h
/-- a draw -/
theorem draw {a : Addr} {m : Int} {σ : L2.St} {H : Hp} {Q : VK} {E : XK} {i : Nat} {tm : TE} (e : σ[i]? = some (some (.ref a))) (hm : ∀ Q' : VK, Q' (.int m) H → tm σ H Q') (h0 : 0 < m) (h1 : m < 1073741824) (hs : SrcAt H a) (h : ∀ (d : Nat) (G : Hp), Fra a H G → ((d : Nat) : Int) < m → Q (.int (d : Nat)) G) :
    tCall sp_law_pick [] E (tCons (tVar i) (tCons tm tNil)) σ H Q :=
  ⟨.ref a, e, hm _ ⟨a, m, rfl, h0, h1, hs, fun A S C d hd0 hd1 => by
    obtain ⟨n, rfl⟩ := Int.eq_ofNat_of_zero_le hd0
    exact h n _ (Fra.drawn A S C) hd1⟩⟩
/-- a draw below a number that stands there -/
theorem drawC {a : Addr} {m : Int} {σ : L2.St} {H : Hp} {Q : VK} {E : XK} {i : Nat} (e : σ[i]? = some (some (.ref a))) (h0 : 0 < m) (h1 : m < 1073741824) (hs : SrcAt H a) (h : ∀ (d : Nat) (G : Hp), Fra a H G → ((d : Nat) : Int) < m → Q (.int (d : Nat)) G) :
    tCall sp_law_pick [] E (tCons (tVar i) (tCons (tC (.int m)) tNil)) σ H Q := draw e (fun _ q => q) h0 h1 hs h
end Kx
set_option Elab.async false
set_option linter.all false
set_option maxRecDepth 100000
set_option maxHeartbeats 1000000
/-! list(a text), list(reversed(a list)) -/
namespace NL
open PySem PySem.Spec PyProof.Rows
section
variable {prog : Program} {w : World} {A : Around} {E : Value → Shared → Prop} {s : Shared}
theorem typeIs_text (s : Shared) (x : Str) (t : Tok) : s.TypeIs (.str x t) "str" := by first | exact rfl | exact ⟨rfl⟩ | (constructor <;> rfl) | trivial
theorem hint_text {x : Str} {t : Tok} {Q : Bool → Shared → Prop} (h : Q false s) : wpAny (model prog w) A (Builtin.List.listLengthHint (.str x t)) Q E s := by
  have hT : s.TypeIs (.str x t) "str" := typeIs_text s x t
  unfold Builtin.List.listLengthHint
  refine wpAny_bind (wpAny_specialOf hT F.slot_str_len.lookup ?_)
  generalize hid : ("str.__len__" : String) = id0
  wp_delta
  rw [show splitId id0 = some ("str", "__len__") from by subst hid; decide +kernel]
  subst hid
  refine wpAny_bind (wpAny_isInstance (T := "str") (b := true) hT (by rw [isSubtype_type]; kernel_rfl) ?_)
  refine wpAny_ite_split (fun hab => absurd hab (by decide)) (fun _ => ?_)
  refine wpAny_ite_split (fun _ => ?_) (fun hab => absurd (by decide +kernel) hab)
  refine wpAny_bind (wpAny_typeOf hT ?_)
  exact wpAny_pure h
theorem extend_text {R : Result → Shared → Prop} (hh : A.handled = none) (x : Str) (t : Tok) (S : Addr) (res : Value) (c₀ : Nat) (hS : s.heap.get? S = some { cls := .type "list", data := .seq #[] c₀ })
    (hR : ∀ h' tk acc' c', (∀ b o, b ≠ S → s.heap.get? b = some o → h'.get? b = some o) → h'.get? S = some { cls := .type "list", dict := none, data := .seq acc' c', slots := #[] } →
      ItemsOf (SignAt x) acc' x.cps.size → R (.ok (.ret res)) { s with heap := h', toks := tk }) (hn : x.cps.size ≤ sizeLine) :
    wpAny (model prog w) A.in1 (Builtin.List.listExtendWith (.ref S) (.str x t) res)
      (fun fin s' => match fin with | .done f => R (.ok f) s' | .again c' => c'.quiet = true ∧ codeAny (model prog w) A c' R s') (fun e s' => R (.error e) s') s := by
  have hSI : S ≠ s.heap.objs.size := Nat.ne_of_lt (Heap.lt_size hS)
  have hSf : S ∉ [s.heap.objs.size] := fun hm => hSI (List.mem_singleton.mp hm)
  unfold Builtin.List.listExtendWith
  refine wpAny_bind (wpAny_typeOf (T := "str") (v := .str x t) (typeIs_text s x t) ?_)
  have h1 : Builtin.List.listSameRef (.ref S) (.str x t) = false := rfl
  have h2 : (Value.type "str" == Value.type "list") = false := by decide
  have h3 : (Value.type "str" == Value.type "tuple") = false := by decide
  simp only [h1, h2, h3, Bool.or_false, Bool.false_eq_true, if_false]
  refine wpAny_bind (wpAny_pyIter_str fun o St W hst => ?_)
  refine wpAny_bind (wpAny_holding (hint_text ?_))
  rw [if_neg (by first | decide | decide +kernel)]
  refine wpAny_pure ⟨plainId_quiet PySem.F.plain_extend_loop _, codeAny_extend_loopS (W A.in1 hh).toS hn _ hSf _ x.cps.size 0 _ _ _ rfl (Nat.zero_le _) hst (Heap.get?_push_of_some _ hS) (ItemsOf.nil _) fun s' acc' c' hm hS' hacc => ?_⟩
  rw [Moved.eq_with hm]
  refine hR s'.heap s'.toks acc' c' (fun b ob hb e => hm.heap b ob (fun hmem => ?_) (Heap.get?_push_of_some _ e)) hS' hacc
  rcases List.mem_cons.mp hmem with e' | hmem
  · exact hb e'
  · exact absurd (Heap.lt_size e) (by rw [List.mem_singleton.mp hmem]; exact Nat.lt_irrefl _)
theorem list_init_text {R : Result → Shared → Prop} (hh : A.handled = none) (x : Str) (t : Tok) (S : Addr) (hS : s.heap.get? S = some { cls := .type "list", data := .seq #[] })
    (hR : ∀ h' tk acc' c', (∀ b o, b ≠ S → s.heap.get? b = some o → h'.get? b = some o) → h'.get? S = some { cls := .type "list", dict := none, data := .seq acc' c', slots := #[] } →
      ItemsOf (SignAt x) acc' x.cps.size → R (.ok (.ret .none)) { s with heap := h', toks := tk }) (hn : x.cps.size ≤ sizeLine) :
    wpAny (model prog w) A.in1 (Builtin.«list.__init__» ⟨[.ref S, .str x t], []⟩)
      (fun fin s' => match fin with | .done f => R (.ok f) s' | .again c' => c'.quiet = true ∧ codeAny (model prog w) A c' R s') (fun e s' => R (.error e) s') s := by
  show wpAny _ _ (do let old ← Builtin.List.listItems (.ref S); Builtin.List.listUpdate (.ref S) (fun _ => #[]); letGo old.toList.reverse; Builtin.List.listExtendWith (.ref S) (.str x t) .none) _ _ s
  refine wpAny_bind ?_
  unfold Builtin.List.listItems
  refine wpAny_bind (wpAny_seqItems hS rfl (wpAny_pure ?_))
  show wpAny _ _ (updateSeq S (fun _ => #[]) >>= fun _ => letGo (#[] : Array Value).toList.reverse >>= fun _ => Builtin.List.listExtendWith (.ref S) (.str x t) .none) _ _ s
  refine wpAny_bind (wpAny_updateSeq hS rfl ?_)
  have hS₂ := Heap.get?_update_self (Obj.mapSeq (fun _ => (#[] : Array Value))) hS rfl
  have oth : ∀ b o, b ≠ S → s.heap.get? b = some o → (s.heap.update S (Obj.mapSeq (fun _ => (#[] : Array Value)))).get? b = some o :=
    fun b o hb e => (Heap.get?_update_other _ _ (Ne.symm hb)).trans e
  refine wpAny_bind (wpAny_letGo ?_)
  refine extend_text hh x t S .none _ hS₂ (fun h' tk acc' c' hk hS' hacc => ?_) hn
  exact hR h' tk acc' c' (fun b o hb e => hk b o hb (oth b o hb e)) hS' hacc
theorem call_list_text {x : Str} {t : Tok} {Q : Value → Shared → Prop} (hh : A.handled = none) (hn : x.cps.size ≤ sizeLine)
    (hQ : ∀ h' tk acc' c', (∀ b o, s.heap.get? b = some o → h'.get? b = some o) →
      h'.get? s.heap.objs.size = some { cls := .type "list", dict := none, data := .seq acc' c', slots := #[] } → ItemsOf (SignAt x) acc' x.cps.size → Q (.ref s.heap.objs.size) { s with heap := h', toks := tk }) :
    wpAny (model prog w) A (call (.type "list") [.str x t]) Q E s := by
  refine callType_codes (Q₁ := fun obj s₁ => obj = .ref s.heap.objs.size ∧ s₁ = { s with heap := s.heap.push { cls := .type "list", data := .seq #[] } }) PySem.F.called_list (PySem.F.typeCall_list_1 _) PySem.F.entry_list_init
    (code_list_new _ ⟨rfl, rfl⟩) fun obj s₁ h₁ => ?_
  obtain ⟨rfl, rfl⟩ := h₁
  have hS : (s.heap.push { cls := .type "list", data := .seq #[] }).get? s.heap.objs.size = some { cls := .type "list", data := .seq #[] } := Heap.get?_push_size _ rfl
  refine ⟨⟨_, hS, rfl⟩, PySem.F.args_list_init_2 _ _, list_init_text (A := A.in1) hh x t _ hS (fun h' tk acc' c' hk hS' hacc => ?_) hn⟩
  exact ⟨rfl, hQ h' tk acc' c' (fun b o e => hk b o (Nat.ne_of_lt (Heap.lt_size e)) (Heap.get?_push_of_some _ e)) hS' hacc⟩
/-! ### list(reversed(a list)) -/
theorem extend_rev {R : Result → Shared → Prop} {it l : Addr} {items : Array Value} (hh : A.handled = none) (hit : s.heap.IsRevIter it l ((items.size : Int) - 1)) (hl : s.heap.IsList l items) (hne : l ≠ it) (S : Addr) (hSi : S ≠ it) (hSl : S ≠ l) (res : Value) (c₀ : Nat)
    (hS : s.heap.get? S = some { cls := .type "list", data := .seq #[] c₀ })
    (hR : ∀ h' tk acc' c', (∀ b o, b ≠ S → b ≠ it → s.heap.get? b = some o → h'.get? b = some o) → h'.get? S = some { cls := .type "list", dict := none, data := .seq acc' c', slots := #[] } →
      ItemsOf (fun i v => items[items.size - 1 - i]? = some v) acc' items.size → R (.ok (.ret res)) { s with heap := h', toks := tk }) (hn : items.size ≤ sizeLine) :
    wpAny (model prog w) A.in1 (Builtin.List.listExtendWith (.ref S) (.ref it) res)
      (fun fin s' => match fin with | .done f => R (.ok f) s' | .again c' => c'.quiet = true ∧ codeAny (model prog w) A c' R s') (fun e s' => R (.error e) s') s := by
  have W := (Walks.listRev (prog := prog) (w := w) (A := A.in1) hh it l hne items).toS
  have hSf : S ∉ [it, l] := by simp only [List.mem_cons, List.not_mem_nil, or_false, not_or]; exact ⟨hSi, hSl⟩
  have hT : s.TypeIs (.ref it) "list_reverseiterator" := Heap.IsRevIter.typeIs hit
  have h1 : Builtin.List.listSameRef (.ref S) (.ref it) = false := by simp [Builtin.List.listSameRef, hSi]
  unfold Builtin.List.listExtendWith
  refine wpAny_bind (wpAny_typeOf hT ?_)
  rw [if_neg (by rw [h1]; decide)]
  refine wpAny_bind (wpAny_pyIter_revIter hit ?_)
  refine wpAny_bind (wpAny_holding ?_)
  unfold Builtin.List.listLengthHint
  refine wpAny_bind (wpAny_specialOf hT RT.nolen_lri ?_)
  show wpAny _ A.in1 (specialOf (Value.ref it) (Str.ofString "__length_hint__") >>= _) _ _ _
  refine wpAny_bind (wpAny_specialOf hT RT.hint_lri ?_)
  generalize hid : ("list_reverseiterator.__length_hint__" : String) = id0
  wp_delta
  rw [show splitId id0 = some ("list_reverseiterator", "__length_hint__") from by subst hid; decide +kernel]
  subst hid
  refine wpAny_bind (wpAny_isInstance (b := true) hT (by rw [isSubtype_type]; kernel_rfl) ?_)
  refine wpAny_pure ?_
  rw [if_neg (by decide)]
  have e0 : ((items.size : Nat) : Int) - 1 - ((0 : Nat) : Int) = (items.size : Int) - 1 := by omega
  refine wpAny_pure ⟨plainId_quiet F.plain_extend_loop _, codeAny_extend_loopS W hn _ hSf _ items.size 0 _ _ _ rfl (Nat.zero_le _) ⟨Nat.zero_le _, by rw [e0]; exact hit, hl⟩ hS (ItemsOf.nil _) fun s' acc' c' hm hS' hacc => ?_⟩
  rw [Moved.eq_with hm]
  refine hR s'.heap s'.toks acc' c' (fun b o hb1 hb2 e => hm.heap b o (fun hmem => ?_) e) hS' hacc
  rcases List.mem_cons.mp hmem with e' | hmem
  · exact hb1 e'
  · exact hb2 (List.mem_singleton.mp hmem)
theorem list_init_rev {R : Result → Shared → Prop} {it l : Addr} {items : Array Value} (hh : A.handled = none) (hit : s.heap.IsRevIter it l ((items.size : Int) - 1)) (hl : s.heap.IsList l items) (hne : l ≠ it) (S : Addr) (hSi : S ≠ it) (hSl : S ≠ l)
    (hS : s.heap.get? S = some { cls := .type "list", data := .seq #[] })
    (hR : ∀ h' tk acc' c', (∀ b o, b ≠ S → b ≠ it → s.heap.get? b = some o → h'.get? b = some o) → h'.get? S = some { cls := .type "list", dict := none, data := .seq acc' c', slots := #[] } →
      ItemsOf (fun i v => items[items.size - 1 - i]? = some v) acc' items.size → R (.ok (.ret .none)) { s with heap := h', toks := tk }) (hn : items.size ≤ sizeLine) :
    wpAny (model prog w) A.in1 (Builtin.«list.__init__» ⟨[.ref S, .ref it], []⟩)
      (fun fin s' => match fin with | .done f => R (.ok f) s' | .again c' => c'.quiet = true ∧ codeAny (model prog w) A c' R s') (fun e s' => R (.error e) s') s := by
  show wpAny _ _ (do let old ← Builtin.List.listItems (.ref S); Builtin.List.listUpdate (.ref S) (fun _ => #[]); letGo old.toList.reverse; Builtin.List.listExtendWith (.ref S) (.ref it) .none) _ _ s
  refine wpAny_bind ?_
  unfold Builtin.List.listItems
  refine wpAny_bind (wpAny_seqItems hS rfl (wpAny_pure ?_))
  show wpAny _ _ (updateSeq S (fun _ => #[]) >>= fun _ => letGo (#[] : Array Value).toList.reverse >>= fun _ => Builtin.List.listExtendWith (.ref S) (.ref it) .none) _ _ s
  refine wpAny_bind (wpAny_updateSeq hS rfl ?_)
  have hS₂ := Heap.get?_update_self (Obj.mapSeq (fun _ => (#[] : Array Value))) hS rfl
  have oth : ∀ b o, b ≠ S → s.heap.get? b = some o → (s.heap.update S (Obj.mapSeq (fun _ => (#[] : Array Value)))).get? b = some o :=
    fun b o hb e => (Heap.get?_update_other _ _ (Ne.symm hb)).trans e
  refine wpAny_bind (wpAny_letGo ?_)
  refine extend_rev (s := { s with heap := s.heap.update S (Obj.mapSeq (fun _ => (#[] : Array Value))) }) hh (hit.at fun o e => oth _ o (Ne.symm hSi) e) ?_ hne S hSi hSl .none _ hS₂ (fun h' tk acc' c' hk hS' hacc => ?_) hn
  · obtain ⟨o, ho, r⟩ := hl
    exact ⟨o, oth _ _ (Ne.symm hSl) ho, r⟩
  · exact hR h' tk acc' c' (fun b o hb1 hb2 e => hk b o hb1 hb2 (oth b o hb1 e)) hS' hacc
theorem call_list_rev {it l : Addr} {items : Array Value} {Q : Value → Shared → Prop} (hh : A.handled = none) (hit : s.heap.IsRevIter it l ((items.size : Int) - 1)) (hl : s.heap.IsList l items) (hne : l ≠ it) (hn : items.size ≤ sizeLine)
    (hQ : ∀ h' tk acc' c', (∀ b o, b ≠ it → s.heap.get? b = some o → h'.get? b = some o) →
      h'.get? s.heap.objs.size = some { cls := .type "list", dict := none, data := .seq acc' c', slots := #[] } → ItemsOf (fun i v => items[items.size - 1 - i]? = some v) acc' items.size → Q (.ref s.heap.objs.size) { s with heap := h', toks := tk }) :
    wpAny (model prog w) A (call (.type "list") [.ref it]) Q E s := by
  obtain ⟨oi, hoi, _⟩ := id hit
  obtain ⟨ol, hol, _⟩ := id hl
  have hSi : s.heap.objs.size ≠ it := Nat.ne_of_gt (Heap.lt_size hoi)
  have hSl : s.heap.objs.size ≠ l := Nat.ne_of_gt (Heap.lt_size hol)
  refine callType_codes (Q₁ := fun obj s₁ => obj = .ref s.heap.objs.size ∧ s₁ = { s with heap := s.heap.push { cls := .type "list", data := .seq #[] } }) PySem.F.called_list (PySem.F.typeCall_list_1 _) PySem.F.entry_list_init
    (code_list_new _ ⟨rfl, rfl⟩) fun obj s₁ h₁ => ?_
  obtain ⟨rfl, rfl⟩ := h₁
  have hS : (s.heap.push { cls := .type "list", data := .seq #[] }).get? s.heap.objs.size = some { cls := .type "list", data := .seq #[] } := Heap.get?_push_size _ rfl
  refine ⟨⟨_, hS, rfl⟩, PySem.F.args_list_init_2 _ _, list_init_rev (A := A.in1) (s := { s with heap := s.heap.push { cls := .type "list", data := .seq #[] } }) hh (hit.at fun o e => Heap.get?_push_of_some _ e) (hl.push _) hne _ hSi hSl hS (fun h' tk acc' c' hk hS' hacc => ?_) hn⟩
  exact ⟨rfl, hQ h' tk acc' c' (fun b o hb e => hk b o (Nat.ne_of_lt (Heap.lt_size e)) hb (Heap.get?_push_of_some _ e)) hS' hacc⟩
end
end NL
set_option Elab.async false
set_option linter.all false
set_option maxRecDepth 100000
set_option maxHeartbeats 1000000
/-! the rules for list(a text), list(reversed(a list)) -/
namespace L2
open PySem PySem.Spec PyProof.Rows
section
variable {X : Cx}
/-- list(z), z a text: a new list of its letters -/
def lettersV (z : Str) : List V := z.cps.toList.map fun c => V.str ⟨#[c]⟩
theorem call_listX (hc : X.calm = true) : CallR X (.type "list") (fun xs H Q => ∃ z : Str, xs = [.str z] ∧ z.length ≤ sizeLine ∧ ∀ l, H l = none → Q (.ref l) (upd H l (.lst (lettersV z)))) := by
  intro pins s σ H xs us Q I r q
  obtain ⟨z, ex, hz, q⟩ := q
  subst ex
  obtain ⟨u, eu, rx⟩ := vals1 r
  subst eu
  obtain ⟨t, rfl⟩ := rx
  refine NL.call_list_text (I.ok.hd hc) hz fun h' tk acc c' hk hD hacc => ?_
  have hv : Vals (lettersV z) acc.toList := vals_of_idx _ _ (by rw [Array.length_toList, hacc.1]; show z.cps.size = (z.cps.toList.map _).length; rw [List.length_map, Array.length_toList]) fun j v hj => by
    obtain ⟨c, t', hc2, rfl⟩ := hacc.2 j v (by rw [← Array.getElem?_toList]; exact hj)
    exact ⟨.str ⟨#[c]⟩, by unfold lettersV; rw [List.getElem?_map, Array.getElem?_toList, hc2]; rfl, t', rfl⟩
  exact ⟨.ref s.heap.objs.size, upd H s.heap.objs.size (.lst (lettersV z)), I.laid (t' := tk) hk (Nat.le_refl _)
    (show ObjOk X.prog X.w _ _ _ (.lst (lettersV z)) from ⟨by unfold lettersV; rw [List.length_map, Array.length_toList]; exact hz, acc.toList, c', hv, by rw [Array.toArray_toList]; exact hD⟩), rfl, q _ (I.hok.fresh (Nat.le_refl _))⟩
/-- list(reversed(x)), x a list: a new list -/
def tLstRev (K : PySem.W.Frag) (te : TE) : TE := fun σ H Q => te σ H fun v H1 => ∃ (a : Addr) (xs : List V), v = .ref a ∧ SqL K H1 a xs ∧ ∀ q, H1 q = none → Q (.ref q) (upd H1 q (.lst xs.reverse))
theorem pe_lstRev {e : Expr} {te : TE} {p p2 pos pos2 : Pos} (hc : X.calm = true) (hg : Gl X "list") (hm : X.mg "list" = none) (hg2 : Gl X "reversed") (hm2 : X.mg "reversed" = none) (he : PE X e te)
    (hs : starEach [e] X.env = (false, eval e X.env) :: starEach [] X.env := by rfl)
    (hs2 : starEach [.Call (.Name "reversed" p2) [e] [] pos2] X.env = (false, eval (.Call (.Name "reversed" p2) [e] [] pos2) X.env) :: starEach [] X.env := by rfl) :
    PE X (.Call (.Name "list" p) [.Call (.Name "reversed" p2) [e] [] pos2] [] pos) (tLstRev X.K te) := by
  refine ⟨fun pins s σ H Q I h => ?_⟩
  refine Call_ (ld_blt I hg hm boot_list (PyProof.Rows.callWith_type1 (args_cons (Call_ (ld_blt I hg2 hm2 PyProof.Rows.boot_reversed (PyProof.Rows.callWith_type1 (args_cons (thn (he.run pins s σ H _ I h) fun u s1 ⟨v, H1, I1, r1, q1⟩ => args_nil ?_) hs) hs rfl))) hs2) hs2 rfl))
  obtain ⟨a, xs, ev, hq, q⟩ := q1
  subst ev
  obtain rfl : u = Value.ref a := r1
  obtain ⟨its, rv, p', hz⟩ := I1.list hq
  refine call_reversed_list p'.isList (args_nil ?_)
  have k0 : ∀ b o, s1.heap.get? b = some o → (s1.heap.push (revObj a ((its.toArray.size : Int) - 1))).get? b = some o := fun b o e => Heap.get?_push_of_some _ e
  have I2 : Inv X pins σ H1 { s1 with heap := s1.heap.push (revObj a ((its.toArray.size : Int) - 1)) } := I1.kept (t' := s1.toks) k0
  obtain ⟨f0, f1, f2, f3, f4, f5⟩ := I1.fpOk (H' := H1) (b := s1.heap.objs.size) (Nat.le_refl _) (I1.hok.fresh (Nat.le_refl _))
  have hl := p'.isList
  obtain ⟨ol, hol, _⟩ := id hl
  have hne : a ≠ s1.heap.objs.size := Nat.ne_of_lt (Heap.lt_size hol)
  have hn : its.toArray.size ≤ sizeLine := by rw [List.size_toArray, ← rv.length]; exact hz
  refine NL.call_list_rev (s := { s1 with heap := s1.heap.push (revObj a ((its.toArray.size : Int) - 1)) }) (I1.ok.hd hc) ⟨_, Heap.get?_push_size _ rfl, rfl, rfl⟩ (hl.push _) hne hn fun h' tk acc c' hk hD hi => ?_
  have hsz : (s1.heap.push (revObj a ((its.toArray.size : Int) - 1))).objs.size = s1.heap.objs.size + 1 := by simp [Heap.push]
  have I3 := I2.turnedNew (t' := tk) (h' := h') (ch := [s1.heap.objs.size]) (T := (s1.heap.push (revObj a ((its.toArray.size : Int) - 1))).objs.size) (ob := .lst xs.reverse) (fun b o hb e => hk b o (fun z => hb (by rw [z]; exact List.mem_cons_self ..)) e)
    (fun b hb => by rw [List.mem_singleton.mp hb]; exact ⟨f0, f1, f2, f3, f4, f5⟩) (Nat.le_refl _) (show ObjOk X.prog X.w _ _ _ (.lst xs.reverse) from ⟨by rw [List.length_reverse]; exact hz, acc.toList, c', RT.vals_rev rv hi, by rw [Array.toArray_toList]; exact hD⟩)
  exact ⟨.ref _, _, I3, rfl, q _ (I1.hok.fresh (by rw [hsz]; exact Nat.le_succ _))⟩
end
end L2
set_option Elab.async false
set_option linter.all false
set_option maxRecDepth 100000
set_option maxHeartbeats 4000000
/-! try with several handlers, each with the same name for what it takes -/
namespace L2N
open PySem PySem.Spec PyProof.Rows L2
abbrev Sui : Type := Addr → Value → Option Addr → TS
inductive HdsAs (X : Cx) (n : Str) : List ExceptHandler → List (Value × Sui) → Prop
  | nil : HdsAs X n [] []
  | cons {x : Str} {c : Value} {ts : Sui} {s0 : Stmt} {ss : List Stmt} {p p' : Pos} {hs : List ExceptHandler} {l : List (Value × Sui)} (names : Names X x c)
      (does : ∀ (a : Addr) (oe : Obj) (cls : Value) (d : Option Addr) (pn : List (Addr × Obj)), Zn cls d oe → (∃ vs, oe.data = .fields vs) → PSs (X.suite a ((a, oe) :: pn)) (s0 :: ss) (ts a cls d))
      (more : HdsAs X n hs l) : HdsAs X n (.ExceptHandler (some (.Name x p)) (some n) (s0 :: ss) p' :: hs) ((c, ts) :: l)
/-- behind a suite its name's slot is empty -/
def Ends.gone (D : Ends) (i : Nat) : Ends := { nx := fun τ G => D.nx (τ.set i none) G, rt := D.rt, bk := fun τ G => D.bk (τ.set i none) G, ct := fun τ G => D.ct (τ.set i none) G }
/-- the first class that the error is of -/
def wEach (K : PySem.W.Frag) (i : Nat) (Wout : WX) (D : Ends) : List (Value × Sui) → WX
  | [] => Wout
  | (c, ts) :: r => fun cls d σ H => ∃ b, PySem.W.exmOne K cls c = some b ∧ (b = true → ∀ a, H a = none → ts a cls d (Ends.gone D i) (σ.set i (some (.ref a))) H) ∧ (b = false → wEach K i Wout D r cls d σ H)
section
variable {X : Cx} {n : Str} {i : Nat} {body : List Stmt} {h0 : ExceptHandler} {hds : List ExceptHandler} {l : List (Value × Sui)} {pos : Pos} {tb : WX → TS} {Wout : WX}
theorem ps_try_each (st : X.stack = X.env :: X.outer) (fr : X.env.frame = some X.env.locals) (nd : X.N.Nodup) (slot : X.N[i]? = some n) (loc : X.env.kindOf n = some .local) (tk : Takes X Wout)
    (hb : ∀ (W : WX) (pn : List (Addr × Obj)) (xe : Value → Shared → Prop), Takes (X.tr pn xe) W → PassesOwn (model X.prog X.w) X.A X.env xe → PSs (X.tr pn xe) body (tb W))
    (hh : HdsAs X n (h0 :: hds) l) : PS X (.Try body (h0 :: hds) [] [] pos) (fun D σ H => tb (wEach X.K i Wout D l) D σ H) := by
  constructor
  intro pins s σ H D I start
  have okX := I.ok
  have frames_ : X.A.frames = some (X.env :: X.outer) := okX.frames.trans (congrArg some st)
  -- the body, with what is done of an error
  refine wpAny_Try_except (wpAny_mono ((hb (wEach X.K i Wout D l) (X.pn ++ pins) (fun e s1 => wpAny (model X.prog X.w) X.A (noteFrame e X.env) (fun _ s2 => wpAny (model X.prog X.w) X.A (setFlight e none)
    (fun _ s3 => wpAny (model X.prog X.w) X.A (handleBy e X.env (h0 :: hds)) (SP X pins D) X.xe s3) X.xe s2) X.xe s1) (fun er t caught => ?_) PassesOwn.looking).run [] s σ H D (I.toTry _) start) (fun f t q => ?_) (fun _ _ z => z))
  case refine_2 =>
    cases f with
    | next => exact let ⟨τ, G, Jt, k⟩ := q; wpAny_execs_nil ⟨τ, G, Jt.ofTry okX, k⟩
    | brk => exact let ⟨τ, G, Jt, k⟩ := q; ⟨τ, G, Jt.ofTry okX, k⟩
    | cont => exact let ⟨τ, G, Jt, k⟩ := q; ⟨τ, G, Jt.ofTry okX, k⟩
    | ret u => exact let ⟨v, τ, G, Jt, rv, k⟩ := q; ⟨v, τ, G, Jt.ofTry okX, rv, k⟩
  obtain ⟨a, B, sI, pins2, τ, G, cls, d, rfl, Jtry, nb, up, sky, noA, osI, ag, which⟩ := caught
  have JI : Inv X pins τ G sI := Jtry.ofTry okX
  show wpAny (model X.prog X.w) X.A (noteFrame (.ref a) X.env) _ _ t
  refine Sky.land Zn.steady frames_ fr (st ▸ sky) fun g fl upg => ?_
  have Jg : Inv X pins τ G { t with heap := g } := JI.landed nb fl.1 (up.trans upg) osI ag
  obtain ⟨ob, fs, hob, hZ, hfs⟩ := fl.there
  -- the error is none of the frames
  have apart : a ∉ frs (X.env :: X.outer) := fun hm => by
    obtain ⟨_, o2, e2, no2⟩ := fl.2.2.1.mem hm
    exact no2 fs ((Option.some.inj (hob.symm.trans e2)) ▸ hfs)
  have notL : a ≠ X.env.locals := fun e => apart (List.mem_filterMap.mpr ⟨X.env, List.mem_cons_self, fr.trans (by rw [e])⟩)
  have notF : a ∉ X.fs := fun hm => let ⟨e, he, q⟩ := List.mem_filterMap.mp hm; apart (List.mem_filterMap.mpr ⟨e, List.mem_cons_of_mem _ he, q⟩)
  have Sg := Jg.suite hob hfs noA notL notF
  have typed : PySem.W.Looks (model X.prog X.w) g (typeOf (.ref a)) cls := fun A Q E s k q => wpAny_typeOf_ref (k _ _ hob) (hZ.1.symm ▸ q)
  suffices go : ∀ {hs' : List ExceptHandler} {l' : List (Value × Sui)}, HdsAs X n hs' l' → wEach X.K i Wout D l' cls d τ G → wpAny (model X.prog X.w) X.A (handleBy (.ref a) X.env hs') (SP X pins D) X.xe { t with heap := g } from go hh which
  intro hs' l' hk
  induction hk with
  | nil =>
    intro out
    obtain ⟨_, _, _, o1, v1, T1, o2, t1, k1, _, k2, k3, _⟩ := id fl
    refine wpAny_handleBy_nil ?_
    unfold PySem.passOn
    refine wpAny_bind (wpAny_field k1 k2 k3 ?_)
    rw [if_neg (by simp : ¬ ((Value.ref T1 == Value.none) = true))]
    have last : wpAny (model X.prog X.w) X.A (setFlight (.ref a) X.env.frame) (fun _ t4 => wpAny (model X.prog X.w) X.A (throw (.ref a) : Sem Flow) (SP X pins D) X.xe t4) X.xe { t with heap := g } := by
      rw [fr]
      exact HandSPX.setFlight_upZ fl fun g4 held4 up4 => wpAny_throw (tk _ _ ⟨a, B, sI, pins, τ, G, cls, d, rfl, JI, nb, (up.trans upg).trans up4, .inr (.inr (st.symm ▸ held4)), noA, osI, ag, out⟩)
    first
      | exact wpAny_bind (wpAny_pure (wpAny_bind last))
      | exact wpAny_bind last
  | @cons x c ts s0 ss p p' hs2 l2 names does more ih =>
    rintro ⟨b, match_, yes, no⟩
    have tells := PySem.W.exm_one (M := model X.prog X.w) Jg.kIn typed match_
    refine wpAny_handleBy_cons (codeAny_handlers_test ?_) (fun q => by cases q)
    have class_ : ∀ {Q : Value → Shared → Prop} {E : Value → Shared → Prop}, Q c { t with heap := g } → wpAny (model X.prog X.w) (X.A.mark (some (.ref a))) (eval (.Name x p) X.env) Q E { t with heap := g } := fun {Q E} q => by
      obtain ⟨gl, notd, mg | ⟨mg, bi, nn⟩⟩ := names
      · exact ld_glob (X := X.suite a ((a, ob) :: (X.pn ++ pins))) Sg gl mg q notd
      · exact ld_blt (X := X.suite a ((a, ob) :: (X.pn ++ pins))) Sg gl mg bi q nn notd
    refine class_ (tells.here ?_)
    cases b with
    | false => exact (show wpAny _ X.A (handleBy (.ref a) X.env hs2) _ _ _ from ih (no rfl))
    | true =>
      refine codeAny_handlers_suite_as (HandSPX.lands_againZ fl fun g4 fl4 up4 => ?_)
      obtain ⟨ob4, fs4, hob4, hZ4, hfs4⟩ := fl4.there
      have S4 := (JI.landed nb fl4.1 ((up.trans upg).trans up4) osI ag : Inv X pins τ G { t with heap := g4 }).suite hob4 hfs4 noA notL notF
      refine store_ok (X := X.suite a ((a, ob4) :: (X.pn ++ pins))) (v := .ref a) S4 nd slot (.inl loc) rfl (fun t5 S5 => ?_) (.inr loc)
      refine wpAny_mono ((does a ob4 cls d (X.pn ++ pins) hZ4 ⟨_, hfs4⟩).run [] t5 _ G _ S5 (yes rfl a noA)) (fun f t6 q => ?_) (fun _ _ z => z.elim)
      have unbind : ∀ {τ6 : St} {G6 : Hp} {Q : Shared → Prop}, Inv (X.suite a ((a, ob4) :: (X.pn ++ pins))) [] τ6 G6 t6 → (∀ t7, Inv X pins (τ6.set i none) G6 t7 → Q t7) →
          wpAny (model X.prog X.w) X.A (do bindName X.env n .none; unbindBehindTheSuite X.env n p') (fun _ t7 => Q t7) X.xe t6 := fun {τ6 G6 Q} S6 hq => gone_ok (S6.unsuite okX) nd slot loc hq
      cases f with
      | next => exact let ⟨τ6, G6, S6, k⟩ := q; unbind S6 fun t7 J7 => ⟨_, _, J7, k⟩
      | brk => exact let ⟨τ6, G6, S6, k⟩ := q; unbind S6 fun t7 J7 => ⟨_, _, J7, k⟩
      | cont => exact let ⟨τ6, G6, S6, k⟩ := q; unbind S6 fun t7 J7 => ⟨_, _, J7, k⟩
      | ret u => exact let ⟨v, τ6, G6, S6, rv, k⟩ := q; unbind S6 fun t7 J7 => ⟨_, _, _, J7, rv, k⟩
end
end L2N
set_option Elab.async false
set_option linter.all false
set_option maxRecDepth 100000
set_option maxHeartbeats 4000000
namespace Kx
open PySem PySem.Spec PyProof.Rows L2
theorem ixP {K : PySem.W.Frag} {σ : L2.St} {G : Hp} {sl c j : Nat} {xs : List V} {v : V} {Q : VK} (hσ : σ[sl]? = some (some (.ref c))) (hc : G c = some (.tup xs)) (e : xs[j]? = some v) (q : Q v G) : tOp (rIxT K) (tVar sl) (tC (.int (j : Nat))) σ G Q :=
  ⟨.ref c, hσ, c, _, _, v, rfl, rfl, SqT.of hc, atI_nat e, q⟩
theorem ixP0 {K : PySem.W.Frag} {σ : L2.St} {G : Hp} {sl c : Nat} {x : V} {xs : List V} {Q : VK} (hσ : σ[sl]? = some (some (.ref c))) (hc : G c = some (.tup (x :: xs))) (q : Q x G) : tOp (rIxT K) (tVar sl) (tC (.int 0)) σ G Q := ixP (j := 0) hσ hc rfl q
theorem ixP1 {K : PySem.W.Frag} {σ : L2.St} {G : Hp} {sl c : Nat} {x y : V} {xs : List V} {Q : VK} (hσ : σ[sl]? = some (some (.ref c))) (hc : G c = some (.tup (x :: y :: xs))) (q : Q y G) : tOp (rIxT K) (tVar sl) (tC (.int 1)) σ G Q := ixP (j := 1) hσ hc rfl q
theorem lenS {y : Str} {σ : L2.St} {G : Hp} {K : PySem.W.Frag} {sl : Nat} {Q : VK} (hσ : σ[sl]? = some (some (.str y))) (hy : y.length ≤ 1000) (q : Q (.int (y.length : Nat)) G) : tCB (rLen K) (tCons (tVar sl) tNil) σ G Q :=
  ⟨.str y, hσ, _, y.length, rfl, ⟨Nat.le_trans hy (by decide), rfl⟩, q⟩
theorem lenL {K : PySem.W.Frag} {l : Addr} {xs : List V} {n : Nat} {σ : L2.St} {G : Hp} {sl : Nat} {Q : VK} (hσ : σ[sl]? = some (some (.ref l))) (hl : G l = some (.lst xs)) (hn : xs.length = n) (q : Q (.int (n : Nat)) G) : tCB (rLen K) (tCons (tVar sl) tNil) σ G Q :=
  ⟨.ref l, hσ, _, n, rfl, .inl ⟨_, SqL.of hl, hn.symm⟩, q⟩
theorem smallT_str {z : Str} (h : z.length ≤ 100000) : smallT (.str z) := fun y e => by cases e; exact h
theorem wrong_over {al z : Str} {n : Nat} (h : over al n z) (hn : n ≤ 200) : wrongL al.cps.toList (.str z) = none := by
  show (if z.length ≤ 200 then firstNot al.cps.toList z.cps.toList 0 else some (-1)) = none
  rw [if_pos (Nat.le_trans h.1 hn)]
  exact firstNot_none fun j x hx => h.2 x (List.mem_of_getElem? hx)
theorem RpL.len {H : Hp} : ∀ {vs : List V} {ds : List PyData}, RpL H vs ds → vs.length = ds.length
  | _, _, .nil => rfl
  | _, _, .cons _ h => by rw [List.length_cons, List.length_cons, RpL.len h]
theorem draw_item {K : PySem.W.Frag} {a l : Addr} {σ : L2.St} {G : Hp} {i : Nat} {xs : List V} {ds : List PyData} {Q : VK} {H0 : Hp} (e0 : σ[0]? = some (some (.ref a))) (e : σ[i]? = some (some (.ref l))) (hs : SrcAt G a) (hl : del G a l = some (.lst xs)) (hr : RpL H0 xs ds) (hp : 0 < ds.length) (hn : ds.length ≤ 1000)
    (k : ∀ v d G', Fra a G G' → Rp H0 v d → d ∈ ds → Q v G') : tOp (rIxL K) (tVar i) (tCall sp_law_pick [] E0 (tCons (tVar 0) (tCons (tCB (rLen K) (tCons (tVar i) tNil)) tNil))) σ G Q :=
  op_of (var_of e (draw e0 (fun Q' q => lenL e (del_le a _ _ hl) hr.len q) (by omega) (by omega) hs fun d G' f hd => by
    have h1 := List.getElem?_eq_getElem (show d < xs.length by rw [hr.len]; omega)
    obtain ⟨dd, h2, h3⟩ := hr.get h1
    exact rIxL_of (f.up _ _ hl) h1 (k _ _ G' f h3 (List.mem_of_getElem? h2))))
theorem or_ite {A B : Prop} {b : Bool} (h1 : b = true → A) (h2 : b = false → B) : if b = true then A else B := by
  cases b
  · exact iteF (h2 rfl)
  · exact iteT (h1 rfl)
theorem sql_same {K : PySem.W.Frag} {H H' : Hp} {a : Addr} {xs : List V} (s : Same H H') (h : SqL K H a xs) : SqL K H' a xs := by
  rcases h with h | h
  · refine .inl ?_
    rcases h with h | ⟨o, h⟩
    · exact .inl (s _ _ h)
    · exact .inr ⟨o, s _ _ h⟩
  · exact .inr h
theorem same_new {G G' : Hp} {a : Addr} (s : Same G G') (h : G a = none) : Same G (del G' a) := fun b o e => by
  rw [del_ne (ne_of_none e h)]
  exact s _ _ e
end Kx
set_option Elab.async false
set_option linter.all false
set_option maxRecDepth 100000
set_option maxHeartbeats 4000000
namespace Kx
open PySem PySem.Spec PyProof.Rows L2
/-! ### drawn tables are right -/
theorem all_below {m : Nat} : ∀ {r : List Nat}, (∀ k ∈ r, k < m) → (r.map fun k => PyData.int (k : Nat)).all (belowD m) = true
  | [], _ => rfl
  | k :: r, h => by
    rw [List.map_cons, List.all_cons, all_below fun x hx => h x (List.mem_cons_of_mem _ hx), Bool.and_true]
    have := h k (List.mem_cons_self ..)
    show (decide ((0 : Int) ≤ (k : Nat)) && decide (((k : Nat) : Int) < (m : Nat))) = true
    rw [decide_eq_true (by omega), decide_eq_true (by omega)]
    rfl
theorem rows_due {many most : Nat} {rows : List (List Nat)} (k : RowsOk many most rows) (hm : most ≤ 40) : readerDue many (rowsD rows) = none := by
  have hl := k.ne
  have hle := k.le
  unfold readerDue rowsD itemsD
  dsimp only
  rw [if_pos ⟨by rw [List.length_map]; omega, by rw [List.length_map]; omega⟩]
  refine firstBad_none fun j d hd => ?_
  rw [List.getElem?_map] at hd
  cases hr : rows[j]? with
  | none => rw [hr] at hd; cases hd
  | some r =>
    rw [hr] at hd
    cases hd
    obtain ⟨h1, h2⟩ := k.ok r (List.mem_of_getElem? hr)
    unfold moveD rowD itemsD
    dsimp only
    rw [List.length_map, List.length_map, h1, all_below h2]
    simp
theorem small_rows {many most : Nat} {rows : List (List Nat)} (k : RowsOk many most rows) (hm : most ≤ 40) (h8 : many ≤ 8) : smallR (rowsD rows) := by
  intro ds hds
  cases hds
  refine ⟨by rw [List.length_map]; have := k.le; omega, fun x hx es hes => ?_⟩
  obtain ⟨r, hr, rfl⟩ := List.mem_map.mp hx
  cases hes
  rw [List.length_map, (k.ok r hr).1]
  omega
/-- what a loop's product holds -/
theorem fullP_mem {n nr : Nat} {cs : List Nat} {t : Tri} (h : t ∈ fullP n nr cs) : t.1 < n ∧ t.2.1 ∈ cs ∧ t.2.2 < nr := by
  unfold fullP fullC fullQ at h
  simp only [List.mem_flatMap, List.mem_map, List.mem_range] at h
  obtain ⟨p, hp, c, hc, q, hq, rfl⟩ := h
  exact ⟨hp, hc, hq⟩
theorem tri_right {al : List Nat} {nl nr : Nat} {t : Tri} (h : t.1 < nl ∧ t.2.1 ∈ al ∧ t.2.2 < nr) : tripleD al nl nr (encTri t) = true := by
  unfold tripleD encTri itemsD
  dsimp only
  have e1 : belowD nl (.int (t.1 : Nat)) = true := by
    show (decide ((0 : Int) ≤ (t.1 : Nat)) && decide (((t.1 : Nat) : Int) < (nl : Nat))) = true
    rw [decide_eq_true (by omega), decide_eq_true (by omega)]
    rfl
  have e3 : belowD nr (.int (t.2.2 : Nat)) = true := by
    show (decide ((0 : Int) ≤ (t.2.2 : Nat)) && decide (((t.2.2 : Nat) : Int) < (nr : Nat))) = true
    rw [decide_eq_true (by omega), decide_eq_true (by omega)]
    rfl
  have e2 : letterL al (.str ⟨#[t.2.1]⟩) = true := decide_eq_true h.2.1
  rw [e1, e2, e3]
  rfl
end Kx
set_option Elab.async false
set_option linter.all false
set_option maxRecDepth 100000
set_option maxHeartbeats 4000000
namespace Kx
open PySem PySem.Spec PyProof.Rows L2
def ltT (s t : Tri) : Prop := s.1 < t.1 ∨ (s.1 = t.1 ∧ (s.2.1 < t.2.1 ∨ (s.2.1 = t.2.1 ∧ s.2.2 < t.2.2)))
theorem one_lt {c d : Nat} (h : c < d) : ([c] : List Nat) < [d] := List.Lex.rel h
theorem lt_tri {s t : Tri} (h : ltT s t) : PySem.W.dataLt (encTri s) (encTri t) = true := by
  unfold encTri
  rw [PySem.W.dataLt_tuple]
  have ai : ∀ i j : Int, PySem.W.alike (.int i) (.int j) = true := fun _ _ => rfl
  have as : ∀ i j : Str, PySem.W.alike (.str i) (.str j) = true := fun _ _ => rfl
  rcases h with h | ⟨h1, h | ⟨h2, h⟩⟩
  · rw [PySem.W.dataLt_all_no (ai _ _) (by simp [PyData.eqv]; omega), PySem.W.dataLt_int]
    exact decide_eq_true (by omega)
  · rw [PySem.W.dataLt_all_yes (ai _ _) (by simp [PyData.eqv]; omega), PySem.W.dataLt_all_no (as _ _) (by simp [PyData.eqv]; omega), PySem.W.dataLt_str]
    exact decide_eq_true (one_lt h)
  · rw [PySem.W.dataLt_all_yes (ai _ _) (by simp [PyData.eqv]; omega), PySem.W.dataLt_all_yes (as _ _) (by simp [PyData.eqv]; omega), PySem.W.dataLt_all_no (ai _ _) (by simp [PyData.eqv]; omega), PySem.W.dataLt_int]
    exact decide_eq_true (by omega)
theorem fullP_asc {n nr : Nat} {cs : List Nat} (h : cs.Pairwise (· < ·)) : (fullP n nr cs).Pairwise ltT := by
  unfold fullP
  rw [List.pairwise_flatMap]
  refine ⟨fun p hp => ?_, ?_⟩
  · unfold fullC
    rw [List.pairwise_flatMap]
    refine ⟨fun c hc => ?_, h.imp fun hcd x hx y hy => ?_⟩
    · unfold fullQ
      rw [List.pairwise_map]
      exact List.pairwise_lt_range.imp fun hq => .inr ⟨rfl, .inr ⟨rfl, hq⟩⟩
    · unfold fullQ at hx hy
      obtain ⟨q, _, rfl⟩ := List.mem_map.mp hx
      obtain ⟨q', _, rfl⟩ := List.mem_map.mp hy
      exact .inr ⟨rfl, .inl hcd⟩
  · refine List.pairwise_lt_range.imp fun hpp x hx y hy => ?_
    unfold fullC fullQ at hx hy
    simp only [List.mem_flatMap, List.mem_map] at hx hy
    obtain ⟨c, _, q, _, rfl⟩ := hx
    obtain ⟨c', _, q', _, rfl⟩ := hy
    exact .inl hpp
theorem tup_tri (t : Tri) : tupOf (encTri t) = encTri t := rfl
theorem go_ok {al : List Nat} {nl nr : Nat} : ∀ {trs : List Tri} {prev : Option PyData} {k : Int}, (∀ t ∈ trs, tripleD al nl nr (encTri t) = true) → trs.Pairwise ltT → (∀ p, prev = some p → ∃ s, p = encTri s ∧ ∀ t ∈ trs, ltT s t) →
    goMarked al nl nr prev (trs.map encTri) k = none
  | [], _, _, _, _, _ => rfl
  | t :: trs, prev, k, h1, h2, h3 => by
    rw [List.map_cons, goMarked_cons, if_pos (h1 t (List.mem_cons_self ..))]
    have hp : (prev.all fun p => PySem.W.dataLt p (tupOf (encTri t))) = true := by
      cases prev with
      | none => rfl
      | some p =>
        obtain ⟨s, rfl, hs⟩ := h3 p rfl
        exact lt_tri (hs t (List.mem_cons_self ..))
    rw [if_pos hp]
    obtain ⟨h4, h5⟩ := List.pairwise_cons.mp h2
    exact go_ok (fun u hu => h1 u (List.mem_cons_of_mem _ hu)) h5 fun p hp => by
      cases hp
      exact ⟨t, rfl, h4⟩
theorem pairDue_ok {z : Str} {l r m : PyData} (hb : alphaD (.str z) = true) : pairDue (.str z) l r m = (match readerDue z.length l with
    | some k => .left k
    | none => match readerDue z.length r with
      | some k => .right k
      | none => match markedDue z.cps.toList (lenD l) (lenD r) m with
        | some k => .marked k
        | none => .ok) := by
  unfold pairDue
  rw [if_pos hb]
  rfl
theorem marked_due {al : List Nat} {nl nr : Nat} {trs : List Tri} (ha : al.Pairwise (· < ·)) (hs : trs.Sublist (fullP nl nr al)) : markedDue al nl nr (.list (trs.map encTri)) = none := by
  unfold markedDue itemsD
  exact go_ok (fun t ht => tri_right (fullP_mem (hs.subset ht))) ((fullP_asc ha).sublist hs) (fun p hp => by cases hp)
/-- the drawn tables make a pair -/
theorem tabs_due {al : Str} {most : Nat} {ls rs : List (List Nat)} {trs : List Tri} (hal : alphaD (.str al) = true) (k : TabsOk al most ls rs trs) (hm : most ≤ 40) : pairDue (.str al) (rowsD ls) (rowsD rs) (.list (trs.map encTri)) = .ok := by
  rw [pairDue_ok hal, rows_due k.l hm, rows_due k.r hm]
  have ha : ascL al.cps.toList = true := by
    have h1 : alphaL al.cps.toList = true := hal
    unfold alphaL at h1
    rw [Bool.and_eq_true, Bool.and_eq_true] at h1
    exact h1.2.2
  have e1 : lenD (rowsD ls) = ls.length := by unfold lenD rowsD itemsD; simp
  have e2 : lenD (rowsD rs) = rs.length := by unfold lenD rowsD itemsD; simp
  dsimp only
  rw [e1, e2, marked_due (asc_pair ha) k.sub]
end Kx
set_option Elab.async false
set_option linter.all false
set_option maxRecDepth 100000
set_option maxHeartbeats 4000000
namespace Kx
open PySem PySem.Spec PyProof.Rows L2
theorem menu_right : ∀ z ∈ menuA, alphaD (.str z) = true := by
  have h : (menuA.all fun z => alphaD (.str z)) = true := by decide +kernel
  exact fun z hz => List.all_eq_true.mp h z hz
theorem menu_len : ∀ z ∈ menuA, 1 ≤ z.length ∧ z.length ≤ 8 := by
  have h : (menuA.all fun z => decide (1 ≤ z.length ∧ z.length ≤ 8)) = true := by decide +kernel
  exact fun z hz => of_decide_eq_true (List.all_eq_true.mp h z hz)
theorem moveT_row (r : List Nat) : moveT (rowD r) = r := by
  unfold moveT rowD itemsD
  rw [Option.getD_some, List.map_map]
  have : (natD ∘ fun k : Nat => PyData.int (k : Nat)) = id := funext fun k => Int.toNat_natCast k
  rw [this, List.map_id]
theorem tabD_rows (rows : List (List Nat)) : tabD (rowsD rows) = rows := by
  unfold tabD rowsD itemsD
  rw [Option.getD_some, List.map_map]
  have : (moveT ∘ rowD) = id := funext moveT_row
  rw [this, List.map_id]
theorem triD_tri (t : Tri) : triD (encTri t) = t := by
  unfold triD encTri itemsD
  show ((t.1 : Int).toNat, t.2.1, (t.2.2 : Int).toNat) = t
  rw [Int.toNat_natCast, Int.toNat_natCast]
theorem trisD_tris (trs : List Tri) : trisD (.list (trs.map encTri)) = trs := by
  unfold trisD itemsD
  rw [Option.getD_some, List.map_map]
  have : (triD ∘ encTri) = id := funext triD_tri
  rw [this, List.map_id]
/-- the pair that drawn tables make -/
theorem pairD_tabs (al : Str) (ls rs : List (List Nat)) (trs : List Tri) : pairD (.str al) (rowsD ls) (rowsD rs) (.list (trs.map encTri)) = ⟨al, ixF al, ls, rs, trs⟩ := by
  unfold pairD
  rw [tabD_rows, tabD_rows, trisD_tris]
  rfl
theorem small_tris (trs : List Tri) (h : trs.length ≤ 12800) : smallM (.list (trs.map encTri)) := by
  intro ds hds
  cases hds
  refine ⟨by rw [List.length_map]; omega, fun x hx es hes => ?_⟩
  obtain ⟨t, ht, rfl⟩ := List.mem_map.mp hx
  cases hes
  refine ⟨by simp, fun y hy z hz => ?_⟩
  simp only [List.mem_cons, List.not_mem_nil, or_false] at hy
  rcases hy with rfl | rfl | rfl
  · cases hz
  · cases hz
    show 1 ≤ 100000
    decide
  · cases hz
/-- all that is asked of what is passed to a making -/
theorem small_tabs {al : Str} {most : Nat} {ls rs : List (List Nat)} {trs : List Tri} (h8 : al.length ≤ 8) (k : TabsOk al most ls rs trs) (hm : most ≤ 40) : smallA (.str al) (rowsD ls) (rowsD rs) (.list (trs.map encTri)) :=
  ⟨fun z hz => by cases hz; omega, small_rows k.l hm h8, small_rows k.r hm h8, small_tris trs k.le⟩
end Kx
set_option Elab.async false
set_option linter.all false
set_option maxRecDepth 100000
set_option maxHeartbeats 4000000
namespace Kx
open PySem PySem.Spec PyProof.Rows L2
section
variable {X : Cx}
/-- what no run reaches -/
theorem ps_never {st : Stmt} : PS X st (fun _ _ _ => False) := ⟨fun _ _ _ _ _ _ h => h.elim⟩
theorem pe_never {e : Expr} : PE X e (fun _ _ _ => False) := ⟨fun _ _ _ _ _ _ h => h.elim⟩
end
theorem chain_of {r r' : R2} {ta tb tc : TE} {σ : L2.St} {H : Hp} {Q : VK} (h : ta σ H fun x H1 => tb σ H1 fun y H2 => r x y H2 fun z H3 => ∃ k, z = .bl k ∧ (if k = true then tc σ H3 fun w' H4 => r' y w' H4 Q else Q (.bl false) H3)) : tChain r r' ta tb tc σ H Q := h
theorem test_any {t : TE} {σ : L2.St} {H : Hp} {R : Bool → Hp → Prop} (h : t σ H fun v H1 => ∃ k, v = .bl k ∧ R k H1) : tTest t σ H R := h
def rInS : R2 := fun x y H Q => ∃ (c : Nat) (z : Str), x = .str ⟨#[c]⟩ ∧ y = .str z ∧ Q (.bl (decide (c ∈ z.cps.toList))) H
theorem op_inS {X : Cx} : OpR X (compareOp .In) rInS := op_in_sign
def azS : Str := "abcdefghijklmnopqrstuvwxyz"
structure NameOk (z : Str) : Prop where
  lo : 1 ≤ z.length
  hi : z.length ≤ 8
  az : ∀ c ∈ z.cps.toList, c ∈ azS.cps.toList
section
variable {P : Program} {w : World} {K : PySem.W.Frag} {mg : Str → Option Value} {base : Heap}
def sp_is_name : Sp := fun vs H Q _ => ∃ z : Str, vs = [.str z] ∧ NameOk z ∧ ∀ H', Same H H' → Q (.bl true) H'
theorem ok_is_name (T : Txt K mg) : Cal P w K mg base CX0 1 "is_name" ["thing"] sp_is_name := by
  obtain ⟨fd, F⟩ := F_is_name T
  obtain ⟨t_MOST_NAME, h_MOST_NAME⟩ := T.i_MOST_NAME
  obtain ⟨t_NAME_LETTERS, h_NAME_LETTERS⟩ := T.s_NAME_LETTERS
  refine cal_mk F (g_is_name T) sc_is_name (fun _ _ _ _ _ _ us hl => match us, hl with | [_], _ => rfl) (fun vs H Q E h => ?_) (fun cdv A outer s H vs Q E hr h => ?_)
  · obtain ⟨z, rfl, _⟩ := h; rfl
  · refine ⟨_, PSs.nox (pss_cons (ps_if (PW.pt (pw_or (pt_not (pt_val (pe_callB call_isB (by rfl) (fr_isinstance T) b_isinstance (pa_cons (pv 0) (pa_cons (pe_ty (fr_str T) b_str) pa_nil))))) (pw_or1 (pt_not (pt_chain op_le op_le pe_int (pe_callB call_len (by rfl) (fr_len T) boot_len (pa_cons (pv 0) pa_nil)) (pe_glob (v := .int 8) (by rfl) h_MOST_NAME ⟨t_MOST_NAME, rfl⟩)))))) (pss_one (ps_ret pe_bl)) pss_nil)
        (pss_one (ps_ret (pe_callB (cr_all rfl) (by rfl) (fr_all T) b_all (pa_cons (pe_lc (te := tOp rInS (tVar 1) (tC (.str "abcdefghijklmnopqrstuvwxyz"))) (own := [("letter", 1)]) (g := (gName 1)) (tt := tYes) rfl sc_is_name.nd  (pi_str (pv 0)) (blkOk_by (N := N_is_name) (sc := defScope s_is_name) (by decide +kernel)) (fun _ _ _ _ _ => (pg_name (i := 1) sc_is_name.nd rfl (Or.inl rfl))) (fun _ _ _ _ _ => pts_nil) (fun _ _ _ _ _ => by refine pe_cmpR (r := rInS) ?_ (pv 1) (pe_glob (v := .str "abcdefghijklmnopqrstuvwxyz") (by rfl) h_NAME_LETTERS ⟨t_NAME_LETTERS, rfl⟩) rfl; exact op_inS)) pa_nil))))), ?_⟩
    obtain ⟨z, rfl, hn, q⟩ := h
    have hlo := hn.lo
    have hhi := hn.hi
    refine seq_if (show tOr _ _ _ _ _ from test_not (test_val ⟨.str z, rfl, .str z, "str", kd (.str z), rfl, (Rp.str z).ko, k_str _, _, rfl, iteF (test_not (test_any (chain_of (c_of (lenS rfl (by omega) ⟨_, _, rfl, rfl, _, rfl, or_ite (fun _ => c_of ⟨_, _, rfl, rfl, _, rfl, ?_⟩) fun h => absurd (of_decide_eq_false h) (fun k => k (by omega))⟩)))))⟩))
    rw [decide_eq_true (by omega : (z.length : Int) ≤ 8)]
    refine iteF (go_next ?_)
    dsimp only
    refine ret_te (cb_of (args_of ⟨.str z, rfl, z, rfl, fun D hD => ?_⟩))
    refine lc_it walk_str (fun i G => Same H G ∧ G D = some (.lst (List.replicate i (V.bl true)))) ⟨same_upd hD, upd_same⟩ (fun _ _ _ _ => trivial) ?_ ?_
    · rintro i x G G' hi ⟨s, hG⟩ ⟨eH, c, hc, rfl⟩
      replace eH := eH.symm
      subst eH
      have hm : c ∈ azS.cps.toList := hn.az c (List.mem_of_getElem? (by rw [Array.getElem?_toList]; exact hc))
      have hi8 : i < 8 := by have : i < z.length := hi; omega
      refine ⟨rfl, .str ⟨#[c]⟩, rfl, c, azS, rfl, rfl, _, hG, ?_, same_over s hD, ?_⟩
      · rw [List.length_replicate]
        exact Nat.lt_of_lt_of_le hi8 (by decide)
      · rw [upd_same, decide_eq_true hm, List.replicate_succ']
    rintro G ⟨s, hG⟩
    have e : ∀ n, (List.replicate n (V.bl true)) = (List.replicate n true).map V.bl := fun n => (List.map_replicate ..).symm
    refine args_end ⟨D, List.replicate z.cps.size true, rfl, SqL.of (by rw [hG, e]), ?_⟩
    rw [show (List.replicate z.cps.size true).all id = true from List.all_eq_true.mpr fun x hx => (List.mem_replicate.mp hx).2]
    exact q G s
def sp_check_letter (K : PySem.W.Frag) : Sp := fun vs H Q E => ∃ (al : Str) (v : V) (d : PyData), vs = [.str al, v] ∧ Rp H v d ∧ smallT d ∧ (letterL al.cps.toList d = false → errAt (He.ga K "BadLetter") "thing" v H E) ∧ (letterL al.cps.toList d = true → Q .non H)
theorem ok_check_letter (T : Txt K mg) : Cal P w K mg base (L2N.CX P w) 3 "check_letter" ["alphabet", "thing"] (sp_check_letter K) := by
  obtain ⟨fd, F⟩ := F_check_letter T
  obtain ⟨fdR, FR⟩ := F_BadLetter___init__ T
  have bR : Binds K fdR ["self", "thing"] [] := FR.bindsN fun _ _ _ _ _ _ us hl => match us, hl with | [_, _], _ => rfl
  have ex : Ex K "BadLetter" ["thing"] := ex_of T 4
  refine cal_mk F (g_check_letter T) sc_check_letter (fun _ _ _ _ _ _ us hl => match us, hl with | [_, _], _ => rfl) (fun vs H Q E h => ?_) (fun cdv A outer s H vs Q E hr h => ?_)
  · obtain ⟨al, v, d, rfl, _⟩ := h; rfl
  · refine ⟨_, pss_one (ps_if (pt_not (pt_val (pe_cal (ok_is_letter T) (hr.mono (by decide)) pass0 (pa_cons (pv 0) (pa_cons (pv 1) pa_nil)))))
      (pss_one (ps_raise1 ex (f := "thing") (by decide) rfl (ini_thing FR) bR hr (L2N.takes_of rfl rfl rfl rfl) (g_BadLetter T) (pa_cons (pv 1) pa_nil))) pss_nil), ?_⟩
    obtain ⟨al, v, d, rfl, rd, sm, kE, kQ⟩ := h
    refine ⟨.str al, rfl, v, rfl, al, v, d, rfl, rd, sm, _, rfl, ?_⟩
    cases hb : letterL al.cps.toList d with
    | false => exact iteT ⟨v, rfl, v, rfl, fun dx hd => kE hb H (Same.refl H) dx hd⟩
    | true => exact iteF (kQ hb)
end
end Kx
set_option Elab.async false
set_option linter.all false
set_option maxRecDepth 100000
set_option maxHeartbeats 4000000
namespace Kx
open PySem PySem.Spec PyProof.Rows L2
/-! ### deeds as the log tells them -/
inductive Dd
  | put (k c : Nat)
  | take (k c : Nat)
  | change (k c d : Nat)
  | become (y z : Str)
def Dd.vs : Dd → List V
  | .put k c => [.str "put", .int (k : Nat), .str ⟨#[c]⟩]
  | .take k c => [.str "take", .int (k : Nat), .str ⟨#[c]⟩]
  | .change k c d => [.str "change", .int (k : Nat), .str ⟨#[c]⟩, .str ⟨#[d]⟩]
  | .become y z => [.str "become", .str y, .str z]
def Dd.d : Dd → PyData
  | .put k c => .tuple [.str "put", .int (k : Nat), .str ⟨#[c]⟩]
  | .take k c => .tuple [.str "take", .int (k : Nat), .str ⟨#[c]⟩]
  | .change k c d => .tuple [.str "change", .int (k : Nat), .str ⟨#[c]⟩, .str ⟨#[d]⟩]
  | .become y z => .tuple [.str "become", .str y, .str z]
theorem Dd.rt {H : Hp} {a : Addr} (d : Dd) (h : H a = some (.tup d.vs)) : Rt H (.ref a) d.d := by
  cases d with
  | put k c => exact .tup h (.cons (.str _) (.cons (.int _) (.cons (.str _) .nil)))
  | take k c => exact .tup h (.cons (.str _) (.cons (.int _) (.cons (.str _) .nil)))
  | change k c d => exact .tup h (.cons (.str _) (.cons (.int _) (.cons (.str _) (.cons (.str _) .nil))))
  | become y z => exact .tup h (.cons (.str _) (.cons (.str _) (.cons (.str _) .nil)))
/-- what a deed makes of a row -/
def Dd.row : Dd → List Nat → List Nat
  | .put k c, l => l.take k ++ c :: l.drop k
  | .take k _, l => l.take k ++ l.drop (k + 1)
  | .change k _ d, l => l.take k ++ d :: l.drop (k + 1)
  | .become _ z, _ => z.cps.toList
/-- a deed that fits a row -/
def Dd.ok : Dd → Str → Prop
  | .put k _, y => k ≤ y.length
  | .take k _, y => k < y.length
  | .change k _ _, y => k < y.length
  | .become _ _, _ => True
theorem cut_take {z : Str} {k : Nat} : (cutS z none (some ((k : Nat) : Int))).cps.toList = z.cps.toList.take k := by
  have lz : z.cps.toList.length = z.length := Array.length_toList
  show ((z.cps.toList.drop (HT.sIx z.length 0 none)).take (HT.sIx z.length z.length (some ((k : Nat) : Int)) - HT.sIx z.length 0 none)) = _
  rw [HT.sIx_nat]
  show (z.cps.toList.drop 0).take (_ - 0) = _
  rw [List.drop_zero, Nat.sub_zero]
  by_cases h : k ≤ z.length
  · rw [Nat.min_eq_left h]
  · rw [Nat.min_eq_right (by omega), List.take_of_length_le (by omega), List.take_of_length_le (by omega)]
theorem cut_drop {z : Str} {k : Nat} : (cutS z (some ((k : Nat) : Int)) none).cps.toList = z.cps.toList.drop k := by
  have lz : z.cps.toList.length = z.length := Array.length_toList
  show ((z.cps.toList.drop (HT.sIx z.length 0 (some ((k : Nat) : Int)))).take (HT.sIx z.length z.length none - HT.sIx z.length 0 (some ((k : Nat) : Int)))) = _
  rw [HT.sIx_nat]
  show (z.cps.toList.drop _).take (z.length - _) = _
  by_cases h : k ≤ z.length
  · rw [Nat.min_eq_left h, List.take_of_length_le (by rw [List.length_drop]; omega)]
  · rw [Nat.min_eq_right (by omega), List.drop_of_length_le (by omega), List.drop_of_length_le (by omega), List.take_nil]
theorem len_take {z : Str} {k : Nat} : (cutS z none (some ((k : Nat) : Int))).length ≤ z.length := by
  have h := congrArg List.length (cut_take (z := z) (k := k))
  rw [List.length_take] at h
  have e : ∀ z : Str, z.cps.toList.length = z.length := fun z => Array.length_toList
  rw [e, e] at h
  omega
theorem len_drop {z : Str} {k : Nat} : (cutS z (some ((k : Nat) : Int)) none).length ≤ z.length := by
  have h := congrArg List.length (cut_drop (z := z) (k := k))
  rw [List.length_drop] at h
  have e : ∀ z : Str, z.cps.toList.length = z.length := fun z => Array.length_toList
  rw [e, e] at h
  omega
theorem len_one (c : Nat) : (⟨#[c]⟩ : Str).length = 1 := rfl
theorem str_of {y z : Str} (h : y.cps.toList = z.cps.toList) : y = z := by
  cases y with
  | mk a => cases z with
    | mk b => exact congrArg Str.mk (Array.toList_inj.mp h)
section
variable {P : Program} {w : World} {K : PySem.W.Frag} {mg : Str → Option Value} {base : Heap}
/-- y[:k] -/
theorem sl_take {K : PySem.W.Frag} {σ : L2.St} {G : Hp} {i : Nat} {y : Str} {k : Nat} {te : TE} {Q : VK} (e : σ[i]? = some (some (.str y))) (hy : y.length ≤ 1000) (ht : ∀ Q' : VK, Q' (.int (k : Nat)) G → te σ G Q') (q : Q (.str (cutS y none (some ((k : Nat) : Int)))) G) : tSl rSlS (tVar i) tNoPart (tPart te) σ G Q :=
  sl_of (var_of e (nopart_of (part_of (ht _ ⟨_, rfl, y, rfl, Nat.le_trans hy (by decide), q⟩))))
theorem sl_drop {K : PySem.W.Frag} {σ : L2.St} {G : Hp} {i : Nat} {y : Str} {k : Nat} {te : TE} {Q : VK} (e : σ[i]? = some (some (.str y))) (hy : y.length ≤ 1000) (ht : ∀ Q' : VK, Q' (.int (k : Nat)) G → te σ G Q') (q : Q (.str (cutS y (some ((k : Nat) : Int)) none)) G) : tSl rSlS (tVar i) (tPart te) tNoPart σ G Q :=
  sl_of (var_of e (part_of (ht _ ⟨_, rfl, nopart_of ⟨y, rfl, Nat.le_trans hy (by decide), q⟩⟩)))
/-- word == "..", for texts that are known -/
theorem word_is {σ : L2.St} {G : Hp} {i : Nat} {x y : Str} {R : Bool → Hp → Prop} (e : σ[i]? = some (some (.str x))) (q : R (decide (x = y)) G) : tTest (tOp rEq (tVar i) (tC (.str y))) σ G R :=
  test_op (var_of e (c_of ⟨rfl, _, rfl, by rw [dec_str]; exact q⟩))
def sp_row_behind : Sp := fun vs H Q _ => ∃ (y : Str) (a : Addr) (d : Dd), vs = [.str y, .ref a] ∧ H a = some (.tup d.vs) ∧ y.length ≤ 500 ∧ ∀ z, z.cps.toList = d.row y.cps.toList → Q (.str z) H
theorem ok_row_behind (T : Txt K mg) : Cal P w K mg base CX0 1 "row_behind" ["row", "deed"] sp_row_behind := by
  obtain ⟨fd, F⟩ := F_row_behind T
  refine cal_mk F (g_row_behind T) sc_row_behind (fun _ _ _ _ _ _ us hl => match us, hl with | [_, _], _ => rfl) (fun vs H Q E h => ?_) (fun cdv A outer s H vs Q E hr h => ?_)
  · obtain ⟨y, a, d, rfl, _⟩ := h; rfl
  · refine ⟨_, PSs.nox (pss_cons (ps_set (i := 2) sc_row_behind.nd rfl (Or.inl rfl) (pe_ix ix_tup (pv 1) pe_int (fun _ _ => rfl)))
        (pss_cons (ps_if (pt_cmpR op_eq (pv 2) pe_str (nomark _)) (pss_one (ps_ret (pe_op op_add_str (pe_op op_add_str (pe_slice sl_str (pv 0) po_none (po_some (pe_ix ix_tup (pv 1) pe_int (fun _ _ => rfl)))) (pe_ix ix_tup (pv 1) pe_int (fun _ _ => rfl))) (pe_slice sl_str (pv 0) (po_some (pe_ix ix_tup (pv 1) pe_int (fun _ _ => rfl))) po_none)))) pss_nil)
        (pss_cons (ps_if (pt_cmpR op_eq (pv 2) pe_str (nomark _)) (pss_one (ps_ret (pe_op op_add_str (pe_slice sl_str (pv 0) po_none (po_some (pe_ix ix_tup (pv 1) pe_int (fun _ _ => rfl)))) (pe_slice sl_str (pv 0) (po_some (pe_op op_add (pe_ix ix_tup (pv 1) pe_int (fun _ _ => rfl)) pe_int)) po_none)))) pss_nil)
        (pss_cons (ps_if (pt_cmpR op_eq (pv 2) pe_str (nomark _)) (pss_one (ps_ret (pe_op op_add_str (pe_op op_add_str (pe_slice sl_str (pv 0) po_none (po_some (pe_ix ix_tup (pv 1) pe_int (fun _ _ => rfl)))) (pe_ix ix_tup (pv 1) pe_int (fun _ _ => rfl))) (pe_slice sl_str (pv 0) (po_some (pe_op op_add (pe_ix ix_tup (pv 1) pe_int (fun _ _ => rfl)) pe_int)) po_none)))) pss_nil)
        (pss_one (ps_ret (pe_ix ix_tup (pv 1) pe_int (fun _ _ => rfl)))))))), ?_⟩
    obtain ⟨y, a, d, rfl, hd, hy, q⟩ := h
    have b3 : ∀ {k : Nat} {c j : Nat}, (cutS y none (some ((k : Nat) : Int))).length + (⟨#[c]⟩ : Str).length ≤ sizeLine ∧ (cutS y none (some ((k : Nat) : Int)) ++ (⟨#[c]⟩ : Str)).length + (cutS y (some ((j : Nat) : Int)) none).length ≤ sizeLine ∧ (cutS y none (some ((k : Nat) : Int))).length + (cutS y (some ((j : Nat) : Int)) none).length ≤ sizeLine := fun {k c j} => by
      have h1 := len_take (z := y) (k := k)
      have h2 := len_drop (z := y) (k := j)
      rw [len_app, len_one]
      exact ⟨Nat.le_trans (by omega : _ ≤ 2000) (by decide), Nat.le_trans (by omega : _ ≤ 2000) (by decide), Nat.le_trans (by omega : _ ≤ 2000) (by decide)⟩
    cases d with
    | put k c =>
      refine asg_set (ixP0 rfl hd ?_)
      rintro σ1 rfl
      refine seq_if (word_is rfl ?_)
      rw [decide_eq_true rfl]
      refine iteT (ret_te (op_of (op_of (sl_take (K := K) rfl (by omega) (fun Q' k' => ixP1 rfl hd k') (ixP (j := 2) rfl hd rfl ⟨_, _, rfl, rfl, (b3 (j := k)).1, sl_drop (K := K) rfl (by omega) (fun Q' k' => ixP1 rfl hd k') ⟨_, _, rfl, rfl, b3.2.1, ?_⟩⟩)))))
      refine q _ ?_
      rw [cps_app, cps_app, cut_take, cut_drop, List.append_assoc]
      rfl
    | take k c =>
      refine asg_set (ixP0 rfl hd ?_)
      rintro σ1 rfl
      refine seq_if (word_is rfl ?_)
      rw [decide_eq_false (by decide +kernel)]
      refine iteF (go_next ?_)
      dsimp only
      refine seq_if (word_is rfl ?_)
      rw [decide_eq_true rfl]
      refine iteT (ret_te (op_of (sl_take (K := K) rfl (by omega) (fun Q' k' => ixP1 rfl hd k') (sl_drop (K := K) (k := k + 1) rfl (by omega) (fun Q' k' => op_of (ixP1 rfl hd ⟨_, 1, rfl, rfl, k'⟩)) ⟨_, _, rfl, rfl, (b3 (c := 0)).2.2, ?_⟩))))
      refine q _ ?_
      rw [cps_app, cut_take, cut_drop]
      rfl
    | change k c e =>
      refine asg_set (ixP0 rfl hd ?_)
      rintro σ1 rfl
      refine seq_if (word_is rfl ?_)
      rw [decide_eq_false (by decide +kernel)]
      refine iteF (go_next ?_)
      dsimp only
      refine seq_if (word_is rfl ?_)
      rw [decide_eq_false (by decide +kernel)]
      refine iteF (go_next ?_)
      dsimp only
      refine seq_if (word_is rfl ?_)
      rw [decide_eq_true rfl]
      refine iteT (ret_te (op_of (op_of (sl_take (K := K) rfl (by omega) (fun Q' k' => ixP1 rfl hd k') (ixP (j := 3) rfl hd rfl ⟨_, _, rfl, rfl, (b3 (j := k)).1, sl_drop (K := K) (k := k + 1) rfl (by omega) (fun Q' k' => op_of (ixP1 rfl hd ⟨_, 1, rfl, rfl, k'⟩)) ⟨_, _, rfl, rfl, b3.2.1, ?_⟩⟩)))))
      refine q _ ?_
      rw [cps_app, cps_app, cut_take, cut_drop, List.append_assoc]
      rfl
    | become y0 z0 =>
      refine asg_set (ixP0 rfl hd ?_)
      rintro σ1 rfl
      refine seq_if (word_is rfl ?_)
      rw [decide_eq_false (by decide +kernel)]
      refine iteF (go_next ?_)
      dsimp only
      refine seq_if (word_is rfl ?_)
      rw [decide_eq_false (by decide +kernel)]
      refine iteF (go_next ?_)
      dsimp only
      refine seq_if (word_is rfl ?_)
      rw [decide_eq_false (by decide +kernel)]
      refine iteF (go_next ?_)
      dsimp only
      exact ret_te (ixP (j := 2) rfl hd rfl (q z0 rfl))
end
end Kx
set_option Elab.async false
set_option linter.all false
set_option maxRecDepth 100000
set_option maxHeartbeats 4000000
namespace Kx
open PySem PySem.Spec PyProof.Rows L2
theorem wipe1 (σ : L2.St) (j : Nat) (x : Option V) : wipe ((wipe σ [j]).set j x) [j] = wipe σ [j] := by
  show ((σ.set j none).set j x).set j none = σ.set j none
  rw [List.set_set, List.set_set]
def PairsAt (H : Hp) (l : Addr) (ps : List (Nat × Nat)) : Prop := ∃ bs : List Addr, H l = some (.lst (bs.map V.ref)) ∧ bs.length = ps.length ∧ ∀ (i : Nat) b p, bs[i]? = some b → ps[i]? = some p → H b = some (.tup [.int (p.1 : Nat), .int (p.2 : Nat)])
theorem PairsAt.same {H H' : Hp} {l : Addr} {ps : List (Nat × Nat)} (h : PairsAt H l ps) (s : Same H H') : PairsAt H' l ps := by
  obtain ⟨bs, h1, h2, h3⟩ := h
  exact ⟨bs, s _ _ h1, h2, fun i b p e1 e2 => s _ _ (h3 i b p e1 e2)⟩
theorem PairsAt.push {H : Hp} {l t : Addr} {ps : List (Nat × Nat)} {p : Nat × Nat} (h : PairsAt H l ps) (ht : H t = some (.tup [.int (p.1 : Nat), .int (p.2 : Nat)])) : ∃ xs, H l = some (.lst xs) ∧ xs.length = ps.length ∧ PairsAt (upd H l (.lst (xs ++ [.ref t]))) l (ps ++ [p]) := by
  obtain ⟨bs, h1, h2, h3⟩ := h
  have hne : ∀ {b : Addr} {ys : List V}, H b = some (.tup ys) → b ≠ l := fun {b ys} e z => by rw [z, h1] at e; cases e
  refine ⟨_, h1, by rw [List.length_map, h2], bs ++ [t], by rw [upd_same, List.map_append]; rfl, by rw [List.length_append, List.length_append, h2]; rfl, fun i b q e1 e2 => ?_⟩
  by_cases hi : i < ps.length
  · rw [List.getElem?_append_left (by omega)] at e1
    rw [List.getElem?_append_left hi] at e2
    have h4 := h3 i b q e1 e2
    rw [upd_ne (hne h4)]
    exact h4
  · have hi2 : i = ps.length := by
      have := (List.getElem?_eq_some_iff.mp e1).1
      rw [List.length_append] at this
      have : ([t] : List Addr).length = 1 := rfl
      omega
    subst hi2
    rw [List.getElem?_append_right (by omega), h2, Nat.sub_self] at e1
    rw [List.getElem?_append_right (Nat.le_refl _), Nat.sub_self] at e2
    cases e1
    cases e2
    rw [upd_ne (hne ht)]
    exact ht
theorem PairsAt.nil {H : Hp} {D : Addr} : PairsAt (upd H D (.lst [])) D [] := ⟨[], upd_same, rfl, fun i b p e => by simp at e⟩
/-- the places whose letters stay -/
def Dd.kept : Dd → Nat → List (Nat × Nat)
  | .put k _, n => (List.range n).map fun p => (p, p + if k ≤ p then 1 else 0)
  | .take k _, n => ((List.range n).filter fun p => !decide (p = k)).map fun p => (p, p - if k < p then 1 else 0)
  | .change _ _ _, n => (List.range n).map fun p => (p, p)
  | .become _ _, _ => []
/-- [.. for place in range(length) if ..], a pair each -/
theorem lc_places {σ : L2.St} {tt : TT} {te : TE} {n : Nat} {H : Hp} {Q : VK} {f : Nat → Nat × Nat} {b : Nat → Bool} (hn : n ≤ 1000) (h1 : σ[1]? = some (some (.int (n : Nat))))
    (he : ∀ (i : Nat) (G : Hp) (Q' : VK) (Nx : Hp → Prop), i < n → Same H G → (b i = true → ∀ t, G t = none → Q' (.ref t) (upd G t (.tup [.int ((f i).1 : Nat), .int ((f i).2 : Nat)]))) → (b i = false → Nx G) → tt ((wipe σ [3]).set 3 (some (.int (i : Nat)))) G fun k H3 => if k = true then te ((wipe σ [3]).set 3 (some (.int (i : Nat)))) H3 Q' else Nx H3)
    (q : ∀ (G : Hp) (D : Addr), H D = none → Same H G → PairsAt G D (((List.range n).filter b).map f) → Q (.ref D) G) : tLc (iRng1 (tCons (tVar 1) tNil)) (gName 3) tt te [3] σ H Q := by
  refine ⟨.int (n : Nat), h1, (n : Nat), rfl, (by omega), (by omega), fun D hD => ?_⟩
  refine lc_it (walk_range (n := n)) (fun i G => Same H G ∧ PairsAt G D (((List.range i).filter b).map f)) ⟨same_upd hD, PairsAt.nil⟩ (fun _ _ _ _ => trivial) ?_ ?_
  · rintro i x G G' hi ⟨s, hp⟩ ⟨eH, ex⟩
    replace eH := eH.symm
    subst eH
    have ex : x = V.int (i : Nat) := ex.trans (by show V.int (0 + _) = _; rw [Int.zero_add])
    subst ex
    refine ⟨wipe1 σ 3 _, he i G _ _ hi s (fun hb t ht => ?_) fun hb => ?_⟩
    · obtain ⟨xs, x1, x2, x3⟩ := (hp.same (same_upd (o := .tup [.int ((f i).1 : Nat), .int ((f i).2 : Nat)]) ht)).push (p := f i) upd_same
      refine ⟨xs, x1, ?_, same_over (s.trans (same_upd ht)) hD, ?_⟩
      · rw [x2, List.length_map]
        have := List.length_filter_le b (List.range i)
        rw [List.length_range] at this
        exact Nat.lt_of_le_of_lt (by have hi' : i < n := hi; omega : _ ≤ 1000) (by decide)
      · rw [List.range_succ, List.filter_append, List.map_append, show [i].filter b = [i] by rw [List.filter_cons, hb]; rfl]
        exact x3
    · rw [List.range_succ, List.filter_append, List.map_append, show [i].filter b = [] by rw [List.filter_cons, hb]; rfl, List.map_nil, List.append_nil]
      exact ⟨s, hp⟩
  · rintro G ⟨s, hp⟩
    exact q G D hD s hp
def rInt1 : List V → Hp → VK → Prop := fun xs H Q => (∃ i, xs = [.int i] ∧ Q (.int i) H) ∨ ∃ k, xs = [.bl k] ∧ Q (.int (if k then 1 else 0)) H
section
variable {P : Program} {w : World} {K : PySem.W.Frag} {mg : Str → Option Value} {base : Heap}
def sp_places_kept : Sp := fun vs H Q _ => ∃ (a : Addr) (n : Nat) (d : Dd), vs = [.ref a, .int (n : Nat)] ∧ H a = some (.tup d.vs) ∧ n ≤ 500 ∧ ∀ H' l, Same H H' → H l = none → PairsAt H' l (d.kept n) → Q (.ref l) H'
theorem ok_places_kept (T : Txt K mg) : Cal P w K mg base CX0 1 "places_kept" ["deed", "length"] sp_places_kept := by
  obtain ⟨fd, F⟩ := F_places_kept T
  refine cal_mk F (g_places_kept T) sc_places_kept (fun _ _ _ _ _ _ us hl => match us, hl with | [_, _], _ => rfl) (fun vs H Q E h => ?_) (fun cdv A outer s H vs Q E hr h => ?_)
  · obtain ⟨a, n, d, rfl, _⟩ := h; rfl
  · refine ⟨_, PSs.nox (pss_cons (ps_set (i := 2) sc_places_kept.nd rfl (Or.inl rfl) (pe_ix ix_tup (pv 0) pe_int (fun _ _ => rfl)))
        (pss_cons (ps_if (pt_cmpR op_eq (pv 2) pe_str (nomark _)) (pss_one (ps_ret (pe_lc (te := tTup (tCons (tVar 3) (tCons (tOp (rI0 fun i j => .int (i + j)) (tVar 3) (tCB rInt1 (tCons (tOp (rI0 fun i j => .bl (decide (i ≥ j))) (tVar 3) (tOp (rIxT K) (tVar 0) (tC (.int 1)))) tNil))) tNil))) (own := [("place", 3)]) (g := (gName 3)) (tt := tYes) rfl sc_places_kept.nd  (pi_range1 (by rfl) (fr_range T) (pa_cons (pv 1) pa_nil)) (blkOk_by (N := N_places_kept) (sc := defScope s_places_kept) (by decide +kernel)) (fun _ _ _ _ _ => (pg_name (i := 3) sc_places_kept.nd rfl (Or.inl rfl))) (fun _ _ _ _ _ => pts_nil) (fun _ _ _ _ _ => by refine pe_tup (pa_cons (pv 3) (pa_cons (pe_op (r := rI0 fun i j => .int (i + j)) ?_ (pv 3) (pe_callTy (r := rInt1) ?_ (by rfl) (fr_int T) b_int (pa_cons (pe_cmpR (r := rI0 fun i j => .bl (decide (i ≥ j))) ?_ (pv 3) (pe_ix (r := rIxT K) ?_ (pv 0) pe_int (fun _ _ => rfl)) (nomark _)) pa_nil))) pa_nil)); exact op_add; exact call_int1; exact op_ge; exact ix_tup)))) pss_nil)
        (pss_cons (ps_if (pt_cmpR op_eq (pv 2) pe_str (nomark _)) (pss_one (ps_ret (pe_lc (te := tTup (tCons (tVar 3) (tCons (tOp (rI0 fun i j => .int (i - j)) (tVar 3) (tCB rInt1 (tCons (tOp (rI0 fun i j => .bl (decide (i > j))) (tVar 3) (tOp (rIxT K) (tVar 0) (tC (.int 1)))) tNil))) tNil))) (own := [("place", 3)]) (g := (gName 3)) (tt := tTest (tOp rNe (tVar 3) (tOp (rIxT K) (tVar 0) (tC (.int 1))))) rfl sc_places_kept.nd  (pi_range1 (by rfl) (fr_range T) (pa_cons (pv 1) pa_nil)) (blkOk_by (N := N_places_kept) (sc := defScope s_places_kept) (by decide +kernel)) (fun _ _ _ _ _ => (pg_name (i := 3) sc_places_kept.nd rfl (Or.inl rfl))) (fun _ _ _ _ _ => by refine pts_one (pt_cmpR (r := rNe) ?_ (pv 3) (pe_ix (r := rIxT K) ?_ (pv 0) pe_int (fun _ _ => rfl)) (nomark _)); exact op_ne; exact ix_tup) (fun _ _ _ _ _ => by refine pe_tup (pa_cons (pv 3) (pa_cons (pe_op (r := rI0 fun i j => .int (i - j)) ?_ (pv 3) (pe_callTy (r := rInt1) ?_ (by rfl) (fr_int T) b_int (pa_cons (pe_cmpR (r := rI0 fun i j => .bl (decide (i > j))) ?_ (pv 3) (pe_ix (r := rIxT K) ?_ (pv 0) pe_int (fun _ _ => rfl)) (nomark _)) pa_nil))) pa_nil)); exact op_sub; exact call_int1; exact op_gt; exact ix_tup)))) pss_nil)
        (pss_one (ps_ret (pe_ifExp (pt_cmpR op_eq (pv 2) pe_str (nomark _)) (pe_lc (own := [("place", 3)]) (g := (gName 3)) (tt := tYes) rfl sc_places_kept.nd  (pi_range1 (by rfl) (fr_range T) (pa_cons (pv 1) pa_nil)) (blkOk_by (N := N_places_kept) (sc := defScope s_places_kept) (by decide +kernel)) (fun _ _ _ _ _ => (pg_name (i := 3) sc_places_kept.nd rfl (Or.inl rfl))) (fun _ _ _ _ _ => pts_nil) (fun _ _ _ _ _ => (pe_tup (pa_cons (pv 3) (pa_cons (pv 3) pa_nil))))) (pe_lst pa_nil))))))), ?_⟩
    obtain ⟨a, n, d, rfl, hd, hn, q⟩ := h
    cases d with
    | put k c =>
      refine asg_set (ixP0 rfl hd ?_)
      rintro σ1 rfl
      refine seq_if (word_is rfl ?_)
      rw [decide_eq_true rfl]
      refine iteT (ret_te (lc_places (b := fun _ => true) (f := fun p => (p, p + if k ≤ p then 1 else 0)) (by omega) rfl (fun i G Q' Nx hi s yes no => ⟨.int (i : Nat), rfl, ?_⟩) fun G D hD s hp => ?_))
      · refine op_of (var_of rfl (cb_of (args_of (op_of (var_of rfl (ixP1 rfl (s _ _ hd) ⟨_, _, rfl, rfl, args_end (.inr ⟨_, rfl, ⟨_, _, rfl, rfl, ?_⟩⟩)⟩))))))
        refine ⟨by show 2 ≤ sizeLine; decide, fun t ht => ?_⟩
        have e : ((i : Nat) : Int) + (if decide (((i : Nat) : Int) ≥ ((k : Nat) : Int)) = true then 1 else 0) = (((i + if k ≤ i then 1 else 0 : Nat)) : Int) := by
          by_cases h : k ≤ i
          · rw [if_pos h, if_pos (by rw [decide_eq_true_eq]; omega)]; omega
          · rw [if_neg h, if_neg (by rw [decide_eq_true_eq]; omega)]; omega
        show Q' (.ref t) (upd G t (.tup [.int (i : Nat), .int (((i : Nat) : Int) + (if decide (((i : Nat) : Int) ≥ ((k : Nat) : Int)) = true then 1 else 0))]))
        rw [e]
        exact yes rfl t ht
      · refine q G D s hD ?_
        rwa [List.filter_eq_self.mpr fun _ _ => rfl] at hp
    | take k c =>
      refine asg_set (ixP0 rfl hd ?_)
      rintro σ1 rfl
      refine seq_if (word_is rfl ?_)
      rw [decide_eq_false (by decide +kernel)]
      refine iteF (go_next ?_)
      dsimp only
      refine seq_if (word_is rfl ?_)
      rw [decide_eq_true rfl]
      refine iteT (ret_te (lc_places (b := fun p => !decide (p = k)) (f := fun p => (p, p - if k < p then 1 else 0)) (by omega) rfl (fun i G Q' Nx hi s yes no => ?_) fun G D hD s hp => q G D s hD hp))
      refine test_op (var_of rfl (ixP1 rfl (s _ _ hd) ⟨rfl, _, rfl, ?_⟩))
      have e0 : (!decide (V.int ((i : Nat) : Int) = V.int ((k : Nat) : Int))) = !decide (i = k) := by
        rw [dec_int]
        congr 1
        exact decide_eq_decide.mpr ⟨fun h => by omega, fun h => by rw [h]⟩
      rw [e0]
      refine or_ite (fun hb => ?_) (fun hb => no hb)
      refine ⟨.int (i : Nat), rfl, op_of (var_of rfl (cb_of (args_of (op_of (var_of rfl (ixP1 rfl (s _ _ hd) ⟨_, _, rfl, rfl, args_end (.inr ⟨_, rfl, ⟨_, _, rfl, rfl, ?_⟩⟩)⟩))))))⟩
      refine ⟨by show 2 ≤ sizeLine; decide, fun t ht => ?_⟩
      have e : ((i : Nat) : Int) - (if decide (((i : Nat) : Int) > ((k : Nat) : Int)) = true then 1 else 0) = (((i - if k < i then 1 else 0 : Nat)) : Int) := by
        by_cases h : k < i
        · rw [if_pos h, if_pos (by rw [decide_eq_true_eq]; omega)]; omega
        · rw [if_neg h, if_neg (by rw [decide_eq_true_eq]; omega)]; omega
      show Q' (.ref t) (upd G t (.tup [.int (i : Nat), .int (((i : Nat) : Int) - (if decide (((i : Nat) : Int) > ((k : Nat) : Int)) = true then 1 else 0))]))
      rw [e]
      exact yes hb t ht
    | change k c e =>
      refine asg_set (ixP0 rfl hd ?_)
      rintro σ1 rfl
      refine seq_if (word_is rfl ?_)
      rw [decide_eq_false (by decide +kernel)]
      refine iteF (go_next ?_)
      dsimp only
      refine seq_if (word_is rfl ?_)
      rw [decide_eq_false (by decide +kernel)]
      refine iteF (go_next ?_)
      dsimp only
      refine ret_te (if_e (word_is rfl ?_))
      rw [decide_eq_true rfl]
      refine iteT (lc_places (b := fun _ => true) (f := fun p => (p, p)) (by omega) rfl (fun i G Q' Nx hi s yes no => ⟨.int (i : Nat), rfl, .int (i : Nat), rfl, by show 2 ≤ sizeLine; decide, fun t ht => yes rfl t ht⟩) fun G D hD s hp => ?_)
      refine q G D s hD ?_
      rwa [List.filter_eq_self.mpr fun _ _ => rfl] at hp
    | become y0 z0 =>
      refine asg_set (ixP0 rfl hd ?_)
      rintro σ1 rfl
      refine seq_if (word_is rfl ?_)
      rw [decide_eq_false (by decide +kernel)]
      refine iteF (go_next ?_)
      dsimp only
      refine seq_if (word_is rfl ?_)
      rw [decide_eq_false (by decide +kernel)]
      refine iteF (go_next ?_)
      dsimp only
      refine ret_te (if_e (word_is rfl ?_))
      rw [decide_eq_false (by decide +kernel)]
      exact iteF ⟨by show 0 ≤ sizeLine; decide, fun D hD => q _ D (same_upd hD) hD PairsAt.nil⟩
end
end Kx
set_option Elab.async false
set_option linter.all false
set_option maxRecDepth 100000
set_option maxHeartbeats 4000000
namespace Kx
open PySem PySem.Spec PyProof.Rows L2
/-! ### names with places, in their order -/
abbrev NP : Type := Str × Nat
def encN (p : NP) : PyData := .tuple [.str p.1, .int (p.2 : Nat)]
def leN : NP → NP → Bool := PySem.W.dataLe false encN
def lsS (z : Str) : List Nat := z.cps.toList
def ltN (p q : NP) : Prop := lsS p.1 < lsS q.1 ∨ (p.1 = q.1 ∧ p.2 < q.2)
theorem lsS_inj {y z : Str} (h : lsS y = lsS z) : y = z := str_of h
theorem ls_tri (a b : List Nat) : a < b ∨ a = b ∨ b < a := by
  by_cases h : a < b
  · exact .inl h
  · by_cases g : b < a
    · exact .inr (.inr g)
    · exact .inr (.inl (List.le_antisymm (List.not_lt.mp g) (List.not_lt.mp h)))
theorem ls_asy {a b : List Nat} (h : a < b) : ¬ b < a := fun g => List.lt_irrefl _ (List.lt_trans h g)
theorem dataLt_N (p q : NP) : PySem.W.dataLt (encN p) (encN q) = true ↔ ltN p q := by
  unfold encN
  rw [PySem.W.dataLt_pair (by simp [PySem.W.alike]) (by simp [PySem.W.alike]), PySem.W.dataLt_int, PySem.W.dataLt_str]
  simp only [PyData.eqv, beq_iff_eq]
  unfold ltN lsS
  by_cases h : p.1 = q.1
  · rw [if_pos h]
    by_cases g : ((p.2 : Nat) : Int) = (q.2 : Nat)
    · rw [if_pos g]
      constructor
      · intro z; cases z
      · rintro (z | ⟨_, z⟩)
        · rw [h] at z; exact absurd z (List.lt_irrefl _)
        · omega
    · rw [if_neg g, decide_eq_true_eq]
      constructor
      · intro z; exact .inr ⟨h, by omega⟩
      · rintro (z | ⟨_, z⟩)
        · rw [h] at z; exact absurd z (List.lt_irrefl _)
        · omega
  · rw [if_neg h, decide_eq_true_eq]
    constructor
    · exact .inl
    · rintro (z | ⟨z, _⟩)
      · exact z
      · exact absurd z h
theorem leN_iff {p q : NP} : leN p q = true ↔ ¬ ltN q p := by
  unfold leN
  rw [PySem.W.dataLe_eq]
  show (!PySem.W.dataLt (encN q) (encN p)) = true ↔ _
  rw [Bool.not_eq_true', ← Bool.not_eq_true, dataLt_N]
theorem ltN_tri (p q : NP) : ltN p q ∨ p = q ∨ ltN q p := by
  obtain ⟨a, i⟩ := p
  obtain ⟨b, j⟩ := q
  unfold ltN
  dsimp only
  rcases ls_tri (lsS a) (lsS b) with h | h | h
  · exact .inl (.inl h)
  · have e := lsS_inj h
    subst e
    rcases Nat.lt_trichotomy i j with g | g | g
    · exact .inl (.inr ⟨rfl, g⟩)
    · subst g; exact .inr (.inl rfl)
    · exact .inr (.inr (.inr ⟨rfl, g⟩))
  · exact .inr (.inr (.inl h))
theorem ltN_irr (p : NP) : ¬ ltN p p := by
  rintro (h | ⟨_, h⟩)
  · exact List.lt_irrefl _ h
  · omega
theorem ltN_tra {p q r : NP} (h : ltN p q) (g : ltN q r) : ltN p r := by
  unfold ltN at *
  rcases h with h | ⟨h1, h2⟩ <;> rcases g with g | ⟨g1, g2⟩
  · exact .inl (List.lt_trans h g)
  · rw [g1] at h; exact .inl h
  · rw [← h1] at g; exact .inl g
  · exact .inr ⟨h1.trans g1, by omega⟩
theorem sort_isN {l s : List NP} (hs : s.Pairwise ltN) (hp : l.Perm s) : l.mergeSort leN = s := by
  have h1 := List.pairwise_mergeSort (le := leN) (fun a b c h g => by
    rw [leN_iff] at *
    intro k
    rcases ltN_tri a b with e | e | e
    · exact g (ltN_tra k e)
    · subst e; exact g k
    · exact h e) (fun a b => by
    rw [Bool.or_eq_true, leN_iff, leN_iff]
    rcases ltN_tri a b with e | e | e
    · exact .inl fun k => ltN_irr _ (ltN_tra e k)
    · subst e; exact .inl (ltN_irr _)
    · exact .inr fun k => ltN_irr _ (ltN_tra e k)) l
  refine List.Perm.eq_of_pairwise (le := fun p q => leN p q = true) (fun a b _ _ h g => ?_) h1 (hs.imp fun {a b} h => leN_iff.mpr fun k => ltN_irr _ (ltN_tra h k)) ((List.mergeSort_perm l leN).trans hp)
  rw [leN_iff] at h g
  rcases ltN_tri a b with e | e | e
  · exact absurd e g
  · exact e
  · exact absurd e h
/-! ### names in their order -/
def leS : Str → Str → Bool := PySem.W.dataLe false PyData.str
theorem leS_iff {p q : Str} : leS p q = true ↔ ¬ lsS q < lsS p := by
  unfold leS
  rw [PySem.W.dataLe_eq]
  show (!PySem.W.dataLt (.str q) (.str p)) = true ↔ _
  rw [PySem.W.dataLt_str, Bool.not_eq_true', decide_eq_false_iff_not]
  rfl
theorem sortS_asc {l : List Str} (hn : l.Nodup) : (l.mergeSort leS).Pairwise (fun a b => lsS a < lsS b) := by
  have h1 := List.pairwise_mergeSort (le := leS) (fun a b c h g => by
    rw [leS_iff] at *
    intro k
    rcases ls_tri (lsS a) (lsS b) with e | e | e
    · exact g (List.lt_trans k e)
    · rw [e] at k; exact g k
    · exact h e) (fun a b => by
    rw [Bool.or_eq_true, leS_iff, leS_iff]
    rcases ls_tri (lsS a) (lsS b) with e | e | e
    · exact .inl (ls_asy e)
    · rw [e]; exact .inl (List.lt_irrefl _)
    · exact .inr (ls_asy e)) l
  have h2 : (l.mergeSort leS).Nodup := (List.mergeSort_perm l leS).nodup_iff.mpr hn
  refine (h1.and h2).imp fun {a b} ⟨h, g⟩ => ?_
  rw [leS_iff] at h
  rcases ls_tri (lsS a) (lsS b) with e | e | e
  · exact e
  · exact absurd (lsS_inj e) g
  · exact absurd e h
/-! ### sorted(x), x a list of names with places -/
def NPAt (H : Hp) (l : Addr) (ps : List NP) : Prop := ∃ bs : List Addr, H l = some (.lst (bs.map V.ref)) ∧ bs.length = ps.length ∧ ∀ (i : Nat) b p, bs[i]? = some b → ps[i]? = some p → H b = some (.tup [.str p.1, .int (p.2 : Nat)])
theorem NPAt.same {H H' : Hp} {l : Addr} {ps : List NP} (h : NPAt H l ps) (s : Same H H') : NPAt H' l ps := by
  obtain ⟨bs, h1, h2, h3⟩ := h
  exact ⟨bs, s _ _ h1, h2, fun i b p e1 e2 => s _ _ (h3 i b p e1 e2)⟩
def rSortN : List V → Hp → VK → Prop := fun vs H Q => ∃ (a : Addr) (ps : List NP), vs = [.ref a] ∧ NPAt H a ps ∧ ps.length ≤ 100000 ∧ ∀ (p : Addr) (o : HO), H p = none → NPAt (upd H p o) p (ps.mergeSort leN) → Q (.ref p) (upd H p o)
def rSortS (K : PySem.W.Frag) : List V → Hp → VK → Prop := fun vs H Q => ∃ (a : Addr) (zs : List Str), vs = [.ref a] ∧ SqL K H a (zs.map V.str) ∧ zs.length ≤ 100000 ∧ ∀ (p : Addr), H p = none → Q (.ref p) (upd H p (.lst ((zs.mergeSort leS).map V.str)))
section
variable {X : Cx}
theorem cr_sortedN (hu : X.A.units + 64 < cLine) : CallR X (.builtin "sorted") rSortN := by
  intro pins s σ H vs us Q I r h
  obtain ⟨a, ps, rfl, ⟨bs, h1, h2, h3⟩, hn, q⟩ := h
  obtain ⟨its, rv, hl, hz⟩ := I.list (SqL.of h1)
  obtain ⟨u, rfl, ru⟩ := vals1 r
  obtain rfl : u = Value.ref a := ru
  have key : ∀ {bs : List Addr} {its : List Value} {ps : List NP}, Vals (bs.map V.ref) its → bs.length = ps.length → (∀ (i : Nat) b p, bs[i]? = some b → ps[i]? = some p → H b = some (.tup [.str p.1, .int (p.2 : Nat)])) → PySem.W.EachIs (fun v p => ∃ b, RelV (.ref b) v ∧ H b = some (.tup [.str p.1, .int (p.2 : Nat)])) its ps := by
    intro bs
    induction bs with
    | nil =>
      intro its ps rv hl _
      cases rv
      cases ps with
      | nil => exact .nil
      | cons t ts => cases hl
    | cons b bs ih =>
      intro its ps rv hl hx
      cases rv with
      | cons r1 r2 =>
        cases ps with
        | nil => cases hl
        | cons t ts => exact .cons ⟨b, r1, hx 0 b t rfl rfl⟩ (ih r2 (by simpa using hl) fun i b' p' e1 e2 => hx (i + 1) b' p' e1 e2)
  have back : ∀ {out : List Value} {ts : List NP}, PySem.W.EachIs (fun v p => ∃ b, RelV (.ref b) v ∧ H b = some (.tup [.str p.1, .int (p.2 : Nat)])) out ts → ∃ bs : List Addr, Vals (bs.map V.ref) out ∧ bs.length = ts.length ∧ ∀ (i : Nat) b p, bs[i]? = some b → ts[i]? = some p → H b = some (.tup [.str p.1, .int (p.2 : Nat)]) := by
    intro out ts e
    induction e with
    | nil => exact ⟨[], .nil, rfl, fun i b p e => by simp at e⟩
    | cons h _ ih =>
      obtain ⟨b, rx, hx⟩ := h
      obtain ⟨bs, r, g1, g2⟩ := ih
      refine ⟨b :: bs, .cons rx r, by simpa using g1, fun i b' p' e1 e2 => ?_⟩
      cases i with
      | zero => cases e1; cases e2; exact hx
      | succ i => exact g2 i b' p' e1 e2
  have e := key rv h2 h3
  have hrt : ∀ {p : NP} {b : Addr}, H b = some (.tup [.str p.1, .int (p.2 : Nat)]) → Rp H (.ref b) (encN p) := fun h => .tup h (.cons (.str _) (.cons (.int _) .nil))
  refine PySem.W.sorted_data (R := fun v p => ∃ b, RelV (.ref b) v ∧ H b = some (.tup [.str p.1, .int (p.2 : Nat)])) (enc := encN) (bs := ps) hl.isList e (e.mono fun v t ⟨b, rx, hx⟩ => Dp.reads I _ (.ref b) v ((hrt hx).dp (by unfold encN; simp [PyData.hasDict, PyData.hasDictAll])) rx) (PySem.W.AllAlike.of fun _ _ => rfl) (PySem.W.Sortable.tuples fun t => ⟨_, _, rfl⟩) (Nat.le_trans hn (by decide)) (fun t _ => ?_) fun out hlo eo => ?_
  · have : (encN t).depth = 1 := by unfold encN; simp [PyData.depth, PyData.depthAll]
    rw [this]
    omega
  · obtain ⟨cs, ry, g1, g2⟩ := back (show PySem.W.EachIs _ out (ps.mergeSort leN) from eo)
    obtain ⟨n, hn'⟩ := sortedAll_at s.heap its out.toArray
    have hyl : cs.length = ps.length := by rw [g1, (List.mergeSort_perm ps leN).length_eq]
    have fresh : H (s.heap.objs.size + 1) = none := I.hok.fresh (Nat.le_succ _)
    refine ⟨.ref (s.heap.objs.size + 1), upd H (s.heap.objs.size + 1) (.lst (cs.map V.ref)), I.laid (t' := s.toks) (fun b o e => sortedAll_old e) (Nat.le_succ _) ⟨?_, out, n, ry, hn'⟩, rfl, q _ _ fresh ⟨cs, upd_same, g1, fun i b p e1 e2 => ?_⟩⟩
    · rw [List.length_map, hyl]
      exact Nat.le_trans hn (by decide)
    · have h4 := g2 i b p e1 e2
      rw [upd_ne (ne_of_none h4 fresh)]
      exact h4
theorem cr_sortedS (hu : X.A.units + 64 < cLine) : CallR X (.builtin "sorted") (rSortS X.K) := by
  intro pins s σ H vs us Q I r h
  obtain ⟨a, zs, rfl, h1, hn, q⟩ := h
  obtain ⟨its, rv, hl, hz⟩ := I.list h1
  obtain ⟨u, rfl, ru⟩ := vals1 r
  obtain rfl : u = Value.ref a := ru
  have key : ∀ {its : List Value} {zs : List Str}, Vals (zs.map V.str) its → PySem.W.EachIs (fun v z => RelV (.str z) v) its zs := by
    intro its zs
    induction zs generalizing its with
    | nil => intro rv; cases rv; exact .nil
    | cons z zs ih =>
      intro rv
      cases rv with
      | cons r1 r2 => exact .cons r1 (ih r2)
  have back : ∀ {out : List Value} {ts : List Str}, PySem.W.EachIs (fun v z => RelV (.str z) v) out ts → Vals (ts.map V.str) out := by
    intro out ts e
    induction e with
    | nil => exact .nil
    | cons h _ ih => exact .cons h ih
  have e := key rv
  refine PySem.W.sorted_data (R := fun v z => RelV (.str z) v) (enc := PyData.str) (bs := zs) hl.isList e (e.mono fun v t rx => Dp.reads I (.str t) (.str t) v ((Rp.str (H := H) t).dp (by simp [PyData.hasDict])) rx) (PySem.W.AllAlike.of fun _ _ => by simp [PySem.W.alike]) (PySem.W.Sortable.others fun t => ⟨(fun z => by cases z), fun xs z => (by cases z)⟩) (Nat.le_trans hn (by decide)) (fun t _ => ?_) fun out hlo eo => ?_
  · have : (PyData.str t).depth = 0 := by simp [PyData.depth]
    rw [this]
    omega
  · have ry := back (show PySem.W.EachIs _ out (zs.mergeSort leS) from eo)
    obtain ⟨n, hn'⟩ := sortedAll_at s.heap its out.toArray
    have fresh : H (s.heap.objs.size + 1) = none := I.hok.fresh (Nat.le_succ _)
    refine ⟨.ref (s.heap.objs.size + 1), upd H (s.heap.objs.size + 1) (.lst ((zs.mergeSort leS).map V.str)), I.laid (t' := s.toks) (fun b o e => sortedAll_old e) (Nat.le_succ _) ⟨?_, out, n, ry, hn'⟩, rfl, q _ fresh⟩
    rw [List.length_map, (List.mergeSort_perm zs leS).length_eq]
    exact Nat.le_trans hn (by decide)
end
end Kx
set_option Elab.async false
set_option linter.all false
set_option maxRecDepth 100000
set_option maxHeartbeats 4000000
namespace Kx
open PySem PySem.Spec PyProof.Rows L2 PySem.Calls Builtin
/-! ### C(e, ..) -/
section
variable {X : Cx} {CX : CXT} {C f : Addr} {fd : FuncData} {ps : List Str} {k : Nat} {sp : Sp} {E : L2.St → XK} {x : Str} {e : Expr} {es : List Expr} {t : TA} {p pos : Pos}
/-- C(e, ..), in a try -/
def tMakeS (C : Addr) (sp : Sp) (E : L2.St → XK) (t : TA) : TE := fun σ H Q => t σ H fun vs H1 => ∀ x dx, H1 x = none → H1 dx = none → dx ≠ x → sp (.ref x :: vs) (upd (upd H1 dx (.own x)) x (.ins C dx [])) (fun v H2 => v = .non ∧ Q (.ref x) H2) (E σ)
theorem pe_makeS (M : Mk X.K C f) (F : FnOk X.prog X.w X.K X.mg X.base CX k f fd ps sp) (hr : Room (k + 1) X.A) (hg : Gl X x) (hm : X.mg x = some (.ref C)) (hb : Binds X.K fd ps []) (hx : ∀ σ, PassesAt CX X σ (E σ)) (ha : PA X (e :: es) t)
    (hdb : (x == ("__debug__" : Str)) = false := by decide) (he : starEach (e :: es) X.env = (false, eval e X.env) :: starEach es X.env := by rfl) (hpl : (backTo pos (starEach es X.env)).any (·.1) = false := by rfl) : PE X (.Call (.Name x p) (e :: es) [] pos) (tMakeS C sp E t) := by
  constructor
  intro pins s σ H Q I h
  refine wpAny_Call_Name_kw (ld_glob I hg hm ?_ hdb)
  refine PySem.W.callWith_K (h₀ := X.base) I.ok.mod.kin M.kp (thn (ha.run pos pins s σ H _ I h) fun us s1 hh => ?_) he hpl
  obtain ⟨vs, H1, I1, r, h1⟩ := hh
  refine ⟨I1.kIn, ?_⟩
  have hq := h1 (s1.heap.objs.size + 1) s1.heap.objs.size (I1.hok.fresh (Nat.le_succ _)) (I1.hok.fresh (Nat.le_refl _)) (Nat.ne_of_lt (Nat.lt_succ_self _))
  have I2 := Inv.made (C := C) I1
  have r2 : Vals (V.ref (s1.heap.objs.size + 1) :: vs) (Value.ref (s1.heap.objs.size + 1) :: us) := .cons rfl r
  have hl : (Value.ref (s1.heap.objs.size + 1) :: us ++ []).length = ps.length := by
    rw [List.append_nil, ← F.len _ _ _ _ hq]
    exact r2.length.symm
  have b := hb _ (Value.ref (s1.heap.objs.size + 1) :: us) I2.kIn hl
  rw [List.append_nil] at b
  refine wpAny_call (make_map (f := f) I1.kIn M.makes M.init (beq_iff_eq.mp M.fn) (codeAny_mono (F.run _ X.stack _ _ ⟨Value.ref (s1.heap.objs.size + 1) :: us, []⟩ _ _ _ (E σ) (hr.make C us []) (I2.env0.make C us []) b r2 hq) fun r s' hq' => ?_))
  cases r with
  | error er => exact hx σ pins _ _ er s' I2 hq'
  | ok fl =>
    cases fl with
    | ret u =>
      obtain ⟨v, H', I3, rv, ev, q3⟩ := I2.after hq'
      subst ev
      exact ⟨rv, V.ref (s1.heap.objs.size + 1), H', I3, rfl, q3⟩
    | _ => exact False.elim hq'
end
end Kx
set_option Elab.async false
set_option linter.all false
set_option maxRecDepth 100000
set_option maxHeartbeats 4000000
namespace Kx
open PySem PySem.Spec PyProof.Rows L2
theorem passAt0 {X : Cx} (σ : L2.St) : PassesAt (L2N.CX X.prog X.w) X σ E0 := fun _ _ _ _ _ _ c => by
  obtain ⟨_, _, _, _, _, _, _, _, _, _, _, _, h⟩ := c
  exact h.elim
/-! ### what a desk keeps its state in -/
def KeptAt (K : PySem.W.Frag) (H : Hp) (k : Addr) (v : V) : Prop := ∃ dk : Addr, H k = some (.ins (He.ga K "Kept") dk [("state", v), ("below", .non)]) ∧ H dk = some (.own k)
theorem upd_upd' {H : Hp} {a : Addr} {o o' : HO} : upd (upd H a o) a o' = upd H a o' := by
  funext b
  by_cases hb : b = a
  · subst hb; rw [upd_same, upd_same]
  · rw [upd_ne hb, upd_ne hb, upd_ne hb]
section
variable {P : Program} {w : World} {K : PySem.W.Frag} {mg : Str → Option Value} {base : Heap}
def sp_Kept_init (K : PySem.W.Frag) : Sp := fun vs H Q _ => ∃ (x dx : Addr) (v u : V), vs = [.ref x, v, u] ∧ H x = some (.ins (He.ga K "Kept") dx []) ∧ Q .non (upd H x (.ins (He.ga K "Kept") dx [("state", v), ("below", u)]))
theorem ok_Kept_init {f : Addr} {fd : FuncData} (T : Txt K mg) (F : FnP K "__init__" "Kept.__init__" s_Kept___init__ f fd) :
    FnOk P w K mg base (L2N.CX P w) 1 f fd ["self", "state", "below"] (sp_Kept_init K) := by
  refine F.ok sc_Kept___init__ (fun vs H Q E h => ?_) (fun cdv A outer s H vs Q E hr h => ?_)
  · obtain ⟨x, dx, v, u, rfl, _⟩ := h; rfl
  · refine ⟨_, (pss_cons (ps_fld (pv 0) (pv 1) rfl)
        (pss_one (ps_fld (pv 0) (pv 2) rfl))), ?_⟩
    obtain ⟨x, dx, v, u, rfl, hx, q⟩ := h
    have C := cls_Kept T
    refine ⟨v, rfl, .ref x, rfl, x, _, dx, [], rfl, hx, C, noat_Kept_state T, (by decide), ?_⟩
    refine ⟨u, rfl, .ref x, rfl, x, _, dx, _, rfl, upd_same, C, noat_Kept_below T, (by show 1 < 1000; decide), ?_⟩
    rw [upd_upd']
    exact q
def sp_Trial_init (K : PySem.W.Frag) : Sp := fun vs H Q _ => ∃ (x dx : Addr) (v : V), vs = [.ref x, v] ∧ H x = some (.ins (He.ga K "Trial") dx []) ∧ ∀ H' k, (∀ b u, b ≠ x → H b = some u → H' b = some u) → H k = none → H' x = some (.ins (He.ga K "Trial") dx [("top", .ref k)]) → KeptAt K H' k v → Q .non H'
theorem ok_Trial_init {f : Addr} {fd : FuncData} (T : Txt K mg) (F : FnP K "__init__" "Trial.__init__" s_Trial___init__ f fd) :
    FnOk P w K mg base (L2N.CX P w) 3 f fd ["self", "state"] (sp_Trial_init K) := by
  obtain ⟨fdK, FK⟩ := F_Kept___init__ T
  have bK : Binds K fdK ["self", "state", "below"] [] := FK.bindsN fun _ _ _ _ _ _ us hl => match us, hl with | [_, _, _], _ => rfl
  refine F.ok sc_Trial___init__ (fun vs H Q E h => ?_) (fun cdv A outer s H vs Q E hr h => ?_)
  · obtain ⟨x, dx, v, rfl, _⟩ := h; rfl
  · refine ⟨_, (pss_one (ps_fld (pv 0) (pe_makeS (E := fun _ => E0) (mkr_Kept T) (ok_Kept_init T FK) (hr.mono (by decide)) (by rfl) (g_Kept T) bK passAt0 (pa_cons (pv 1) (pa_cons pe_non pa_nil))) rfl)), ?_⟩
    obtain ⟨x, dx, v, rfl, hx, q⟩ := h
    have C := cls_Trial T
    refine ⟨v, rfl, fun k dk hk hdk hne => ?_⟩
    have hkx : k ≠ x := fun z => by rw [z, hx] at hk; cases hk
    have hdx : dk ≠ x := fun z => by rw [z, hx] at hdk; cases hdk
    refine ⟨k, dk, v, .non, rfl, upd_same, rfl, .ref x, rfl, x, _, dx, [], rfl, ?_, C, noat_Trial_top T, (by decide), ?_⟩
    · rw [upd_ne (Ne.symm hkx), upd_ne (Ne.symm hkx), upd_ne (Ne.symm hdx)]
      exact hx
    · refine q _ k (fun b u hb e => ?_) hk upd_same ⟨dk, ?_, ?_⟩
      · rw [upd_ne hb, upd_ne (ne_of_none e hk), upd_ne (ne_of_none e hk), upd_ne (ne_of_none e hdk)]
        exact e
      · rw [upd_ne hkx]
        exact upd_same
      · rw [upd_ne hdx, upd_ne hne, upd_ne hne]
        exact upd_same
end
end Kx
set_option Elab.async false
set_option linter.all false
set_option maxRecDepth 100000
set_option maxHeartbeats 4000000
namespace Kx
open PySem PySem.Spec PyProof.Rows L2
theorem take_sn {α : Type} {l : List α} {i : Nat} {x : α} (h : l[i]? = some x) : l.take (i + 1) = l.take i ++ [x] := by
  obtain ⟨hi, e⟩ := List.getElem?_eq_some_iff.mp h
  rw [List.take_succ, h]
  rfl
theorem cutV_take {xs : List V} {k : Nat} : cutV xs none (some ((k : Nat) : Int)) = xs.take k := by
  unfold cutV
  have e1 : HT.sIx xs.length 0 none = 0 := rfl
  rw [HT.sIx_nat, e1, List.drop_zero, Nat.sub_zero]
  by_cases h : k ≤ xs.length
  · rw [Nat.min_eq_left h]
  · rw [Nat.min_eq_right (by omega), List.take_of_length_le (by omega), List.take_of_length_le (by omega)]
theorem inV_str {z : Str} {zs : List Str} : inV (.str z) (zs.map V.str) = decide (z ∈ zs) := by
  unfold inV
  rw [List.any_map]
  refine Bool.eq_iff_iff.mpr ?_
  rw [List.any_eq_true, decide_eq_true_eq]
  constructor
  · rintro ⟨y, hy, e⟩
    have e : (y == z) = true := e
    rw [← beq_iff_eq.mp e]
    exact hy
  · intro h
    exact ⟨z, h, show (z == z) = true from beq_self_eq_true z⟩
theorem flat_strs (zs : List Str) : (zs.map V.str).all flatV = true := by
  rw [List.all_map]
  exact List.all_eq_true.mpr fun _ _ => rfl
/-! ### the marks of a desk -/
structure Wn where
  nm : Str
  p : Addr
  D : PairD
def HandAt (K : PySem.W.Frag) (H : Hp) (a : Addr) (ws : List Wn) : Prop := ∃ cs : List Addr, H a = some (.lst (cs.map V.ref)) ∧ cs.length = ws.length ∧ ∀ (i : Nat) c w, cs[i]? = some c → ws[i]? = some w → H c = some (.lst [.str w.nm, .ref w.p]) ∧ PairAt K H w.p w.D
def WornAt (K : PySem.W.Frag) (H : Hp) (W : Addr) (ws : List Wn) : Prop := ∃ cs : List Addr, H W = some (.tup (cs.map V.ref)) ∧ cs.length = ws.length ∧ ∀ (i : Nat) c w, cs[i]? = some c → ws[i]? = some w → H c = some (.tup [.str w.nm, .ref w.p]) ∧ PairAt K H w.p w.D
theorem WornAt.same {K : PySem.W.Frag} {H H' : Hp} {W : Addr} {ws : List Wn} (h : WornAt K H W ws) (s : Same H H') : WornAt K H' W ws := by
  obtain ⟨cs, h1, h2, h3⟩ := h
  exact ⟨cs, s _ _ h1, h2, fun i c w e1 e2 => ⟨s _ _ (h3 i c w e1 e2).1, (h3 i c w e1 e2).2.same s⟩⟩
theorem HandAt.same {K : PySem.W.Frag} {H H' : Hp} {W : Addr} {ws : List Wn} (h : HandAt K H W ws) (s : Same H H') : HandAt K H' W ws := by
  obtain ⟨cs, h1, h2, h3⟩ := h
  exact ⟨cs, s _ _ h1, h2, fun i c w e1 e2 => ⟨s _ _ (h3 i c w e1 e2).1, (h3 i c w e1 e2).2.same s⟩⟩
structure WsOk (al : Str) (ws : List Wn) : Prop where
  le : ws.length ≤ 20
  nd : (ws.map (·.nm)).Nodup
  ok : ∀ w ∈ ws, NameOk w.nm ∧ PairOk w.D ∧ w.D.al = al
section
variable {P : Program} {w : World} {K : PySem.W.Frag} {mg : Str → Option Value} {base : Heap}
theorem pair_ty {K mg} (T : Txt K mg) {H : Hp} {x : Addr} {D : PairD} (h : PairAt K H x D) : TyX K H (.ref x) (.ref (He.ga K "Pair")) := by
  obtain ⟨dx, vl, vr, vm, vk, h1, h2⟩ := h
  have e := T.ex
  unfold extra ownB objB clsfB at e
  simp only [Bool.and_eq_true, decide_eq_true_eq] at e
  obtain ⟨_, _, _, ⟨o1, o2⟩, _, _, _, c1, c2⟩ := e
  exact .base (.ins h1 (cls_Pair T) c1 o1 o2 c2)
def sp_kept_marks (K : PySem.W.Frag) : Sp := fun vs H Q _ => ∃ (al : Str) (a : Addr) (ws : List Wn), vs = [.str al, .ref a] ∧ HandAt K H a ws ∧ WsOk al ws ∧ ∀ H' W, Same H H' → WornAt K H' W ws → Q (.ref W) H'
theorem ok_kept_marks (T : Txt K mg) : Cal P w K mg base CX0 3 "kept_marks" ["alphabet", "thing"] (sp_kept_marks K) := by
  obtain ⟨fd, F⟩ := F_kept_marks T
  obtain ⟨t_MOST_MARKS, h_MOST_MARKS⟩ := T.i_MOST_MARKS
  refine cal_mk F (g_kept_marks T) sc_kept_marks (fun _ _ _ _ _ _ us hl => match us, hl with | [_, _], _ => rfl) (fun vs H Q E h => ?_) (fun cdv A outer s H vs Q E hr h => ?_)
  · obtain ⟨al, a, ws, rfl, _⟩ := h; rfl
  · refine ⟨_, PSs.nox (pss_cons (ps_if (pt_not (pt_val (pe_cal (ok_is_listing T) (hr.mono (by decide)) pass0 (pa_cons (pv 1) pa_nil)))) (pss_one ps_never) pss_nil)
        (pss_cons (ps_for PassesOwn.never rfl (pi_enumS (by rfl) (fr_enumerate T) (pa_cons (pv 1) pa_nil)) (pg_tup rfl (pgs_cons (pg_name (i := 2) sc_kept_marks.nd rfl (Or.inl rfl)) (pgs_cons (pg_name (i := 3) sc_kept_marks.nd rfl (Or.inl rfl)) pgs_nil))) (pss_cons (ps_if (PW.pt (pw_or (pt_not (pt_val (pe_cal (ok_is_listing T) (hr.mono (by decide)) pass0 (pa_cons (pv 3) pa_nil)))) (pw_or (pt_cmpR op_ne (pe_callB call_len (by rfl) (fr_len T) boot_len (pa_cons (pv 3) pa_nil)) pe_int (nomark _)) (pw_or1 (pt_not (pt_val (pe_cal (ok_is_name T) (hr.mono (by decide)) pass0 (pa_cons (pe_ix ix_list (pv 3) pe_int (fun _ _ => rfl)) pa_nil)))))))) (pss_one ps_never) pss_nil)
        (pss_one (ps_if (PW.pt (pw_or (pt_not (pt_val (pe_callB (r := rIsi K) call_isi (by rfl) (fr_isinstance T) b_isinstance (pa_cons (pe_ix ix_list (pv 3) pe_int (fun _ _ => rfl)) (pa_cons (pe_glob (v := .ref (He.ga K "Pair")) (by rfl) (g_Pair T) rfl) pa_nil))))) (pw_or1 (pt_cmpR op_ne (pe_fld (pe_ix ix_list (pv 3) pe_int (fun _ _ => rfl)) rfl) (pv 0) (nomark _))))) (pss_one ps_never) pss_nil))))
        (pss_cons (ps_if (pt_cmpR op_gt (pe_callB call_len (by rfl) (fr_len T) boot_len (pa_cons (pv 1) pa_nil)) (pe_glob (v := .int 20) (by rfl) h_MOST_MARKS ⟨t_MOST_MARKS, rfl⟩) (nomark _)) (pss_one ps_never) pss_nil)
        (pss_cons (ps_setLc (i := 5) (own := [("name", 4), ("pair", 6)]) (g := (gLst K 2 (gCons (gName 4) (gCons (gName 6) gNil)))) (tt := tYes) rfl sc_kept_marks.nd rfl rfl (sw_true rfl rfl rfl (by decide +kernel)) (pi_list (pv 1)) (blkOk_by (N := N_kept_marks) (sc := defScope s_kept_marks) (by decide +kernel)) (fun _ _ _ _ _ => (pg_lst rfl (pgs_cons (pg_name (i := 4) sc_kept_marks.nd rfl (Or.inl rfl)) (pgs_cons (pg_name (i := 6) sc_kept_marks.nd rfl (Or.inl rfl)) pgs_nil)))) (fun _ _ _ _ _ => pts_nil) (fun _ _ _ _ _ => (pv 4)))
        (pss_cons (ps_for PassesOwn.never rfl (pi_enumS (by rfl) (fr_enumerate T) (pa_cons (pv 5) pa_nil)) (pg_tup rfl (pgs_cons (pg_name (i := 2) sc_kept_marks.nd rfl (Or.inl rfl)) (pgs_cons (pg_name (i := 4) sc_kept_marks.nd rfl (Or.inl rfl)) pgs_nil))) (pss_one (ps_if (pt_cmpR op_in_seq (pv 4) (pe_slice sl_list (pv 5) po_none (po_some (pv 2))) rfl) (pss_one ps_never) pss_nil)))
        (pss_one (ps_ret (pe_callTy call_tuple_of (by rfl) (fr_tuple T) b_tuple (pa_cons (pe_lc (own := [("name", 4), ("pair", 6)]) (g := (gLst K 2 (gCons (gName 4) (gCons (gName 6) gNil)))) (tt := tYes) rfl sc_kept_marks.nd  (pi_list (pv 1)) (blkOk_by (N := N_kept_marks) (sc := defScope s_kept_marks) (by decide +kernel)) (fun _ _ _ _ _ => (pg_lst rfl (pgs_cons (pg_name (i := 4) sc_kept_marks.nd rfl (Or.inl rfl)) (pgs_cons (pg_name (i := 6) sc_kept_marks.nd rfl (Or.inl rfl)) pgs_nil)))) (fun _ _ _ _ _ => pts_nil) (fun _ _ _ _ _ => (pe_tup (pa_cons (pv 4) (pa_cons (pv 6) pa_nil))))) pa_nil))))))))), ?_⟩
    obtain ⟨al, a, ws, rfl, hh, ok, q⟩ := h
    have hh0 := hh
    obtain ⟨cs, h1, h2, h3⟩ := hh
    have h20 := ok.le
    refine seq_if (test_not (test_val (call_of ⟨.ref a, rfl, .ref a, .lst, rfl, .base (.lst h1), fun H1 s1 => ⟨_, rfl, iteF (go_next ?_)⟩⟩)))
    dsimp only
    refine ⟨.ref a, rfl, .ref a, _, _, _, rfl, .lst a (cs.map V.ref), s1 _ _ h1, ?_⟩
    refine for_it walk_new (fun i σ G => ∃ v2 v3 : Option V, σ = [some (.str al), some (.ref a), v2, v3, none, none, none] ∧ Same H G) ⟨none, none, rfl, s1⟩ (fun _ _ _ _ ⟨_, _, _, s⟩ => s _ _ h1) ?_ ?_
    · rintro i x σ H2 H3 hi ⟨v2, v3, rfl, s2⟩ ⟨Tt, vs, rfl, hTn, rfl, y, rfl, hy⟩
      rw [List.getElem?_map] at hy
      obtain ⟨c, hc, rfl⟩ := Option.map_eq_some_iff.mp hy
      obtain ⟨w, hw⟩ : ∃ w, ws[i]? = some w := ⟨_, List.getElem?_eq_getElem (by rw [← h2]; exact (List.getElem?_eq_some_iff.mp hc).1)⟩
      obtain ⟨c1, c2⟩ := h3 i c w hc hw
      obtain ⟨n1, n2, n3⟩ := ok.ok w (List.mem_of_getElem? hw)
      have s3 := s2.trans (same_upd (o := .tup [.int (i : Nat), .ref c]) hTn)
      refine ⟨Tt, _, rfl, SqT.of upd_same, rfl, _, _, rfl, _, _, rfl, rfl, ?_⟩
      dsimp only
      refine seq_if (show tOr _ _ _ _ _ from test_not (test_val (call_of ⟨.ref c, rfl, .ref c, .lst, rfl, .base (.lst (s3 _ _ c1)), fun H4 s4 => ⟨_, rfl, iteF (show tOr _ _ _ _ _ from test_op (lenL (n := 2) rfl (s4 _ _ (s3 _ _ c1)) rfl (c_of ⟨rfl, _, rfl, ?_⟩)))⟩⟩)))
      rw [show (!decide (V.int ((2 : Nat) : Int) = V.int 2)) = false by decide]
      have s34 := s3.trans s4
      refine iteF (test_not (test_val (call_of (args_of (op_of (var_of rfl (c_of (rIxL_of (i := 0) (s34 _ _ c1) rfl (args_end ⟨w.nm, rfl, n1, fun H5 s5 => ⟨_, rfl, iteF (go_next ?_)⟩⟩)))))))))
      dsimp only
      have s35 := s34.trans s5
      have p5 := c2.same s35
      refine one_if (show tOr _ _ _ _ _ from test_not (test_val (cb_of (args_of (op_of (var_of rfl (c_of (rIxL_of (i := 1) (s35 _ _ c1) rfl (args_of (c_of (args_end ⟨.ref w.p, .ref (He.ga K "Pair"), .ref (He.ga K "Pair"), .ref (He.ga K "Pair"), true, rfl, .own _, pair_ty T p5, ?_, _, rfl, iteF ?_⟩)))))))))))
      · unfold PySem.W.kitOne
        rw [if_pos (by simp)]
      obtain ⟨dx, vl, vr, vm, vk, i1, i2⟩ := p5
      refine test_op (show tFld _ _ _ _ _ _ from op_of (var_of rfl (c_of (rIxL_of (i := 1) (s35 _ _ c1) rfl ⟨w.p, _, dx, _, _, rfl, i1, cls_Pair T, noat_Pair_alphabet T, rfl, var_of rfl ⟨rfl, _, rfl, ?_⟩⟩))))
      rw [show (!decide (V.str w.D.al = V.str al)) = false by rw [n3]; simp]
      exact iteF (go_next ⟨_, _, rfl, s35⟩)
    rintro σ G ⟨v2, v3, rfl, s2⟩
    dsimp only
    refine seq_if (test_op (lenL (n := ws.length) rfl (s2 _ _ h1) (by rw [List.length_map, h2]) (c_of ⟨_, _, rfl, rfl, _, rfl, or_ite (fun h => absurd (of_decide_eq_true h) (by omega)) fun _ => go_next ?_⟩)))
    dsimp only
    refine asg_set ⟨.ref a, rfl, a, rfl, ⟨_, SqL.of (s2 _ _ h1)⟩, fun D hD => ?_⟩
    refine lc_it walk_list (fun i G3 => Same G G3 ∧ G3 D = some (.lst ((ws.take i).map fun w => V.str w.nm))) ⟨same_upd hD, upd_same⟩ (fun i G3 _ ⟨s3, _⟩ => SqL.of (s3 _ _ (s2 _ _ h1))) ?_ ?_
    · rintro i x Gx G3 hi ⟨s3, hG⟩ ⟨rfl, hx⟩
      rw [List.getElem?_map] at hx
      obtain ⟨c, hc, rfl⟩ := Option.map_eq_some_iff.mp hx
      obtain ⟨w, hw⟩ : ∃ w, ws[i]? = some w := ⟨_, List.getElem?_eq_getElem (by rw [← h2]; exact (List.getElem?_eq_some_iff.mp hc).1)⟩
      obtain ⟨c1, c2⟩ := h3 i c w hc hw
      refine ⟨c, _, rfl, SqL.of (s3 _ _ (s2 _ _ c1)), rfl, _, _, rfl, _, _, rfl, rfl, rfl, .str w.nm, rfl, _, hG, ?_, same_over s3 hD, ?_⟩
      · rw [List.length_map, List.length_take]
        exact Nat.lt_of_le_of_lt (by omega : _ ≤ 1000) (by decide)
      · rw [upd_same, take_sn hw, List.map_append]
        rfl
    rintro G3 ⟨s3, hG⟩
    rw [List.length_map, h2, List.take_length] at hG
    rintro σ3 rfl
    have s23 := s2.trans s3
    have hlN : (ws.map fun w => V.str w.nm).length = ws.length := List.length_map ..
    refine ⟨.ref D, rfl, .ref D, _, _, _, rfl, .lst D (ws.map fun w => V.str w.nm), hG, ?_⟩
    refine for_it walk_new (fun i σ G => ∃ v2 v4 : Option V, σ = [some (.str al), some (.ref a), v2, v3, v4, some (.ref D), none] ∧ Same G3 G) ⟨v2, none, rfl, Same.refl _⟩ (fun _ _ _ _ ⟨_, _, _, s⟩ => s _ _ hG) ?_ ?_
    · rintro i x σ H2 H3 hi ⟨v2, v4, rfl, s4⟩ ⟨Tt, vs, rfl, hTn, rfl, y, rfl, hy⟩
      rw [List.getElem?_map] at hy
      obtain ⟨w, hw, rfl⟩ := Option.map_eq_some_iff.mp hy
      have s5 := s4.trans (same_upd (o := .tup [.int (i : Nat), .str w.nm]) hTn)
      refine ⟨Tt, _, rfl, SqT.of upd_same, rfl, _, _, rfl, _, _, rfl, rfl, ?_⟩
      dsimp only
      refine one_if (test_op (var_of rfl (sl_of (var_of rfl (nopart_of (part_of (var_of rfl ⟨_, rfl, ⟨D, _, rfl, SqL.of (s5 _ _ hG), fun sp hsp => ?_⟩⟩)))))))
      rw [cutV_take, ← List.map_take, show ((ws.take i).map fun w => V.str w.nm) = ((ws.take i).map (·.nm)).map V.str from (List.map_map ..).symm]
      refine ⟨sp, _, rfl, .inl (SqL.of upd_same), rfl, flat_strs _, _, rfl, ?_⟩
      have hni : w.nm ∉ (ws.take i).map (·.nm) := by
        intro hm
        have hnd := ok.nd
        have e : ws.map (·.nm) = (ws.take i).map (·.nm) ++ (ws.drop i).map (·.nm) := by rw [← List.map_append, List.take_append_drop]
        rw [e, List.nodup_append] at hnd
        have hd : w.nm ∈ (ws.drop i).map (·.nm) := List.mem_map.mpr ⟨w, by rw [List.mem_iff_getElem?]; exact ⟨0, by rw [List.getElem?_drop]; exact hw⟩, rfl⟩
        exact hnd.2.2 _ hm _ hd rfl
      rw [show (if false = true then !inV (V.str w.nm) (((ws.take i).map (·.nm)).map V.str) else inV (V.str w.nm) (((ws.take i).map (·.nm)).map V.str)) = false from (if_neg Bool.false_ne_true).trans (inV_str.trans (decide_eq_false hni))]
      exact iteF (go_next ⟨_, _, rfl, s5.trans (same_upd hsp)⟩)
    rintro σ G ⟨v2, v4, rfl, s4⟩
    dsimp only
    have s24 := s23.trans s4
    refine ret_te (cb_of (args_of ⟨.ref a, rfl, a, rfl, ⟨_, SqL.of (s24 _ _ h1)⟩, fun D2 hD2 => ?_⟩))
    refine lc_it walk_list (fun i G3 => Same G G3 ∧ ∃ ds : List Addr, G3 D2 = some (.lst (ds.map V.ref)) ∧ ds.length = i ∧ ∀ (j : Nat) d w, ds[j]? = some d → ws[j]? = some w → G3 d = some (.tup [.str w.nm, .ref w.p])) ⟨same_upd hD2, [], upd_same, rfl, fun j d w e => by simp at e⟩ (fun i G3 _ ⟨s3, _⟩ => SqL.of (s3 _ _ (s24 _ _ h1))) ?_ ?_
    · rintro i x Gx G5 hi ⟨s5, ds, g1, g2, g3⟩ ⟨rfl, hx⟩
      rw [List.getElem?_map] at hx
      obtain ⟨c, hc, rfl⟩ := Option.map_eq_some_iff.mp hx
      obtain ⟨w, hw⟩ : ∃ w, ws[i]? = some w := ⟨_, List.getElem?_eq_getElem (by rw [← h2]; exact (List.getElem?_eq_some_iff.mp hc).1)⟩
      obtain ⟨c1, c2⟩ := h3 i c w hc hw
      have hlt := (List.getElem?_eq_some_iff.mp hw).1
      refine ⟨c, _, rfl, SqL.of (s5 _ _ (s24 _ _ c1)), rfl, _, _, rfl, _, _, rfl, rfl, rfl, .str w.nm, rfl, .ref w.p, rfl, by show 2 ≤ sizeLine; decide, fun t ht => ?_⟩
      have st := same_upd (o := .tup [.str w.nm, .ref w.p]) ht
      refine ⟨_, st _ _ g1, ?_, same_over (s5.trans st) hD2, ds ++ [t], by rw [upd_same, List.map_append]; rfl, by rw [List.length_append, g2]; rfl, fun j d w' e1 e2 => ?_⟩
      · rw [List.length_map, g2]
        exact Nat.lt_of_le_of_lt (by omega : _ ≤ 1000) (by decide)
      have hdt : ∀ {b : Addr} {xs : List V}, upd G5 t (.tup [.str w.nm, .ref w.p]) b = some (.tup xs) → b ≠ D2 := fun e z => by
        rw [z, st _ _ g1] at e
        cases e
      by_cases hj : j < ds.length
      · rw [List.getElem?_append_left hj] at e1
        have g := st _ _ (g3 j d w' e1 e2)
        rw [upd_ne (hdt g)]
        exact g
      · rw [List.getElem?_append_right (by omega)] at e1
        have hj0 : j - ds.length = 0 := by
          have := (List.getElem?_eq_some_iff.mp e1).1
          have h1 : ([t] : List Addr).length = 1 := rfl
          omega
        have hji : j = i := by omega
        rw [hj0] at e1
        cases e1
        rw [hji, hw] at e2
        cases e2
        have g : upd G5 t (.tup [.str w.nm, .ref w.p]) t = some (.tup [.str w.nm, .ref w.p]) := upd_same
        rw [upd_ne (hdt g)]
        exact g
    rintro G5 ⟨s5, ds, g1, g2, g3⟩
    rw [List.length_map] at g2
    refine args_end ⟨D2, _, rfl, .inl ⟨SqL.of g1, fun W hW => ?_⟩⟩
    have sW := same_upd (o := .tup (ds.map V.ref)) hW
    have sAll := (s24.trans s5).trans sW
    refine q _ W sAll ⟨ds, upd_same, by omega, fun i c w e1 e2 => ⟨sW _ _ (g3 i c w e1 e2), ?_⟩⟩
    obtain ⟨c', hc'⟩ : ∃ c', cs[i]? = some c' := ⟨_, List.getElem?_eq_getElem (by rw [h2]; exact (List.getElem?_eq_some_iff.mp e2).1)⟩
    exact (h3 i c' w hc' e2).2.same sAll
end
end Kx
set_option Elab.async false
set_option linter.all false
set_option maxRecDepth 100000
set_option maxHeartbeats 4000000
namespace Kx
open PySem PySem.Spec PyProof.Rows L2
theorem b_sorted : bootBuiltins "sorted" = some (.builtin "sorted") := by decide +kernel
theorem passN0 {X : Cx} : Passes (L2N.CX X.prog X.w) X E0 := fun _ _ _ _ _ _ _ c => by
  obtain ⟨_, _, _, _, _, _, _, _, _, _, _, _, h⟩ := c
  exact h.elim
/-! ### a desk -/
structure DkD where
  x : Addr
  t : Addr
  k : Addr
  W : Addr
  al : Str
  ws : List Wn
def DkAt (K : PySem.W.Frag) (H : Hp) (D : DkD) : Prop := ∃ dx dt : Addr, H D.x = some (.ins (He.ga K "Desk") dx [("alphabet", .str D.al), ("worn", .ref D.W), ("trials", .ref D.t)]) ∧ H dx = some (.own D.x) ∧ H D.t = some (.ins (He.ga K "Trial") dt [("top", .ref D.k)]) ∧ H dt = some (.own D.t) ∧ WornAt K H D.W D.ws
theorem DkAt.same {K : PySem.W.Frag} {H H' : Hp} {D : DkD} (h : DkAt K H D) (s : Same H H') : DkAt K H' D := by
  obtain ⟨dx, dt, h1, h2, h3, h4, h5⟩ := h
  exact ⟨dx, dt, s _ _ h1, s _ _ h2, s _ _ h3, s _ _ h4, h5.same s⟩
def LogAt (H : Hp) (v : V) (ds : List Dd) : Prop := ∃ (a : Addr) (cs : List Addr), v = .ref a ∧ H a = some (.tup (cs.map V.ref)) ∧ cs.length = ds.length ∧ ∀ (i : Nat) c d, cs[i]? = some c → ds[i]? = some d → H c = some (.tup d.vs)
theorem LogAt.same {H H' : Hp} {v : V} {ds : List Dd} (h : LogAt H v ds) (s : Tups H H') : LogAt H' v ds := by
  obtain ⟨a, cs, e, h1, h2, h3⟩ := h
  exact ⟨a, cs, e, s _ _ h1, h2, fun i c d e1 e2 => s _ _ (h3 i c d e1 e2)⟩
/-- the state that counts: the row, the deeds done, none undone -/
structure StAt (K : PySem.W.Frag) (H : Hp) (k : Addr) (y : Str) (ds : List Dd) : Prop where
  ex : ∃ (s u : Addr) (vD : V), KeptAt K H k (.ref s) ∧ H s = some (.tup [.str y, vD, .ref u]) ∧ LogAt H vD ds ∧ H u = some (.tup [])
/-- all but one thing stands, which is an instance with few attributes -/
theorem PairAt.but {K : PySem.W.Frag} {H H' : Hp} {x p : Addr} {D : PairD} {C dx : Addr} {fs : List (Str × V)} (h : PairAt K H p D) (hx : H x = some (.ins C dx fs)) (hf : fs.length < 5) (s : SameX x H H') : PairAt K H' p D := by
  obtain ⟨dp, vl, vr, vm, vk, h1, h2, h3, h4, h5, h6⟩ := h
  have np : p ≠ x := fun z => by
    rw [z, hx] at h1
    cases h1
    exact absurd hf (show ¬ (5 < 5) by decide)
  have nd : dp ≠ x := fun z => by
    rw [z, hx] at h2
    cases h2
  have t := s.tups fun xs e => by rw [hx] at e; cases e
  exact ⟨dp, vl, vr, vm, vk, s _ _ np h1, s _ _ nd h2, h3.tups t, h4.tups t, h5.tups t, h6.tups t⟩
theorem WornAt.but {K : PySem.W.Frag} {H H' : Hp} {x W : Addr} {ws : List Wn} {C dx : Addr} {fs : List (Str × V)} (h : WornAt K H W ws) (hx : H x = some (.ins C dx fs)) (hf : fs.length < 5) (s : SameX x H H') : WornAt K H' W ws := by
  obtain ⟨cs, h1, h2, h3⟩ := h
  have t := s.tups fun xs e => by rw [hx] at e; cases e
  exact ⟨cs, t _ _ h1, h2, fun i c w e1 e2 => ⟨t _ _ (h3 i c w e1 e2).1, (h3 i c w e1 e2).2.but hx hf s⟩⟩
theorem DkAt.but {K : PySem.W.Frag} {H H' : Hp} {x : Addr} {D : DkD} {C dx : Addr} {fs : List (Str × V)} (h : DkAt K H D) (hx : H x = some (.ins C dx fs)) (hf : fs.length = 2) (s : SameX x H H') : DkAt K H' D := by
  obtain ⟨d1, d2, h1, h2, h3, h4, h5⟩ := h
  have n1 : D.x ≠ x := fun z => by rw [z, hx] at h1; cases h1; exact absurd hf (show ¬ (3 = 2) by decide)
  have n2 : d1 ≠ x := fun z => by rw [z, hx] at h2; cases h2
  have n3 : D.t ≠ x := fun z => by rw [z, hx] at h3; cases h3; exact absurd hf (show ¬ (1 = 2) by decide)
  have n4 : d2 ≠ x := fun z => by rw [z, hx] at h4; cases h4
  exact ⟨d1, d2, s _ _ n1 h1, s _ _ n2 h2, s _ _ n3 h3, s _ _ n4 h4, h5.but hx (by omega) s⟩
theorem sX_del {H : Hp} {k : Addr} : SameX k H (del H k) := fun b u hb e => by rw [del_ne hb]; exact e
section
variable {P : Program} {w : World} {K : PySem.W.Frag} {mg : Str → Option Value} {base : Heap}
def sp_state_now (K : PySem.W.Frag) : Sp := fun vs H Q _ => ∃ (D : DkD) (v : V), vs = [.ref D.x] ∧ DkAt K H D ∧ KeptAt K H D.k v ∧ Q v H
theorem ok_state_now {f : Addr} {fd : FuncData} (T : Txt K mg) (F : FnP K "state_now" "Desk.state_now" s_Desk_state_now f fd) :
    FnOk P w K mg base (L2N.CX P w) 1 f fd ["self"] (sp_state_now K) := by
  refine F.ok sc_Desk_state_now (fun vs H Q E h => ?_) (fun cdv A outer s H vs Q E hr h => ?_)
  · obtain ⟨D, v, rfl, _⟩ := h; rfl
  · refine ⟨_, (pss_one (ps_ret (pe_fld (pe_fld (pe_fld (pv 0) rfl) rfl) rfl))), ?_⟩
    obtain ⟨D, v, rfl, ⟨dx, dt, h1, h2, h3, h4, h5⟩, ⟨dk, k1, k2⟩, q⟩ := h
    exact ret_te ⟨.ref D.x, rfl, D.x, _, dx, _, _, rfl, h1, cls_Desk T, noat_Desk_trials T, rfl, D.t, _, dt, _, _, rfl, h3, cls_Trial T, noat_Trial_top T, rfl, D.k, _, dk, _, _, rfl, k1, cls_Kept T, noat_Kept_state T, rfl, q⟩
/-- self.state_now() -/
theorem now_of {σ : L2.St} {H : Hp} {D : DkD} {v : V} {Q : VK} (e : σ[0]? = some (some (.ref D.x))) (h : DkAt K H D) (hk : KeptAt K H D.k v) (q : Q v H) : tMeth (He.ga K "Desk") "state_now" (sp_state_now K) [] E0 (tVar 0) tNil σ H Q := by
  obtain ⟨dx, dt, h1, h2⟩ := id h
  exact ⟨.ref D.x, e, D.x, dx, _, rfl, h1, rfl, D, v, rfl, h, hk, q⟩
def sp_live (K : PySem.W.Frag) : Sp := fun vs H Q _ => ∃ (D : DkD) (y : Str) (ds : List Dd), vs = [.ref D.x] ∧ DkAt K H D ∧ StAt K H D.k y ds ∧ Q (.str y) H
theorem ok_live {f : Addr} {fd : FuncData} (T : Txt K mg) (F : FnP K "live" "Desk.live" s_Desk_live f fd) :
    FnOk P w K mg base (L2N.CX P w) 3 f fd ["self"] (sp_live K) := by
  obtain ⟨fdS, FS⟩ := F_Desk_state_now T
  have bS : Binds K fdS ["self"] [] := FS.bindsN fun _ _ _ _ _ _ us hl => match us, hl with | [_], _ => rfl
  refine F.ok sc_Desk_live (fun vs H Q E h => ?_) (fun cdv A outer s H vs Q E hr h => ?_)
  · obtain ⟨D, y, ds, rfl, _⟩ := h; rfl
  · refine ⟨_, (pss_one (ps_ret (pe_ix ix_tup (pe_meth0 (pl := _) (E := E0) (pv 0) (cls_Desk T) (meth_state_now T) (ok_state_now T FS) (hr.mono (by decide)) bS .nil passN0) pe_int (fun _ _ => rfl)))), ?_⟩
    obtain ⟨D, y, ds, rfl, h, ⟨s, u, vD, h1, h2, h3, h4⟩, q⟩ := h
    exact ret_te (op_of (now_of rfl h h1 (c_of ⟨s, _, _, _, rfl, rfl, SqT.of h2, atI_nat (j := 0) rfl, q⟩)))
def sp_log (K : PySem.W.Frag) : Sp := fun vs H Q _ => ∃ (D : DkD) (y : Str) (ds : List Dd), vs = [.ref D.x] ∧ DkAt K H D ∧ StAt K H D.k y ds ∧ ∀ v, LogAt H v ds → Q v H
theorem ok_log {f : Addr} {fd : FuncData} (T : Txt K mg) (F : FnP K "log" "Desk.log" s_Desk_log f fd) :
    FnOk P w K mg base (L2N.CX P w) 3 f fd ["self"] (sp_log K) := by
  obtain ⟨fdS, FS⟩ := F_Desk_state_now T
  have bS : Binds K fdS ["self"] [] := FS.bindsN fun _ _ _ _ _ _ us hl => match us, hl with | [_], _ => rfl
  refine F.ok sc_Desk_log (fun vs H Q E h => ?_) (fun cdv A outer s H vs Q E hr h => ?_)
  · obtain ⟨D, y, ds, rfl, _⟩ := h; rfl
  · refine ⟨_, (pss_one (ps_ret (pe_ix ix_tup (pe_meth0 (pl := _) (E := E0) (pv 0) (cls_Desk T) (meth_state_now T) (ok_state_now T FS) (hr.mono (by decide)) bS .nil passN0) pe_int (fun _ _ => rfl)))), ?_⟩
    obtain ⟨D, y, ds, rfl, h, ⟨s, u, vD, h1, h2, h3, h4⟩, q⟩ := h
    exact ret_te (op_of (now_of rfl h h1 (c_of ⟨s, _, _, _, rfl, rfl, SqT.of h2, atI_nat (j := 1) rfl, q _ h3⟩)))
end
end Kx
set_option Elab.async false
set_option linter.all false
set_option maxRecDepth 100000
set_option maxHeartbeats 4000000
namespace Kx
open PySem PySem.Spec PyProof.Rows L2
section
variable {P : Program} {w : World} {K : PySem.W.Frag} {mg : Str → Option Value} {base : Heap}
def sp_mark_names (K : PySem.W.Frag) : Sp := fun vs H Q _ => ∃ (D : DkD), vs = [.ref D.x] ∧ DkAt K H D ∧ D.ws.length ≤ 20 ∧ ∀ H' a, Same H H' → H' a = some (.tup (D.ws.map fun w => V.str w.nm)) → Q (.ref a) H'
theorem ok_mark_names {f : Addr} {fd : FuncData} (T : Txt K mg) (F : FnP K "mark_names" "Desk.mark_names" s_Desk_mark_names f fd) :
    FnOk P w K mg base (L2N.CX P w) 1 f fd ["self"] (sp_mark_names K) := by
  refine F.ok sc_Desk_mark_names (fun vs H Q E h => ?_) (fun cdv A outer s H vs Q E hr h => ?_)
  · obtain ⟨D, rfl, _⟩ := h; rfl
  · refine ⟨_, (pss_one (ps_ret (pe_callTy call_tuple_of (by rfl) (fr_tuple T) b_tuple (pa_cons (pe_lc (own := [("name", 1), ("pair", 2)]) (g := (gTup K 2 (gCons (gName 1) (gCons (gName 2) gNil)))) (tt := tYes) rfl sc_Desk_mark_names.nd  (pi_seq (pe_fld (pv 0) rfl)) (blkOk_by (N := N_Desk_mark_names) (sc := defScope s_Desk_mark_names) (by decide +kernel)) (fun _ _ _ _ _ => (pg_tup rfl (pgs_cons (pg_name (i := 1) sc_Desk_mark_names.nd rfl (Or.inl rfl)) (pgs_cons (pg_name (i := 2) sc_Desk_mark_names.nd rfl (Or.inl rfl)) pgs_nil)))) (fun _ _ _ _ _ => pts_nil) (fun _ _ _ _ _ => (pv 1))) pa_nil)))), ?_⟩
    obtain ⟨D, rfl, ⟨dx, dt, h1, h2, h3, h4, cs, w1, w2, w3⟩, h20, q⟩ := h
    refine ret_te (cb_of (args_of ⟨.ref D.x, rfl, D.x, _, dx, _, _, rfl, h1, cls_Desk T, noat_Desk_worn T, rfl, D.W, _, rfl, .inr ⟨SqT.of w1, fun J WJ D2 hD2 => ?_⟩⟩))
    refine lc_it WJ (fun i G => Same H G ∧ G D2 = some (.lst ((D.ws.take i).map fun w => V.str w.nm))) ⟨same_upd hD2, upd_same⟩ (fun i G _ ⟨s, _⟩ => SqT.of (s _ _ w1)) ?_ ?_
    · rintro i x Gx G hi ⟨s, hG⟩ ⟨rfl, hx⟩
      rw [List.getElem?_map] at hx
      obtain ⟨c, hc, rfl⟩ := Option.map_eq_some_iff.mp hx
      obtain ⟨w, hw⟩ : ∃ w, D.ws[i]? = some w := ⟨_, List.getElem?_eq_getElem (by rw [← w2]; exact (List.getElem?_eq_some_iff.mp hc).1)⟩
      obtain ⟨c1, c2⟩ := w3 i c w hc hw
      refine ⟨c, _, rfl, SqT.of (s _ _ c1), rfl, _, _, rfl, _, _, rfl, rfl, rfl, .str w.nm, rfl, _, hG, ?_, same_over s hD2, ?_⟩
      · rw [List.length_map, List.length_take]
        exact Nat.lt_of_le_of_lt (by omega : _ ≤ 1000) (by decide)
      · rw [upd_same, take_sn hw, List.map_append]
        rfl
    rintro G ⟨s, hG⟩
    rw [List.length_map, w2, List.take_length] at hG
    exact args_end ⟨D2, _, rfl, .inl ⟨SqL.of hG, fun a ha => q _ a (s.trans (same_upd ha)) upd_same⟩⟩
def sp_pair_called (K : PySem.W.Frag) : Sp := fun vs H Q _ => ∃ (D : DkD) (w : Wn), vs = [.ref D.x, .str w.nm] ∧ DkAt K H D ∧ w ∈ D.ws ∧ (D.ws.map (·.nm)).Nodup ∧ Q (.ref w.p) H
theorem ok_pair_called {f : Addr} {fd : FuncData} (T : Txt K mg) (F : FnP K "pair_called" "Desk.pair_called" s_Desk_pair_called f fd) :
    FnOk P w K mg base (L2N.CX P w) 1 f fd ["self", "name"] (sp_pair_called K) := by
  refine F.ok sc_Desk_pair_called (fun vs H Q E h => ?_) (fun cdv A outer s H vs Q E hr h => ?_)
  · obtain ⟨D, w, rfl, _⟩ := h; rfl
  · refine ⟨_, (pss_cons (ps_for (passes_of rfl) rfl (pi_seq (pe_fld (pv 0) rfl)) (pg_tup rfl (pgs_cons (pg_name (i := 2) sc_Desk_pair_called.nd rfl (Or.inl rfl)) (pgs_cons (pg_name (i := 3) sc_Desk_pair_called.nd rfl (Or.inl rfl)) pgs_nil))) (pss_one (ps_if (PW.pt (pw_and (pt_val (pe_callB call_isB (by rfl) (fr_isinstance T) b_isinstance (pa_cons (pv 1) (pa_cons (pe_ty (fr_str T) b_str) pa_nil)))) (pw_and1 (pt_cmpR op_eq (pv 1) (pv 2) (nomark _))))) (pss_one (ps_ret (pv 3))) pss_nil)))
        (pss_one ps_never)), ?_⟩
    obtain ⟨D, w, rfl, ⟨dx, dt, h1, h2, h3, h4, cs, w1, w2, w3⟩, hm, hnd, q⟩ := h
    refine ⟨.ref D.x, rfl, D.x, _, dx, _, _, rfl, h1, cls_Desk T, noat_Desk_worn T, rfl, D.W, _, rfl, .inr ⟨SqT.of w1, fun J WJ => ?_⟩⟩
    refine for_it WJ (fun i σ G => ∃ v2 v3 : Option V, σ = [some (.ref D.x), some (.str w.nm), v2, v3] ∧ G = H ∧ ∀ (j : Nat) w', j < i → D.ws[j]? = some w' → w'.nm ≠ w.nm) ⟨none, none, rfl, rfl, fun j w' hj => absurd hj (Nat.not_lt_zero _)⟩ (fun _ _ _ _ ⟨_, _, _, s, _⟩ => by rw [s]; exact SqT.of w1) ?_ ?_
    · rintro i x σ Gx G hi ⟨v2, v3, rfl, rfl, hne⟩ ⟨eH, hx⟩
      replace eH := eH.symm
      subst eH
      rw [List.getElem?_map] at hx
      obtain ⟨c, hc, rfl⟩ := Option.map_eq_some_iff.mp hx
      obtain ⟨w', hw⟩ : ∃ w, D.ws[i]? = some w := ⟨_, List.getElem?_eq_getElem (by rw [← w2]; exact (List.getElem?_eq_some_iff.mp hc).1)⟩
      obtain ⟨c1, c2⟩ := w3 i c w' hc hw
      refine ⟨c, _, rfl, SqT.of c1, rfl, _, _, rfl, _, _, rfl, rfl, ?_⟩
      dsimp only
      refine one_if (show tAnd _ _ _ _ _ from test_val ⟨.str w.nm, rfl, .str w.nm, "str", kd (.str w.nm), rfl, (Rp.str w.nm).ko, k_str _, _, rfl, iteT (test_op (var_of rfl (var_of rfl ⟨rfl, _, rfl, ?_⟩)))⟩)
      rw [dec_str]
      by_cases e : w.nm = w'.nm
      · rw [decide_eq_true e]
        have ew : w' = w := by
          obtain ⟨i', hi'⟩ := List.mem_iff_getElem?.mp hm
          have e1 : (D.ws.map (·.nm))[i]? = some w.nm := by rw [List.getElem?_map, hw, e]; rfl
          have e2 : (D.ws.map (·.nm))[i']? = some w.nm := by rw [List.getElem?_map, hi']; rfl
          have := (List.getElem?_inj (List.getElem?_eq_some_iff.mp e1).1 hnd).mp (e1.trans e2.symm)
          rw [this, hi'] at hw
          exact (Option.some.inj hw).symm
        refine iteT (ret_te (var_of rfl ?_))
        rw [ew]
        exact q
      · rw [decide_eq_false e]
        refine iteF (go_next ⟨_, _, rfl, rfl, fun j w'' hj h => ?_⟩)
        by_cases hji : j < i
        · exact hne j w'' hji h
        · have : j = i := by omega
          rw [this, hw] at h
          cases h
          exact fun z => e z.symm
    · rintro σ G ⟨v2, v3, rfl, rfl, hne⟩
      exfalso
      obtain ⟨i, hi⟩ := List.mem_iff_getElem?.mp hm
      exact hne i w (by rw [List.length_map, w2]; exact (List.getElem?_eq_some_iff.mp hi).1) hi rfl
def sp_marks (K : PySem.W.Frag) : Sp := fun vs H Q _ => ∃ (D : DkD) (w : Wn) (y : Str) (ds : List Dd), vs = [.ref D.x, .str w.nm] ∧ DkAt K H D ∧ w ∈ D.ws ∧ WsOk D.al D.ws ∧ StAt K H D.k y ds ∧ over D.al 1000 y ∧ ∀ H' r, Same H H' → Rt H' r (encB (marksP w.D y.cps.toList)) → Q r H'
theorem ok_marks {f : Addr} {fd : FuncData} (T : Txt K mg) (F : FnP K "marks" "Desk.marks" s_Desk_marks f fd) :
    FnOk P w K mg base (L2N.CX P w) 4 f fd ["self", "name"] (sp_marks K) := by
  obtain ⟨fdS, FS⟩ := F_Desk_state_now T
  have bS : Binds K fdS ["self"] [] := FS.bindsN fun _ _ _ _ _ _ us hl => match us, hl with | [_], _ => rfl
  obtain ⟨fdC, FC⟩ := F_Desk_pair_called T
  have bC : Binds K fdC ["self", "name"] [] := FC.bindsN fun _ _ _ _ _ _ us hl => match us, hl with | [_, _], _ => rfl
  refine F.ok sc_Desk_marks (fun vs H Q E h => ?_) (fun cdv A outer s H vs Q E hr h => ?_)
  · obtain ⟨D, w, y, ds, rfl, _⟩ := h; rfl
  · refine ⟨_, (pss_one (ps_ret (pe_cal (ok_marks_in T) (hr.mono (by decide)) pass0 (pa_cons (pe_meth (pl := _) (E := E0) (pv 0) (cls_Desk T) (meth_pair_called T) (ok_pair_called T FC) (hr.mono (by decide)) bC .nil passN0 (pa_cons (pv 1) pa_nil)) (pa_cons (pe_ix ix_tup (pe_meth0 (pl := _) (E := E0) (pv 0) (cls_Desk T) (meth_state_now T) (ok_state_now T FS) (hr.mono (by decide)) bS .nil passN0) pe_int (fun _ _ => rfl)) pa_nil))))), ?_⟩
    obtain ⟨D, w, y, ds, rfl, h, hm, ok, ⟨s, u, vD, k1, k2, k3, k4⟩, ho, q⟩ := h
    obtain ⟨dx, dt, h1, h2⟩ := id h
    obtain ⟨i, hi⟩ := List.mem_iff_getElem?.mp hm
    obtain ⟨n1, n2, n3⟩ := ok.ok w hm
    refine ret_te (call_of ⟨.ref D.x, rfl, D.x, dx, _, rfl, h1, rfl, .str w.nm, rfl, D, w, rfl, h, hm, ok.nd, op_of (now_of rfl h k1 (c_of ⟨s, _, _, _, rfl, rfl, SqT.of k2, atI_nat (j := 0) rfl, ?_⟩))⟩)
    obtain ⟨cs, w1, w2, w3⟩ := h2.2.2.2
    obtain ⟨c, hc⟩ : ∃ c, cs[i]? = some c := ⟨_, List.getElem?_eq_getElem (by rw [w2]; exact (List.getElem?_eq_some_iff.mp hi).1)⟩
    exact ⟨w.p, w.D, y, rfl, (w3 i c w hc hi).2, n2, by rw [n3]; exact ho.2, ho.1, fun H' r s' hr' => q H' r s' hr'⟩
end
end Kx
set_option Elab.async false
set_option linter.all false
set_option maxRecDepth 100000
set_option maxHeartbeats 4000000
namespace Kx
open PySem PySem.Spec PyProof.Rows L2
theorem HandAt.but {K : PySem.W.Frag} {H H' : Hp} {x W : Addr} {ws : List Wn} {C dx : Addr} {fs : List (Str × V)} (h : HandAt K H W ws) (hx : H x = some (.ins C dx fs)) (hf : fs.length < 5) (s : SameX x H H') : HandAt K H' W ws := by
  obtain ⟨cs, h1, h2, h3⟩ := h
  have t : ∀ b xs, H b = some (.lst xs) → H' b = some (.lst xs) := fun b xs e => s _ _ (fun z => by rw [z, hx] at e; cases e) e
  exact ⟨cs, t _ _ h1, h2, fun i c w e1 e2 => ⟨t _ _ (h3 i c w e1 e2).1, (h3 i c w e1 e2).2.but hx hf s⟩⟩
section
variable {P : Program} {w : World} {K : PySem.W.Frag} {mg : Str → Option Value} {base : Heap}
def sp_Desk_init (K : PySem.W.Frag) : Sp := fun vs H Q _ => ∃ (x dx : Addr) (al y : Str) (a : Addr) (ws : List Wn), vs = [.ref x, .str al, .str y, .ref a] ∧ H x = some (.ins (He.ga K "Desk") dx []) ∧ H dx = some (.own x) ∧ dx ≠ x ∧ alphaD (.str al) = true ∧ over al 200 y ∧ al.length ≤ 100 ∧ HandAt K H a ws ∧ WsOk al ws ∧
  ∀ H' t k W, SameX x H H' → H k = none → DkAt K H' ⟨x, t, k, W, al, ws⟩ → StAt K H' k y [] → Q .non H'
theorem ok_Desk_init {f : Addr} {fd : FuncData} (T : Txt K mg) (F : FnP K "__init__" "Desk.__init__" s_Desk___init__ f fd) :
    FnOk P w K mg base (L2N.CX P w) 5 f fd ["self", "alphabet", "row", "marks"] (sp_Desk_init K) := by
  obtain ⟨fdT, FT⟩ := F_Trial___init__ T
  have bT : Binds K fdT ["self", "state"] [] := FT.bindsN fun _ _ _ _ _ _ us hl => match us, hl with | [_, _], _ => rfl
  refine F.ok sc_Desk___init__ (fun vs H Q E h => ?_) (fun cdv A outer s H vs Q E hr h => ?_)
  · obtain ⟨x, dx, al, y, a, ws, rfl, _⟩ := h; rfl
  · refine ⟨_, (pss_cons (ps_expr (pe_cal (E := E) (ok_check_alphabet T) (hr.mono (by decide)) (L2N.passes_call (L2N.takes_of rfl rfl rfl rfl) (fun _ _ _ _ h => h)) (pa_cons (pv 1) pa_nil)))
        (pss_cons (ps_expr (pe_cal (E := E) (ok_check_row T) (hr.mono (by decide)) (L2N.passes_call (L2N.takes_of rfl rfl rfl rfl) (fun _ _ _ _ h => h)) (pa_cons (pv 1) (pa_cons (pv 2) pa_nil))))
        (pss_cons (ps_fld (pv 0) (pv 1) rfl)
        (pss_cons (ps_fld (pv 0) (pe_cal (ok_kept_marks T) (hr.mono (by decide)) pass0 (pa_cons (pv 1) (pa_cons (pv 3) pa_nil))) rfl)
        (pss_one (ps_fld (pv 0) (pe_makeS (E := fun _ => E0) (mkr_Trial T) (ok_Trial_init T FT) (hr.mono (by decide)) (by rfl) (g_Trial T) bT passAt0 (pa_cons (pe_tup (pa_cons (pv 2) (pa_cons (pe_tup pa_nil) (pa_cons (pe_tup pa_nil) pa_nil)))) pa_nil)) rfl)))))), ?_⟩
    obtain ⟨x, dx, al, y, a, ws, rfl, hx, hdx, hne, hal, hy, hal8, hh, ok, q⟩ := h
    have C := cls_Desk T
    refine seq_exp (call_of ⟨.str al, rfl, .str al, .str al, rfl, .str al, smallT_str (by omega), fun h => (by rw [hal] at h; cases h), fun _ H1 s1 => seq_exp (call_of ⟨.str al, rfl, .str y, rfl, al, .str y, .str y, rfl, .str y, smallT_str (by have := hy.1; omega), fun k e => (by rw [wrong_over hy (by omega)] at e; cases e), fun _ H2 s2 => ?_⟩)⟩)
    have s12 := s1.trans s2
    have hx2 := s12 _ _ hx
    refine ⟨.str al, rfl, .ref x, rfl, x, _, dx, [], rfl, hx2, C, noat_Desk_alphabet T, (by decide), ?_⟩
    have hh3 : HandAt K (upd H2 x (.ins (He.ga K "Desk") dx (putF "alphabet" (.str al) []))) a ws := (hh.same s12).but hx2 (by decide) sameX_upd
    refine ⟨.str al, rfl, .ref a, rfl, al, a, ws, rfl, hh3, ok, fun H4 W s4 hW => ?_⟩
    have hx4 := s4 _ _ (upd_same (H := H2) (a := x) (o := .ins (He.ga K "Desk") dx (putF "alphabet" (.str al) [])))
    refine ⟨.ref x, rfl, x, _, dx, _, rfl, hx4, C, noat_Desk_worn T, (by show 1 < 1000; decide), ?_⟩
    have hW5 : WornAt K (upd H4 x (.ins (He.ga K "Desk") dx (putF "worn" (.ref W) (putF "alphabet" (.str al) [])))) W ws := hW.but hx4 (by show 1 < 5; decide) sameX_upd
    have sX5 : SameX x H (upd H4 x (.ins (He.ga K "Desk") dx (putF "worn" (.ref W) (putF "alphabet" (.str al) [])))) := ((((sX s12).trans sameX_upd).trans (sX s4)).trans sameX_upd)
    have hx5 : (upd H4 x (.ins (He.ga K "Desk") dx (putF "worn" (.ref W) (putF "alphabet" (.str al) [])))) x = some (.ins (He.ga K "Desk") dx [("alphabet", .str al), ("worn", .ref W)]) := upd_same
    revert hW5 sX5 hx5
    generalize upd H4 x (.ins (He.ga K "Desk") dx (putF "worn" (.ref W) (putF "alphabet" (.str al) []))) = H5
    intro hW5 sX5 hx5
    refine ⟨.str y, rfl, by show 0 ≤ sizeLine; decide, fun u1 hu1 => ⟨by show 0 ≤ sizeLine; decide, fun u2 hu2 => ⟨by show 3 ≤ sizeLine; decide, fun s hs t dt ht hdt htn => ?_⟩⟩⟩
    have sA := same_upd (o := .tup []) hu1
    have sB := same_upd (o := .tup []) hu2
    have sC := same_upd (o := .tup [.str y, .ref u1, .ref u2]) hs
    have e1 : upd H5 u1 (.tup []) u1 = some (.tup []) := upd_same
    have e2 : upd (upd H5 u1 (.tup [])) u2 (.tup []) u2 = some (.tup []) := upd_same
    have e3 : upd (upd (upd H5 u1 (.tup [])) u2 (.tup [])) s (.tup [.str y, .ref u1, .ref u2]) s = some (.tup [.str y, .ref u1, .ref u2]) := upd_same
    have sABC := sA.trans (sB.trans sC)
    have e1' := sC _ _ (sB _ _ e1)
    have e2' := sC _ _ e2
    revert sABC e1' e2' e3 ht hdt
    generalize upd (upd (upd H5 u1 (.tup [])) u2 (.tup [])) s (.tup [.str y, .ref u1, .ref u2]) = H6
    intro ht hdt e3 sABC e1' e2'
    have sD : Same H6 (upd H6 dt (.own t)) := same_upd hdt
    have ht7 : upd H6 dt (.own t) t = none := by rw [upd_ne (Ne.symm htn)]; exact ht
    have sE := same_upd (o := .ins (He.ga K "Trial") dt []) ht7
    have sDE := sD.trans sE
    have edt : upd (upd H6 dt (.own t)) t (.ins (He.ga K "Trial") dt []) dt = some (.own t) := by rw [upd_ne htn]; exact upd_same
    refine ⟨t, dt, .ref s, rfl, upd_same, fun H8 k keep hk hTop hKept => ⟨rfl, .ref x, rfl, x, _, dx, [("alphabet", .str al), ("worn", .ref W)], rfl, ?_, C, noat_Desk_trials T, (by show 2 < 1000; decide), ?_⟩⟩
    · have hxt : x ≠ t := fun z => by rw [z] at hx5; rw [none_of sABC ht] at hx5; cases hx5
      exact keep _ _ hxt (sDE _ _ (sABC _ _ hx5))
    have t6 : ∀ b u, H6 b = some u → H8 b = some u := fun b u e => keep b u (ne_of_none e ht) (sDE _ _ e)
    have hx8 := t6 _ _ (sABC _ _ hx5)
    have hW8 : WornAt K H8 W ws := hW5.same (sABC.trans t6)
    have hk6 := none_of sDE hk
    have hk5 := none_of sABC hk6
    have hkx : k ≠ x := fun z => by rw [z, hx5] at hk5; cases hk5
    have htx : t ≠ x := fun z => by rw [z] at ht; rw [none_of sABC ht] at hx5; cases hx5
    have hdtx : dt ≠ x := fun z => by rw [z] at hdt; rw [none_of sABC hdt] at hx5; cases hx5
    have tup9 : ∀ {b : Addr} {xs : List V}, H8 b = some (.tup xs) → upd H8 x (.ins (He.ga K "Desk") dx (putF "trials" (.ref t) [("alphabet", .str al), ("worn", .ref W)])) b = some (.tup xs) := fun e => by
      rw [upd_ne (fun z => by rw [z, hx8] at e; cases e)]
      exact e
    refine q _ t k W ((((sX5.trans (sX sABC)).trans (sX t6))).trans sameX_upd) ?_ ⟨dx, dt, upd_same, ?_, ?_, ?_, hW8.but hx8 (by show 2 < 5; decide) sameX_upd⟩ ⟨s, u2, .ref u1, ?_, tup9 (t6 _ _ e3), ⟨u1, [], rfl, tup9 (t6 _ _ e1'), rfl, fun i c d e => by simp at e⟩, tup9 (t6 _ _ e2')⟩
    · cases e : H k with
      | none => rfl
      | some u => rw [sX5 _ _ hkx e] at hk5; cases hk5
    · rw [upd_ne hne]
      exact t6 _ _ (sABC _ _ (sX5 _ _ hne hdx))
    · show upd H8 x _ t = _
      rw [upd_ne htx]
      exact hTop
    · rw [upd_ne hdtx]
      exact keep _ _ htn edt
    · obtain ⟨dk, k1, k2⟩ := hKept
      refine ⟨dk, by rw [upd_ne hkx]; exact k1, ?_⟩
      rw [upd_ne (fun z => by rw [z, hx8] at k2; cases k2)]
      exact k2
end
end Kx
set_option Elab.async false
set_option linter.all false
set_option maxRecDepth 100000
set_option maxHeartbeats 4000000
namespace Kx
open PySem PySem.Spec PyProof.Rows L2
/-! ### what turns -/
def turnW (w : Wn) (y z : List Nat) (kp : List (Nat × Nat)) : List NP := (kp.filter fun p => !decide ((marksP w.D y)[p.1]? = (marksP w.D z)[p.2]?)).map fun p => (w.nm, p.2)
def turnL (ws : List Wn) (y z : List Nat) (kp : List (Nat × Nat)) : List NP := ws.flatMap fun w => turnW w y z kp
def TurnAt (H : Hp) (v : V) (ps : List NP) : Prop := ∃ (a : Addr) (bs : List Addr), v = .ref a ∧ H a = some (.tup (bs.map V.ref)) ∧ bs.length = ps.length ∧ ∀ (i : Nat) b p, bs[i]? = some b → ps[i]? = some p → H b = some (.tup [.str p.1, .int (p.2 : Nat)])
theorem NPAt.push {H : Hp} {l t : Addr} {ps : List NP} {p : NP} (h : NPAt H l ps) (ht : H t = some (.tup [.str p.1, .int (p.2 : Nat)])) : ∃ xs, H l = some (.lst xs) ∧ xs.length = ps.length ∧ NPAt (upd H l (.lst (xs ++ [.ref t]))) l (ps ++ [p]) := by
  obtain ⟨bs, h1, h2, h3⟩ := h
  refine ⟨_, h1, by rw [List.length_map, h2], bs ++ [t], by rw [upd_same, List.map_append]; rfl, by rw [List.length_append, List.length_append, h2]; rfl, fun i b q e1 e2 => ?_⟩
  have key : H b = some (.tup [.str q.1, .int (q.2 : Nat)]) := by
    by_cases hi : i < bs.length
    · rw [List.getElem?_append_left hi] at e1
      rw [List.getElem?_append_left (by omega)] at e2
      exact h3 i b q e1 e2
    · rw [List.getElem?_append_right (by omega)] at e1
      rw [List.getElem?_append_right (by omega)] at e2
      have : i - bs.length = 0 := by
        have := (List.getElem?_eq_some_iff.mp e1).1
        have e : ([t] : List Addr).length = 1 := rfl
        omega
      rw [this] at e1
      rw [show i - ps.length = 0 by omega] at e2
      cases e1
      cases e2
      exact ht
  rw [upd_ne (fun z => by rw [z, h1] at key; cases key)]
  exact key
theorem NPAt.cat {H : Hp} {l m p : Addr} {ps qs : List NP} (h : NPAt H l ps) (g : NPAt H m qs) (hp : H p = none) : ∃ xs zs, H l = some (.lst xs) ∧ H m = some (.lst zs) ∧ xs.length = ps.length ∧ zs.length = qs.length ∧ NPAt (upd H p (.lst (xs ++ zs))) p (ps ++ qs) := by
  obtain ⟨bs, h1, h2, h3⟩ := h
  obtain ⟨cs, g1, g2, g3⟩ := g
  refine ⟨_, _, h1, g1, by rw [List.length_map, h2], by rw [List.length_map, g2], bs ++ cs, by rw [upd_same, List.map_append], by rw [List.length_append, List.length_append, h2, g2], fun i b q e1 e2 => ?_⟩
  have key : H b = some (.tup [.str q.1, .int (q.2 : Nat)]) := by
    by_cases hi : i < bs.length
    · rw [List.getElem?_append_left hi] at e1
      rw [List.getElem?_append_left (by omega)] at e2
      exact h3 i b q e1 e2
    · rw [List.getElem?_append_right (by omega)] at e1
      rw [List.getElem?_append_right (by omega)] at e2
      rw [h2] at e1
      exact g3 _ b q e1 e2
  rw [upd_ne (ne_of_none key hp)]
  exact key
theorem turnL_snoc {ws : List Wn} {i : Nat} {w : Wn} {y z : List Nat} {kp : List (Nat × Nat)} (h : ws[i]? = some w) : turnL (ws.take (i + 1)) y z kp = turnL (ws.take i) y z kp ++ turnW w y z kp := by
  unfold turnL
  rw [take_sn h, List.flatMap_append]
  simp
theorem turnW_len {w : Wn} {y z : List Nat} {kp : List (Nat × Nat)} : (turnW w y z kp).length ≤ kp.length := by
  unfold turnW
  rw [List.length_map]
  exact List.length_filter_le ..
theorem turnL_len {y z : List Nat} {kp : List (Nat × Nat)} : ∀ {ws : List Wn}, (turnL ws y z kp).length ≤ ws.length * kp.length
  | [] => by simp [turnL]
  | w :: ws => by
    have h1 := turnL_len (y := y) (z := z) (kp := kp) (ws := ws)
    have h2 := turnW_len (w := w) (y := y) (z := z) (kp := kp)
    unfold turnL at *
    rw [List.flatMap_cons, List.length_append, List.length_cons, Nat.succ_mul]
    omega
theorem marksP_len {D : PairD} {cs : List Nat} : (marksP D cs).length = cs.length := by
  unfold marksP
  rw [List.length_map, List.length_zip, List.length_zip, aheadT_length, behindT_length]
  omega
theorem rt_bools {H : Hp} {r : V} {bs : List Bool} (h : Rt H r (encB bs)) : ∃ a, r = .ref a ∧ H a = some (.tup (bs.map V.bl)) := by
  unfold encB at h
  cases h with
  | @tup a xs _ e hl =>
    refine ⟨a, rfl, ?_⟩
    rw [e]
    congr 2
    have gen : ∀ {xs : List V} {bs : List Bool}, RtL H xs (bs.map PyData.bool) → xs = bs.map V.bl := by
      intro xs bs
      induction bs generalizing xs with
      | nil => intro h; cases h; rfl
      | cons b bs ih =>
        intro h
        cases h with
        | cons h1 h2 =>
          cases h1
          rw [ih h2]
          rfl
    exact gen hl
section
variable {P : Program} {w : World} {K : PySem.W.Frag} {mg : Str → Option Value} {base : Heap}
def sp_moved (K : PySem.W.Frag) : Sp := fun vs H Q _ => ∃ (D : DkD) (y : Str) (ds ds' : List Dd) (d : Dd) (a u : Addr) (vD : V), vs = [.ref D.x, .ref a, vD, .ref u] ∧ DkAt K (del H D.k) D ∧ StAt K H D.k y ds ∧ del H D.k a = some (.tup d.vs) ∧ LogAt (del H D.k) vD ds' ∧ del H D.k u = some (.tup []) ∧ WsOk D.al D.ws ∧ over D.al 200 y ∧
  (∀ z : Str, z.cps.toList = d.row y.cps.toList → over D.al 200 z) ∧ (∀ p ∈ d.kept y.length, p.1 < y.length ∧ p.2 < (d.row y.cps.toList).length) ∧
  ∀ H' r z, z.cps.toList = d.row y.cps.toList → Same (del H D.k) (del H' D.k) → StAt K H' D.k z ds' → TurnAt (del H' D.k) r ((turnL D.ws y.cps.toList z.cps.toList (d.kept y.length)).mergeSort leN) → Q r H'
theorem ok_moved {f : Addr} {fd : FuncData} (T : Txt K mg) (F : FnP K "moved" "Desk.moved" s_Desk_moved f fd) :
    FnOk P w K mg base (L2N.CX P w) 4 f fd ["self", "deed", "done", "undone"] (sp_moved K) := by
  obtain ⟨fdS, FS⟩ := F_Desk_state_now T
  have bS : Binds K fdS ["self"] [] := FS.bindsN fun _ _ _ _ _ _ us hl => match us, hl with | [_], _ => rfl
  refine F.ok sc_Desk_moved (fun vs H Q E h => ?_) (fun cdv A outer s H vs Q E hr h => ?_)
  · obtain ⟨D, y, ds, ds', d, a, u, vD, rfl, _⟩ := h; rfl
  · refine ⟨_, (pss_cons (ps_set (i := 4) sc_Desk_moved.nd rfl (Or.inl rfl) (pe_ix ix_tup (pe_meth0 (pl := _) (E := E0) (pv 0) (cls_Desk T) (meth_state_now T) (ok_state_now T FS) (hr.mono (by decide)) bS .nil passN0) pe_int (fun _ _ => rfl)))
        (pss_cons (ps_set (i := 5) sc_Desk_moved.nd rfl (Or.inl rfl) (pe_cal (ok_row_behind T) (hr.mono (by decide)) pass0 (pa_cons (pv 4) (pa_cons (pv 1) pa_nil))))
        (pss_cons (ps_set (i := 6) sc_Desk_moved.nd rfl (Or.inl rfl) (pe_cal (ok_places_kept T) (hr.mono (by decide)) pass0 (pa_cons (pv 1) (pa_cons (pe_callB call_len (by rfl) (fr_len T) boot_len (pa_cons (pv 4) pa_nil)) pa_nil))))
        (pss_cons (ps_set (i := 7) sc_Desk_moved.nd rfl (Or.inl rfl) (pe_lst pa_nil))
        (pss_cons (ps_for (passes_of rfl) rfl (pi_seq (pe_fld (pv 0) rfl)) (pg_tup rfl (pgs_cons (pg_name (i := 8) sc_Desk_moved.nd rfl (Or.inr rfl)) (pgs_cons (pg_name (i := 9) sc_Desk_moved.nd rfl (Or.inl rfl)) pgs_nil))) (pss_cons (ps_asg (pe_tup (pa_cons (pe_cal (ok_marks_in T) (hr.mono (by decide)) pass0 (pa_cons (pv 9) (pa_cons (pv 4) pa_nil))) (pa_cons (pe_cal (ok_marks_in T) (hr.mono (by decide)) pass0 (pa_cons (pv 9) (pa_cons (pv 5) pa_nil))) pa_nil))) (pg_tup rfl (pgs_cons (pg_name (i := 10) sc_Desk_moved.nd rfl (Or.inr rfl)) (pgs_cons (pg_name (i := 11) sc_Desk_moved.nd rfl (Or.inr rfl)) pgs_nil))))
        (pss_one (ps_set (i := 7) sc_Desk_moved.nd rfl (Or.inl rfl) (pe_op op_cat (pv 7) (pe_lc (own := [("here", 13), ("there", 14)]) (g := (gTup K 2 (gCons (gName 13) (gCons (gName 14) gNil)))) (tt := tTest (tOp rNe (tOp (rIxT K) (tVar 10) (tVar 13)) (tOp (rIxT K) (tVar 11) (tVar 14)))) rfl sc_Desk_moved.nd  (pi_list (pv 6)) (blkOk_by (N := N_Desk_moved) (sc := defScope s_Desk_moved) (by decide +kernel)) (fun _ _ _ _ _ => (pg_tup rfl (pgs_cons (pg_name (i := 13) sc_Desk_moved.nd rfl (Or.inl rfl)) (pgs_cons (pg_name (i := 14) sc_Desk_moved.nd rfl (Or.inl rfl)) pgs_nil)))) (fun _ _ _ _ _ => by refine pts_one (pt_cmpR (r := rNe) ?_ (pe_ix (r := rIxT K) ?_ (pv 10) (pv 13) (fun _ _ => rfl)) (pe_ix (r := rIxT K) ?_ (pv 11) (pv 14) (fun _ _ => rfl)) (nomark _)); exact op_ne; exact ix_tup; exact ix_tup) (fun _ _ _ _ _ => (pe_tup (pa_cons (pv 8) (pa_cons (pv 14) pa_nil))))))))))
        (pss_cons (ps_set (i := 12) sc_Desk_moved.nd rfl (Or.inl rfl) (pe_fld (pe_fld (pv 0) rfl) rfl))
        (pss_cons (ps_fld (pv 12) (pe_tup (pa_cons (pv 5) (pa_cons (pv 2) (pa_cons (pv 3) pa_nil)))) rfl)
        (pss_one (ps_ret (pe_callTy call_tuple_of (by rfl) (fr_tuple T) b_tuple (pa_cons (pe_callB (cr_sortedN (hu64 hr)) (by rfl) (fr_sorted T) b_sorted (pa_cons (pv 7) pa_nil)) pa_nil))))))))))), ?_⟩
    obtain ⟨D, y, ds, ds', d, a, u, vD, rfl, hD, ⟨s, u0, vD0, k1, k2, k3, k4⟩, hd, hL, hu, ok, hy, hz, hkp, q⟩ := h
    have hy200 := hy.1
    have hDH := hD.same (del_le D.k)
    have hlen : (d.kept y.length).length ≤ 200 := by
      cases d <;> simp only [Dd.kept, List.length_map, List.length_range, List.length_nil] <;> first | omega | (refine Nat.le_trans (List.length_filter_le ..) ?_; rw [List.length_range]; omega)
    refine asg_set (op_of (now_of rfl hDH k1 (c_of ⟨s, _, _, _, rfl, rfl, SqT.of k2, atI_nat (j := 0) rfl, ?_⟩)))
    rintro σ1 rfl
    refine asg_set (call_of ⟨.str y, rfl, .ref a, rfl, y, a, d, rfl, del_le _ _ _ hd, by omega, fun z hzc => ?_⟩)
    rintro σ2 rfl
    have hzo := hz z hzc
    have lz : z.cps.toList.length = z.length := Array.length_toList
    have ly : y.cps.toList.length = y.length := Array.length_toList
    refine asg_set (call_of ⟨.ref a, rfl, lenS rfl (by omega) ⟨a, y.length, d, rfl, del_le _ _ _ hd, by omega, fun H1 l s1 hl hP => ?_⟩⟩)
    rintro σ3 rfl
    refine asg_set ⟨by show 0 ≤ sizeLine; decide, fun tl htl => ?_⟩
    rintro σ4 rfl
    have s2 := s1.trans (same_upd (o := .lst []) htl)
    obtain ⟨dx, dt, h1, h2, h3, h4, cs, w1, w2, w3⟩ := id hDH
    obtain ⟨bs, p1, p2, p3⟩ := hP
    refine ⟨.ref D.x, rfl, D.x, _, dx, _, _, rfl, s2 _ _ h1, cls_Desk T, noat_Desk_worn T, rfl, D.W, _, rfl, .inr ⟨SqT.of (s2 _ _ w1), fun J WJ => ?_⟩⟩
    refine for_it WJ (fun i σ G => ∃ (t7 : Addr) (v8 v9 v10 v11 : Option V), σ = [some (.ref D.x), some (.ref a), some vD, some (.ref u), some (.str y), some (.str z), some (.ref l), some (.ref t7), v8, v9, v10, v11, none, none, none] ∧ Same H1 G ∧ NPAt G t7 (turnL (D.ws.take i) y.cps.toList z.cps.toList (d.kept y.length)))
      ⟨tl, none, none, none, none, rfl, same_upd htl, [], upd_same, rfl, fun i b p e => by simp at e⟩ (fun i σ G _ ⟨_, _, _, _, _, _, s, _⟩ => SqT.of (s _ _ (s1 _ _ w1))) ?_ ?_
    · rintro i x σ Gx G hi ⟨t7, v8, v9, v10, v11, rfl, sG, hN⟩ ⟨rfl, hx⟩
      rw [List.getElem?_map] at hx
      obtain ⟨c, hc, rfl⟩ := Option.map_eq_some_iff.mp hx
      obtain ⟨w, hw⟩ : ∃ w, D.ws[i]? = some w := ⟨_, List.getElem?_eq_getElem (by rw [← w2]; exact (List.getElem?_eq_some_iff.mp hc).1)⟩
      obtain ⟨c1, c2⟩ := w3 i c w hc hw
      obtain ⟨n1, n2, n3⟩ := ok.ok w (List.mem_of_getElem? hw)
      have s0G := s1.trans sG
      refine ⟨c, _, rfl, SqT.of (s0G _ _ c1), rfl, _, _, rfl, _, _, rfl, rfl, ?_⟩
      dsimp only
      refine ⟨.ref w.p, rfl, .str y, rfl, w.p, w.D, y, rfl, c2.same s0G, n2, by rw [n3]; exact hy.2, by omega, fun H2 r1 sa hr1 => ⟨.ref w.p, rfl, .str z, rfl, w.p, w.D, z, rfl, c2.same (s0G.trans sa), n2, by rw [n3]; exact hzo.2, by have := hzo.1; omega, fun H3 r2 sb hr2 => ⟨by show 2 ≤ sizeLine; decide, fun t ht => ⟨t, _, rfl, SqT.of upd_same, rfl, _, _, rfl, _, _, rfl, rfl, ?_⟩⟩⟩⟩
      have sc := same_upd (o := .tup [r1, r2]) ht
      obtain ⟨o1, rfl, hr1⟩ := rt_bools (hr1.tups (Same.tups (sb.trans sc)))
      obtain ⟨o2, rfl, hr2⟩ := rt_bools (hr2.tups (Same.tups sc))
      have sabc := sa.trans (sb.trans sc)
      revert sabc hr1 hr2
      generalize upd H3 t (.tup [.ref o1, .ref o2]) = G4
      intro hr1 hr2 sabc
      dsimp only
      refine asg_end (op_of (var_of rfl ⟨.ref l, rfl, l, rfl, ⟨_, SqL.of (sabc _ _ (sG _ _ p1))⟩, fun D2 hD2 => ?_⟩))
      refine lc_it walk_list (fun j G => Same G4 G ∧ NPAt G D2 (turnW w y.cps.toList z.cps.toList ((d.kept y.length).take j))) ⟨same_upd hD2, [], upd_same, rfl, fun i b p e => by simp at e⟩ (fun j G _ ⟨s, _⟩ => SqL.of (s _ _ (sabc _ _ (sG _ _ p1)))) ?_ ?_
      · rintro j x Gx G5 hj ⟨s5, hN5⟩ ⟨rfl, hx⟩
        rw [List.getElem?_map] at hx
        obtain ⟨b, hb, rfl⟩ := Option.map_eq_some_iff.mp hx
        obtain ⟨p, hp⟩ : ∃ p, (d.kept y.length)[j]? = some p := ⟨_, List.getElem?_eq_getElem (by rw [← p2]; exact (List.getElem?_eq_some_iff.mp hb).1)⟩
        obtain ⟨q1, q2⟩ := hkp p (List.mem_of_getElem? hp)
        have hbt := s5 _ _ (sabc _ _ (sG _ _ (p3 j b p hb hp)))
        refine ⟨b, _, rfl, SqT.of hbt, rfl, _, _, rfl, _, _, rfl, rfl, ?_⟩
        obtain ⟨b1, e1⟩ : ∃ b1, (marksP w.D y.cps.toList)[p.1]? = some b1 := ⟨_, List.getElem?_eq_getElem (by rw [marksP_len]; omega)⟩
        obtain ⟨b2, e2⟩ : ∃ b2, (marksP w.D z.cps.toList)[p.2]? = some b2 := ⟨_, List.getElem?_eq_getElem (by rw [marksP_len, hzc]; omega)⟩
        refine ⟨rfl, test_op (op_of (var_of rfl (var_of rfl ⟨o1, _, _, .bl b1, rfl, rfl, SqT.of (s5 _ _ hr1), atI_nat (by rw [List.getElem?_map, e1]; rfl), op_of (var_of rfl (var_of rfl ⟨o2, _, _, .bl b2, rfl, rfl, SqT.of (s5 _ _ hr2), atI_nat (by rw [List.getElem?_map, e2]; rfl), ⟨rfl, _, rfl, ?_⟩⟩))⟩)))⟩
        have eb : (!decide (V.bl b1 = V.bl b2)) = !decide ((marksP w.D y.cps.toList)[p.1]? = (marksP w.D z.cps.toList)[p.2]?) := by
          rw [e1, e2]
          cases b1 <;> cases b2 <;> rfl
        rw [eb]
        have stp : turnW w y.cps.toList z.cps.toList ((d.kept y.length).take (j + 1)) = turnW w y.cps.toList z.cps.toList ((d.kept y.length).take j) ++ ([p].filter fun p => !decide ((marksP w.D y.cps.toList)[p.1]? = (marksP w.D z.cps.toList)[p.2]?)).map fun p => (w.nm, p.2) := by
          unfold turnW
          rw [take_sn hp, List.filter_append, List.map_append]
        rw [stp]
        refine or_ite (fun hb => ?_) fun hb => ⟨s5, ?_⟩
        · refine ⟨.str w.nm, rfl, .int (p.2 : Nat), rfl, by show 2 ≤ sizeLine; decide, fun t ht => ?_⟩
          have st := same_upd (o := .tup [.str w.nm, .int (p.2 : Nat)]) ht
          obtain ⟨xs, x1, x2, x3⟩ := (hN5.same st).push (p := (w.nm, p.2)) upd_same
          refine ⟨xs, x1, ?_, same_over (s5.trans st) hD2, ?_⟩
          · rw [x2]
            have := turnW_len (w := w) (y := y.cps.toList) (z := z.cps.toList) (kp := (d.kept y.length).take j)
            rw [List.length_take] at this
            exact Nat.lt_of_le_of_lt (by omega : _ ≤ 1000) (by decide)
          · rw [List.filter_cons, hb]
            exact x3
        · rw [List.filter_cons, hb]
          simpa using hN5
      · rintro G5 ⟨s5, hN5⟩
        rw [List.length_map, p2, List.take_length] at hN5
        have hN6 := (hN.same sabc).same s5
        obtain ⟨bs7, e7, l7, f7⟩ := id hN6
        obtain ⟨bs5, e5, l5, f5⟩ := id hN5
        refine ⟨t7, D2, bs7.map V.ref, bs5.map V.ref, rfl, rfl, e7, e5, ?_, fun p hp => ?_⟩
        · have g1 := turnL_len (y := y.cps.toList) (z := z.cps.toList) (kp := d.kept y.length) (ws := D.ws.take i)
          have g2 := turnW_len (w := w) (y := y.cps.toList) (z := z.cps.toList) (kp := d.kept y.length)
          have g3 : (D.ws.take i).length * (d.kept y.length).length ≤ 20 * 200 := Nat.mul_le_mul (by rw [List.length_take]; have := ok.le; omega) hlen
          rw [List.length_map, List.length_map, l7, l5]
          exact Nat.le_trans (by omega : _ ≤ 20 * 200 + 200) (by decide)
        obtain ⟨xs, zs, x1, x2, x3, x4, x5⟩ := NPAt.cat hN6 hN5 hp
        rw [e7] at x1
        rw [e5] at x2
        cases x1
        cases x2
        rintro σ' rfl
        exact ⟨p, _, _, _, _, rfl, sG.trans (sabc.trans (s5.trans (same_upd hp))), by rw [turnL_snoc hw]; exact x5⟩
    · rintro σ G ⟨t7, v8, v9, v10, v11, rfl, sG, hN⟩
      rw [List.length_map, w2, List.take_length] at hN
      dsimp only
      have s0G := s1.trans sG
      obtain ⟨dk, kk1, kk2⟩ := k1
      refine asg_set ⟨.ref D.x, rfl, D.x, _, dx, _, _, rfl, s0G _ _ h1, cls_Desk T, noat_Desk_trials T, rfl, D.t, _, dt, _, _, rfl, s0G _ _ h3, cls_Trial T, noat_Trial_top T, rfl, ?_⟩
      rintro σ5 rfl
      refine ⟨.str z, rfl, vD, rfl, .ref u, rfl, by show 3 ≤ sizeLine; decide, fun s' hs' => ⟨.ref D.k, rfl, D.k, _, dk, _, rfl, (s0G.trans (same_upd hs')) _ _ kk1, cls_Kept T, noat_Kept_state T, (by show 2 < 1000; decide), ?_⟩⟩
      have sH := s0G.trans (same_upd (o := .tup [.str z, vD, .ref u]) hs')
      have hk0 : D.k ≠ s' := fun e => by have h := s0G _ _ kk1; rw [e, hs'] at h; cases h
      have hdk : dk ≠ D.k := fun e => by rw [e, kk1] at kk2; cases kk2
      obtain ⟨G9, e9⟩ : ∃ G9, G9 = upd (upd G s' (.tup [.str z, vD, .ref u])) D.k (.ins (He.ga K "Kept") dk (putF "state" (.ref s') [("state", .ref s), ("below", .non)])) := ⟨_, rfl⟩
      rw [← e9]
      have d9 : del G9 D.k = del (upd G s' (.tup [.str z, vD, .ref u])) D.k := by
        rw [e9]
        funext b
        by_cases hb : b = D.k
        · subst hb; rw [del_same, del_same]
        · rw [del_ne hb, del_ne hb, upd_ne hb]
      have same9 : Same (del H D.k) (del G9 D.k) := by rw [d9]; exact same_del _ sH
      have kept9 : KeptAt K G9 D.k (.ref s') := ⟨dk, by rw [e9]; exact upd_same, by rw [e9, upd_ne hdk]; exact sH _ _ kk2⟩
      have es9 : G9 s' = some (.tup [.str z, vD, .ref u]) := by rw [e9, upd_ne (Ne.symm hk0)]; exact upd_same
      have hN9 : NPAt G9 t7 (turnL D.ws y.cps.toList z.cps.toList (d.kept y.length)) := by
        obtain ⟨bs, g1, g2, g3⟩ := hN.same (same_upd (o := .tup [.str z, vD, .ref u]) hs')
        have nk : ∀ {b : Addr} {o : HO}, (upd G s' (.tup [.str z, vD, .ref u])) b = some o → (∀ C dx fs, o ≠ .ins C dx fs) → G9 b = some o := fun e h => by
          rw [e9, upd_ne (fun z' => by rw [z', sH _ _ kk1] at e; exact h _ _ _ (Option.some.inj e).symm)]
          exact e
        exact ⟨bs, nk g1 (fun _ _ _ z => by cases z), g2, fun i b p e1 e2 => nk (g3 i b p e1 e2) (fun _ _ _ z => by cases z)⟩
      have htl : (turnL D.ws y.cps.toList z.cps.toList (d.kept y.length)).length ≤ 100000 := by
        have g1 := turnL_len (y := y.cps.toList) (z := z.cps.toList) (kp := d.kept y.length) (ws := D.ws)
        have g3 : D.ws.length * (d.kept y.length).length ≤ 20 * 200 := Nat.mul_le_mul ok.le hlen
        omega
      dsimp only
      refine ret_te (cb_of (args_of ?_))
      refine cb_of (args_of (var_of rfl (args_end ?_)))
      refine ⟨t7, _, rfl, hN9, htl, fun p o hp hNP => args_end ?_⟩
      have spo : Same G9 (upd G9 p o) := same_upd hp
      obtain ⟨bs, b1, b2, b3⟩ := hNP
      refine ⟨p, _, rfl, .inl ⟨SqL.of b1, fun r hr => ?_⟩⟩
      have sr := spo.trans (same_upd (o := .tup (bs.map V.ref)) hr)
      have nk : ∀ {b : Addr} {o : HO}, G9 b = some o → (∀ C dx fs, o ≠ .ins C dx fs) → b ≠ D.k := fun {b o} e h z' => by
        obtain ⟨dk', g1, _⟩ := kept9
        rw [z', g1] at e
        exact h _ _ _ (Option.some.inj e).symm
      have kN := kept9
      refine q _ (.ref r) z hzc (same9.trans (same_del _ sr)) ⟨s', u, vD, ?_, sr _ _ es9, ?_, ?_⟩ ⟨r, bs, rfl, ?_, b2, fun i b p' e1 e2 => ?_⟩
      · obtain ⟨dk', g1, g2⟩ := kept9
        exact ⟨dk', sr _ _ g1, sr _ _ g2⟩
      · exact hL.same (Same.tups (same9.trans ((del_le D.k).trans sr)))
      · exact (same9.trans ((del_le D.k).trans sr)) _ _ hu
      · rw [del_ne (fun z' => by
          obtain ⟨dk', g1, g2⟩ := kept9
          rw [z', spo _ _ g1] at hr
          cases hr)]
        exact upd_same
      · have g := b3 i b p' e1 e2
        rw [del_ne (fun z' => by
          obtain ⟨dk', g1, g2⟩ := kept9
          rw [z', spo _ _ g1] at g
          cases g)]
        exact same_upd hr _ _ g
end
end Kx
set_option Elab.async false
set_option linter.all false
set_option maxRecDepth 100000
set_option maxHeartbeats 4000000
namespace Kx
open PySem PySem.Spec PyProof.Rows L2
theorem cat_gen {K : PySem.W.Frag} {H : Hp} {t u : Addr} {xs : List V} {y : V} {Q : VK} (h1 : H t = some (.tup xs)) (h2 : H u = some (.tup [y])) (hn : xs.length ≤ 1000) (k : ∀ G r, Same H G → G r = some (.tup (xs ++ [y])) → Q (.ref r) G) : rCatA K (.ref t) (.ref u) H Q := by
  refine ⟨t, u, xs, [y], rfl, rfl, SqT.of h1, SqT.of h2, Nat.le_trans (by show xs.length + 1 ≤ 1001; omega : _ ≤ 1001) (by decide), fun e => k H u (Same.refl H) (by rw [e]; exact h2), fun _ e => (by cases e), fun _ _ p hp => k _ p (same_upd hp) upd_same⟩
theorem below_nat {m : Nat} {d : PyData} (h : belowD (m : Nat) d = true) : ∃ n : Nat, d = .int (n : Nat) ∧ n < m := by
  cases d with
  | int i =>
    have h' : (decide (0 ≤ i) && decide (i < (m : Nat))) = true := h
    rw [Bool.and_eq_true, decide_eq_true_eq, decide_eq_true_eq] at h'
    exact ⟨i.toNat, by congr 1; omega, by omega⟩
  | _ => cases h
theorem letter_of {al : List Nat} {d : PyData} (h : letterL al d = true) : ∃ c, d = .str ⟨#[c]⟩ ∧ c ∈ al := by
  unfold letterL at h
  split at h
  · rename_i z
    split at h
    · rename_i c hc
      refine ⟨c, ?_, of_decide_eq_true h⟩
      congr 1
      exact str_of hc
    · cases h
  · cases h
theorem KeptAt.same {K : PySem.W.Frag} {H H' : Hp} {k : Addr} {v : V} (h : KeptAt K H k v) (s : Same H H') : KeptAt K H' k v := by
  obtain ⟨dk, h1, h2⟩ := h
  exact ⟨dk, s _ _ h1, s _ _ h2⟩
theorem StAt.same {K : PySem.W.Frag} {H H' : Hp} {k : Addr} {y : Str} {ds : List Dd} (h : StAt K H k y ds) (s : Same H H') : StAt K H' k y ds := by
  obtain ⟨t, u, vD, h1, h2, h3, h4⟩ := h
  exact ⟨t, u, vD, h1.same s, s _ _ h2, h3.same (Same.tups s), s _ _ h4⟩
structure DkPre (K : PySem.W.Frag) (H : Hp) (D : DkD) (y : Str) (ds : List Dd) : Prop where
  dk : DkAt K (del H D.k) D
  st : StAt K H D.k y ds
  ws : WsOk D.al D.ws
  y : over D.al 200 y
  n : ds.length ≤ 1000
theorem DkPre.same {K : PySem.W.Frag} {H H' : Hp} {D : DkD} {y : Str} {ds : List Dd} (h : DkPre K H D y ds) (s : Same H H') : DkPre K H' D y ds := ⟨h.dk.same (same_del _ s), h.st.same s, h.ws, h.y, h.n⟩
def DkPost (K : PySem.W.Frag) (H : Hp) (D : DkD) (y : Str) (ds : List Dd) (d : Dd) (Q : VK) : Prop := ∀ H' r z, z.cps.toList = d.row y.cps.toList → Same (del H D.k) (del H' D.k) → StAt K H' D.k z (ds ++ [d]) → TurnAt (del H' D.k) r ((turnL D.ws y.cps.toList z.cps.toList (d.kept y.length)).mergeSort leN) → Q r H'
theorem DkPost.same {K : PySem.W.Frag} {H H' : Hp} {D : DkD} {y : Str} {ds : List Dd} {d : Dd} {Q : VK} (h : DkPost K H D y ds d Q) (s : Same H H') : DkPost K H' D y ds d Q := fun H2 r z e1 e2 e3 e4 => h H2 r z e1 ((same_del _ s).trans e2) e3 e4
theorem row_len {d : Dd} {y : Str} (h : d.ok y) : (d.row y.cps.toList).length = match d with | .put _ _ => y.length + 1 | .take _ _ => y.length - 1 | .change _ _ _ => y.length | .become _ z => z.length := by
  have ly : y.cps.toList.length = y.length := Array.length_toList
  cases d with
  | put k c =>
    have h : k ≤ y.length := h
    simp only [Dd.row, List.length_append, List.length_cons, List.length_take, List.length_drop]
    omega
  | take k c =>
    have h : k < y.length := h
    simp only [Dd.row, List.length_append, List.length_take, List.length_drop]
    omega
  | change k c e =>
    have h : k < y.length := h
    simp only [Dd.row, List.length_append, List.length_cons, List.length_take, List.length_drop]
    omega
  | become a z =>
    simp only [Dd.row]
    exact Array.length_toList
theorem kept_ok {d : Dd} {y : Str} (h : d.ok y) : ∀ p ∈ d.kept y.length, p.1 < y.length ∧ p.2 < (d.row y.cps.toList).length := by
  intro p hp
  rw [row_len h]
  cases d with
  | put k c =>
    have h : k ≤ y.length := h
    obtain ⟨i, hi, rfl⟩ := List.mem_map.mp hp
    have := List.mem_range.mp hi
    dsimp only
    split <;> omega
  | take k c =>
    have h : k < y.length := h
    obtain ⟨i, hi, rfl⟩ := List.mem_map.mp hp
    obtain ⟨h1, h2⟩ := List.mem_filter.mp hi
    have := List.mem_range.mp h1
    have h2 : i ≠ k := by simpa using h2
    dsimp only
    split <;> omega
  | change k c e =>
    obtain ⟨i, hi, rfl⟩ := List.mem_map.mp hp
    have := List.mem_range.mp hi
    exact ⟨this, this⟩
  | become a z => cases hp
theorem row_over {d : Dd} {y z : Str} {al : Str} (h : d.ok y) (hy : over al 200 y) (hz : z.cps.toList = d.row y.cps.toList) (hn : (d.row y.cps.toList).length ≤ 200) (hl : match d with | .put _ c => c ∈ al.cps.toList | .take _ _ => True | .change _ _ e => e ∈ al.cps.toList | .become _ u => ∀ c ∈ u.cps.toList, c ∈ al.cps.toList) : over al 200 z := by
  have lz : z.cps.toList.length = z.length := Array.length_toList
  refine ⟨by rw [← lz, hz]; exact hn, fun c hc => ?_⟩
  rw [hz] at hc
  cases d with
  | put k x =>
    rcases List.mem_append.mp hc with hc | hc
    · exact hy.2 c (List.mem_of_mem_take hc)
    · rcases List.mem_cons.mp hc with rfl | hc
      · exact hl
      · exact hy.2 c (List.mem_of_mem_drop hc)
  | take k x =>
    rcases List.mem_append.mp hc with hc | hc
    · exact hy.2 c (List.mem_of_mem_take hc)
    · exact hy.2 c (List.mem_of_mem_drop hc)
  | change k x e =>
    rcases List.mem_append.mp hc with hc | hc
    · exact hy.2 c (List.mem_of_mem_take hc)
    · rcases List.mem_cons.mp hc with rfl | hc
      · exact hl
      · exact hy.2 c (List.mem_of_mem_drop hc)
  | become a u => exact hl c hc
section
variable {P : Program} {w : World} {K : PySem.W.Frag} {mg : Str → Option Value} {base : Heap}
def sp_doing (K : PySem.W.Frag) : Sp := fun vs H Q _ => ∃ (D : DkD) (y : Str) (ds : List Dd) (d : Dd) (a : Addr), vs = [.ref D.x, .ref a] ∧ DkPre K H D y ds ∧ H a = some (.tup d.vs) ∧ d.ok y ∧ (∀ z : Str, z.cps.toList = d.row y.cps.toList → over D.al 200 z) ∧ DkPost K H D y ds d Q
theorem ok_doing {f : Addr} {fd : FuncData} (T : Txt K mg) (F : FnP K "doing" "Desk.doing" s_Desk_doing f fd) :
    FnOk P w K mg base (L2N.CX P w) 5 f fd ["self", "deed"] (sp_doing K) := by
  obtain ⟨fdS, FS⟩ := F_Desk_state_now T
  have bS : Binds K fdS ["self"] [] := FS.bindsN fun _ _ _ _ _ _ us hl => match us, hl with | [_], _ => rfl
  obtain ⟨fdM, FM⟩ := F_Desk_moved T
  have bM : Binds K fdM ["self", "deed", "done", "undone"] [] := FM.bindsN fun _ _ _ _ _ _ us hl => match us, hl with | [_, _, _, _], _ => rfl
  refine F.ok sc_Desk_doing (fun vs H Q E h => ?_) (fun cdv A outer s H vs Q E hr h => ?_)
  · obtain ⟨D, y, ds, d, a, rfl, _⟩ := h; rfl
  · refine ⟨_, (pss_one (ps_ret (pe_meth (pl := _) (E := E0) (pv 0) (cls_Desk T) (meth_moved T) (ok_moved T FM) (hr.mono (by decide)) bM .nil passN0 (pa_cons (pv 1) (pa_cons (pe_op op_catA (pe_ix ix_tup (pe_meth0 (pl := _) (E := E0) (pv 0) (cls_Desk T) (meth_state_now T) (ok_state_now T FS) (hr.mono (by decide)) bS .nil passN0) pe_int (fun _ _ => rfl)) (pe_tup (pa_cons (pv 1) pa_nil))) (pa_cons (pe_tup pa_nil) pa_nil)))))), ?_⟩
    obtain ⟨D, y, ds, d, a, rfl, pre, hd, hok, hz, q⟩ := h
    obtain ⟨s, u0, vD0, k1, k2, k3, k4⟩ := id pre.st
    obtain ⟨aL, cs, rfl, L1, L2', L3⟩ := k3
    have hDH := pre.dk.same (del_le D.k)
    obtain ⟨dx, dt, h1, h2⟩ := id hDH
    obtain ⟨dk, kk1, kk2⟩ := id k1
    refine ret_te ⟨.ref D.x, rfl, D.x, dx, _, rfl, h1, rfl, args_of (var_of rfl (args_of (op_of (op_of (now_of rfl hDH k1 (c_of ⟨s, _, _, _, rfl, rfl, SqT.of k2, atI_nat (j := 1) rfl, ?_⟩))))))⟩
    refine ⟨.ref a, rfl, by show 1 ≤ sizeLine; decide, fun t ht => ?_⟩
    have st := same_upd (o := .tup [.ref a]) ht
    refine cat_gen (st _ _ L1) upd_same (by rw [List.length_map, L2']; exact pre.n) fun G r s2 hr2 => ?_
    refine args_of ⟨by show 0 ≤ sizeLine; decide, fun u hu => args_end ?_⟩
    have sA := st.trans (s2.trans (same_upd (o := .tup []) hu))
    have su := same_upd (o := .tup []) hu
    have tdel : Tups (upd G u (.tup [])) (del (upd G u (.tup [])) D.k) := sX_del.tups fun xs e => by rw [sA _ _ kk1] at e; cases e
    have pre2 := pre.same sA
    refine ⟨D, y, ds, ds ++ [d], d, a, u, .ref r, rfl, pre2.dk, pre2.st, tdel _ _ (sA _ _ hd), LogAt.same ⟨r, cs ++ [a], rfl, by rw [su _ _ hr2, List.map_append]; rfl, by rw [List.length_append, List.length_append, L2']; rfl, fun i c e e1 e2 => ?_⟩ tdel, tdel _ _ upd_same, pre.ws, pre.y, hz, kept_ok hok, fun H' r' z e1 e2 e3 e4 => q.same sA H' r' z e1 e2 e3 e4⟩
    by_cases hi : i < cs.length
    · rw [List.getElem?_append_left hi] at e1
      rw [List.getElem?_append_left (by omega)] at e2
      exact sA _ _ (L3 i c e e1 e2)
    · rw [List.getElem?_append_right (by omega)] at e1
      rw [List.getElem?_append_right (by omega)] at e2
      have h0 : i - cs.length = 0 := by
        have := (List.getElem?_eq_some_iff.mp e1).1
        have e : ([a] : List Addr).length = 1 := rfl
        omega
      rw [h0] at e1
      rw [show i - ds.length = 0 by omega] at e2
      cases e1
      cases e2
      exact sA _ _ hd
end
end Kx
set_option Elab.async false
set_option linter.all false
set_option maxRecDepth 100000
set_option maxHeartbeats 4000000
namespace Kx
open PySem PySem.Spec PyProof.Rows L2
section
variable {P : Program} {w : World} {K : PySem.W.Frag} {mg : Str → Option Value} {base : Heap}
def sp_put (K : PySem.W.Frag) : Sp := fun vs H Q E => ∃ (D : DkD) (y : Str) (ds : List Dd) (va vb : V) (da db : PyData), vs = [.ref D.x, va, vb] ∧ DkPre K H D y ds ∧ Rp H va da ∧ Rp H vb db ∧ smallT db ∧
  (belowD ((y.length + 1 : Nat)) da = false → errAt (He.ga K "BadPlace") "thing" va H E) ∧
  (belowD ((y.length + 1 : Nat)) da = true → (letterL D.al.cps.toList db = false → errAt (He.ga K "BadLetter") "thing" vb H E) ∧ (letterL D.al.cps.toList db = true → (200 ≤ y.length → errAt (He.ga K "TooLong") "number" (.int ((y.length + 1 : Nat))) H E) ∧
    (y.length < 200 → ∀ k c : Nat, da = .int (k : Nat) → db = .str ⟨#[c]⟩ → k ≤ y.length → c ∈ D.al.cps.toList → DkPost K H D y ds (.put k c) Q)))
theorem ok_put {f : Addr} {fd : FuncData} (T : Txt K mg) (F : FnP K "put" "Desk.put" s_Desk_put f fd) :
    FnOk P w K mg base (L2N.CX P w) 6 f fd ["self", "place", "letter"] (sp_put K) := by
  obtain ⟨fdS, FS⟩ := F_Desk_state_now T
  have bS : Binds K fdS ["self"] [] := FS.bindsN fun _ _ _ _ _ _ us hl => match us, hl with | [_], _ => rfl
  obtain ⟨fdD, FD⟩ := F_Desk_doing T
  have bD : Binds K fdD ["self", "deed"] [] := FD.bindsN fun _ _ _ _ _ _ us hl => match us, hl with | [_, _], _ => rfl
  obtain ⟨t_MOST_LETTERS, h_MOST_LETTERS⟩ := T.i_MOST_LETTERS
  obtain ⟨fdRp, FRBadPlace⟩ := F_BadPlace___init__ T
  have bRBadPlace : Binds K fdRp ["self", "thing"] [] := FRBadPlace.bindsN fun _ _ _ _ _ _ us hl => match us, hl with | [_, _], _ => rfl
  have exBadPlace : Ex K "BadPlace" ["thing"] := ex_of T 3
  obtain ⟨fdRl, FRTooLong⟩ := F_TooLong___init__ T
  have bRTooLong : Binds K fdRl ["self", "number"] [] := FRTooLong.bindsN fun _ _ _ _ _ _ us hl => match us, hl with | [_, _], _ => rfl
  have exTooLong : Ex K "TooLong" ["number"] := ex_of T 2
  refine F.ok sc_Desk_put (fun vs H Q E h => ?_) (fun cdv A outer s H vs Q E hr h => ?_)
  · obtain ⟨D, y, ds, va, vb, da, db, rfl, _⟩ := h; rfl
  · refine ⟨_, (pss_cons (ps_set (i := 3) sc_Desk_put.nd rfl (Or.inl rfl) (pe_ix ix_tup (pe_meth0 (pl := _) (E := E0) (pv 0) (cls_Desk T) (meth_state_now T) (ok_state_now T FS) (hr.mono (by decide)) bS .nil passN0) pe_int (fun _ _ => rfl)))
        (pss_cons (ps_if (pt_not (pt_val (pe_cal (ok_is_below T) (hr.mono (by decide)) pass0 (pa_cons (pv 1) (pa_cons (pe_op op_add (pe_callB call_len (by rfl) (fr_len T) boot_len (pa_cons (pv 3) pa_nil)) pe_int) pa_nil))))) (pss_one (ps_raise1 exBadPlace (f := "thing") (by decide) rfl (ini_thing FRBadPlace) bRBadPlace (hr.mono (by decide)) (L2N.takes_of rfl rfl rfl rfl) (g_BadPlace T) (pa_cons (pv 1) pa_nil))) pss_nil)
        (pss_cons (ps_expr (pe_cal (E := E) (ok_check_letter T) (hr.mono (by decide)) (L2N.passes_call (L2N.takes_of rfl rfl rfl rfl) (fun _ _ _ _ h => h)) (pa_cons (pe_fld (pv 0) rfl) (pa_cons (pv 2) pa_nil))))
        (pss_cons (ps_if (pt_cmpR op_ge (pe_callB call_len (by rfl) (fr_len T) boot_len (pa_cons (pv 3) pa_nil)) (pe_glob (v := .int 200) (by rfl) h_MOST_LETTERS ⟨t_MOST_LETTERS, rfl⟩) (nomark _)) (pss_one (ps_raise1 exTooLong (f := "number") (by decide) rfl (ini_number FRTooLong) bRTooLong (hr.mono (by decide)) (L2N.takes_of rfl rfl rfl rfl) (g_TooLong T) (pa_cons (pe_op op_add (pe_callB call_len (by rfl) (fr_len T) boot_len (pa_cons (pv 3) pa_nil)) pe_int) pa_nil))) pss_nil)
        (pss_one (ps_ret (pe_meth (pl := _) (E := E0) (pv 0) (cls_Desk T) (meth_doing T) (ok_doing T FD) (hr.mono (by decide)) bD .nil passN0 (pa_cons (pe_tup (pa_cons pe_str (pa_cons (pv 1) (pa_cons (pv 2) pa_nil)))) pa_nil)))))))), ?_⟩
    obtain ⟨D, y, ds, va, vb, da, db, rfl, pre, ra, rb, sb, e1, e2⟩ := h
    obtain ⟨s, u0, vD0, k1, k2, k3, k4⟩ := id pre.st
    have hDH := pre.dk.same (del_le D.k)
    obtain ⟨dx, dt, h1, h2⟩ := id hDH
    have hy := pre.y.1
    refine asg_set (op_of (now_of rfl hDH k1 (c_of ⟨s, _, _, _, rfl, rfl, SqT.of k2, atI_nat (j := 0) rfl, ?_⟩)))
    rintro σ1 rfl
    refine seq_if (test_not (test_val (call_of (args_of (var_of rfl (args_of (op_of (lenS rfl (by omega) (c_of ⟨_, 1, rfl, rfl, args_end ⟨va, _, kd da, rfl, ra.ko, _, rfl, ?_⟩⟩)))))))))
    rw [rp_below ra]
    refine or_ite (fun hb => ⟨va, rfl, va, rfl, fun dx hd => e1 (by simpa using hb) H (Same.refl H) dx hd⟩) fun hb => go_next ?_
    have hb : belowD ((y.length + 1 : Nat)) da = true := by simpa using hb
    obtain ⟨f1, f2⟩ := e2 hb
    dsimp only
    refine seq_exp (call_of ⟨.ref D.x, rfl, D.x, _, dx, _, _, rfl, h1, cls_Desk T, noat_Desk_alphabet T, rfl, vb, rfl, D.al, vb, db, rfl, rb, sb, f1, fun hl => ?_⟩)
    obtain ⟨g1, g2⟩ := f2 hl
    refine seq_if (test_op (lenS rfl (by omega) (c_of ⟨_, _, rfl, rfl, _, rfl, or_ite (fun h => ?_) fun h => go_next ?_⟩)))
    · have h := of_decide_eq_true h
      refine args_of (op_of (lenS rfl (by omega) (c_of ⟨_, 1, rfl, rfl, args_end ⟨_, rfl, fun dx hd => ?_⟩⟩)))
      have h9 : 200 ≤ y.length := by omega
      exact g1 h9 H (Same.refl H) dx hd
    · have h := of_decide_eq_false h
      have hlt : y.length < 200 := by omega
      obtain ⟨k, rfl, hk⟩ := below_nat hb
      obtain ⟨c, rfl, hc⟩ := letter_of hl
      cases ra
      cases rb
      dsimp only
      refine ret_te ⟨.ref D.x, rfl, D.x, dx, _, rfl, h1, rfl, args_of ⟨.int (k : Nat), rfl, .str ⟨#[c]⟩, rfl, by show 3 ≤ sizeLine; decide, fun t ht => args_end ?_⟩⟩
      have st := same_upd (o := .tup [.str "put", .int (k : Nat), .str ⟨#[c]⟩]) ht
      have hok : (Dd.put k c).ok y := show k ≤ y.length by omega
      refine ⟨D, y, ds, .put k c, t, rfl, pre.same st, upd_same, hok, fun z hz => row_over hok pre.y hz (by rw [row_len hok]; show y.length + 1 ≤ 200; omega) hc, (g2 hlt k c rfl rfl (by omega) hc).same st⟩
end
end Kx
set_option Elab.async false
set_option linter.all false
set_option maxRecDepth 100000
set_option maxHeartbeats 4000000
namespace Kx
open PySem PySem.Spec PyProof.Rows L2
theorem firstNot_all {al : List Nat} : ∀ {cs : List Nat} {k : Nat}, firstNot al cs k = none → ∀ c ∈ cs, c ∈ al
  | [], _, _, _, h => by cases h
  | d :: cs, k, h, c, hc => by
    unfold firstNot at h
    split at h
    · rename_i hd
      rcases List.mem_cons.mp hc with rfl | hc
      · exact hd
      · exact firstNot_all h c hc
    · cases h
theorem over_wrong {al : Str} {d : PyData} (h : wrongL al.cps.toList d = none) : ∃ z, d = .str z ∧ over al 200 z := by
  unfold wrongL at h
  split at h
  · rename_i z
    split at h
    · rename_i hl
      exact ⟨z, rfl, hl, firstNot_all h⟩
    · cases h
  · cases h
section
variable {P : Program} {w : World} {K : PySem.W.Frag} {mg : Str → Option Value} {base : Heap}
def sp_take (K : PySem.W.Frag) : Sp := fun vs H Q E => ∃ (D : DkD) (y : Str) (ds : List Dd) (va : V) (da : PyData), vs = [.ref D.x, va] ∧ DkPre K H D y ds ∧ Rp H va da ∧
  (belowD y.length da = false → errAt (He.ga K "BadPlace") "thing" va H E) ∧
  (belowD y.length da = true → ∀ k c : Nat, da = .int (k : Nat) → k < y.length → y.cps.toList[k]? = some c → DkPost K H D y ds (.take k c) Q)
theorem ok_take {f : Addr} {fd : FuncData} (T : Txt K mg) (F : FnP K "take" "Desk.take" s_Desk_take f fd) :
    FnOk P w K mg base (L2N.CX P w) 6 f fd ["self", "place"] (sp_take K) := by
  obtain ⟨fdS, FS⟩ := F_Desk_state_now T
  have bS : Binds K fdS ["self"] [] := FS.bindsN fun _ _ _ _ _ _ us hl => match us, hl with | [_], _ => rfl
  obtain ⟨fdD, FD⟩ := F_Desk_doing T
  have bD : Binds K fdD ["self", "deed"] [] := FD.bindsN fun _ _ _ _ _ _ us hl => match us, hl with | [_, _], _ => rfl
  refine F.ok sc_Desk_take (fun vs H Q E h => ?_) (fun cdv A outer s H vs Q E hr h => ?_)
  · obtain ⟨D, y, ds, va, da, rfl, _⟩ := h; rfl
  · refine ⟨_, (pss_cons (ps_expr (pe_cal (E := E) (ok_check_place T) (hr.mono (by decide)) (L2N.passes_call (L2N.takes_of rfl rfl rfl rfl) (fun _ _ _ _ h => h)) (pa_cons (pe_ix ix_tup (pe_meth0 (pl := _) (E := E0) (pv 0) (cls_Desk T) (meth_state_now T) (ok_state_now T FS) (hr.mono (by decide)) bS .nil passN0) pe_int (fun _ _ => rfl)) (pa_cons (pv 1) pa_nil))))
        (pss_one (ps_ret (pe_meth (pl := _) (E := E0) (pv 0) (cls_Desk T) (meth_doing T) (ok_doing T FD) (hr.mono (by decide)) bD .nil passN0 (pa_cons (pe_tup (pa_cons pe_str (pa_cons (pv 1) (pa_cons (pe_ix ix_str (pe_ix ix_tup (pe_meth0 (pl := _) (E := E0) (pv 0) (cls_Desk T) (meth_state_now T) (ok_state_now T FS) (hr.mono (by decide)) bS .nil passN0) pe_int (fun _ _ => rfl)) (pv 1) (fun _ _ => rfl)) pa_nil)))) pa_nil))))), ?_⟩
    obtain ⟨D, y, ds, va, da, rfl, pre, ra, e1, e2⟩ := h
    obtain ⟨s, u0, vD0, k1, k2, k3, k4⟩ := id pre.st
    have hDH := pre.dk.same (del_le D.k)
    obtain ⟨dx, dt, h1, h2⟩ := id hDH
    have hy := pre.y.1
    refine seq_exp (call_of (args_of (op_of (now_of rfl hDH k1 (c_of ⟨s, _, _, _, rfl, rfl, SqT.of k2, atI_nat (j := 0) rfl, ?_⟩)))))
    refine args_of (var_of rfl (args_end ⟨y, va, da, rfl, ra, by omega, e1, fun hb => ?_⟩))
    obtain ⟨k, rfl, hk⟩ := below_nat hb
    cases ra
    have hc : y.cps.toList[k]? = some (y.cps.toList[k]'(by rw [Array.length_toList]; exact hk)) := List.getElem?_eq_getElem _
    refine ret_te ⟨.ref D.x, rfl, D.x, dx, _, rfl, h1, rfl, args_of ⟨.int (k : Nat), rfl, ?_⟩⟩
    refine args_of (op_of (op_of (now_of rfl hDH k1 (c_of ⟨s, _, _, _, rfl, rfl, SqT.of k2, atI_nat (j := 0) rfl, var_of rfl ⟨y, _, _, rfl, rfl, Nat.le_trans hy (by decide : 200 ≤ sizeLine), atI_nat hc, args_end ⟨by show 3 ≤ sizeLine; decide, fun t ht => args_end ?_⟩⟩⟩))))
    have st := same_upd (o := .tup [.str "take", .int (k : Nat), .str ⟨#[y.cps.toList[k]'(by rw [Array.length_toList]; exact hk)]⟩]) ht
    have hok : (Dd.take k (y.cps.toList[k]'(by rw [Array.length_toList]; exact hk))).ok y := hk
    exact ⟨D, y, ds, _, t, rfl, pre.same st, upd_same, hok, fun z hz => row_over hok pre.y hz (by rw [row_len hok]; show y.length - 1 ≤ 200; omega) trivial, (e2 hb k _ rfl hk hc).same st⟩
def sp_change (K : PySem.W.Frag) : Sp := fun vs H Q E => ∃ (D : DkD) (y : Str) (ds : List Dd) (va vb : V) (da db : PyData), vs = [.ref D.x, va, vb] ∧ DkPre K H D y ds ∧ Rp H va da ∧ Rp H vb db ∧ smallT db ∧
  (belowD y.length da = false → errAt (He.ga K "BadPlace") "thing" va H E) ∧
  (belowD y.length da = true → (letterL D.al.cps.toList db = false → errAt (He.ga K "BadLetter") "thing" vb H E) ∧ (letterL D.al.cps.toList db = true → ∀ k c e : Nat, da = .int (k : Nat) → db = .str ⟨#[e]⟩ → k < y.length → e ∈ D.al.cps.toList → y.cps.toList[k]? = some c → DkPost K H D y ds (.change k c e) Q))
theorem ok_change {f : Addr} {fd : FuncData} (T : Txt K mg) (F : FnP K "change" "Desk.change" s_Desk_change f fd) :
    FnOk P w K mg base (L2N.CX P w) 6 f fd ["self", "place", "letter"] (sp_change K) := by
  obtain ⟨fdS, FS⟩ := F_Desk_state_now T
  have bS : Binds K fdS ["self"] [] := FS.bindsN fun _ _ _ _ _ _ us hl => match us, hl with | [_], _ => rfl
  obtain ⟨fdD, FD⟩ := F_Desk_doing T
  have bD : Binds K fdD ["self", "deed"] [] := FD.bindsN fun _ _ _ _ _ _ us hl => match us, hl with | [_, _], _ => rfl
  refine F.ok sc_Desk_change (fun vs H Q E h => ?_) (fun cdv A outer s H vs Q E hr h => ?_)
  · obtain ⟨D, y, ds, va, vb, da, db, rfl, _⟩ := h; rfl
  · refine ⟨_, (pss_cons (ps_expr (pe_cal (E := E) (ok_check_place T) (hr.mono (by decide)) (L2N.passes_call (L2N.takes_of rfl rfl rfl rfl) (fun _ _ _ _ h => h)) (pa_cons (pe_ix ix_tup (pe_meth0 (pl := _) (E := E0) (pv 0) (cls_Desk T) (meth_state_now T) (ok_state_now T FS) (hr.mono (by decide)) bS .nil passN0) pe_int (fun _ _ => rfl)) (pa_cons (pv 1) pa_nil))))
        (pss_cons (ps_expr (pe_cal (E := E) (ok_check_letter T) (hr.mono (by decide)) (L2N.passes_call (L2N.takes_of rfl rfl rfl rfl) (fun _ _ _ _ h => h)) (pa_cons (pe_fld (pv 0) rfl) (pa_cons (pv 2) pa_nil))))
        (pss_one (ps_ret (pe_meth (pl := _) (E := E0) (pv 0) (cls_Desk T) (meth_doing T) (ok_doing T FD) (hr.mono (by decide)) bD .nil passN0 (pa_cons (pe_tup (pa_cons pe_str (pa_cons (pv 1) (pa_cons (pe_ix ix_str (pe_ix ix_tup (pe_meth0 (pl := _) (E := E0) (pv 0) (cls_Desk T) (meth_state_now T) (ok_state_now T FS) (hr.mono (by decide)) bS .nil passN0) pe_int (fun _ _ => rfl)) (pv 1) (fun _ _ => rfl)) (pa_cons (pv 2) pa_nil))))) pa_nil)))))), ?_⟩
    obtain ⟨D, y, ds, va, vb, da, db, rfl, pre, ra, rb, sb, e1, e2⟩ := h
    obtain ⟨s, u0, vD0, k1, k2, k3, k4⟩ := id pre.st
    have hDH := pre.dk.same (del_le D.k)
    obtain ⟨dx, dt, h1, h2⟩ := id hDH
    have hy := pre.y.1
    refine seq_exp (call_of (args_of (op_of (now_of rfl hDH k1 (c_of ⟨s, _, _, _, rfl, rfl, SqT.of k2, atI_nat (j := 0) rfl, ?_⟩)))))
    refine args_of (var_of rfl (args_end ⟨y, va, da, rfl, ra, by omega, e1, fun hb => ?_⟩))
    obtain ⟨f1, f2⟩ := e2 hb
    refine seq_exp (call_of ⟨.ref D.x, rfl, D.x, _, dx, _, _, rfl, h1, cls_Desk T, noat_Desk_alphabet T, rfl, vb, rfl, D.al, vb, db, rfl, rb, sb, f1, fun hl => ?_⟩)
    obtain ⟨k, rfl, hk⟩ := below_nat hb
    obtain ⟨e, rfl, he⟩ := letter_of hl
    cases ra
    cases rb
    have hc : y.cps.toList[k]? = some (y.cps.toList[k]'(by rw [Array.length_toList]; exact hk)) := List.getElem?_eq_getElem _
    refine ret_te ⟨.ref D.x, rfl, D.x, dx, _, rfl, h1, rfl, args_of ⟨.int (k : Nat), rfl, ?_⟩⟩
    refine args_of (op_of (op_of (now_of rfl hDH k1 (c_of ⟨s, _, _, _, rfl, rfl, SqT.of k2, atI_nat (j := 0) rfl, var_of rfl ⟨y, _, _, rfl, rfl, Nat.le_trans hy (by decide : 200 ≤ sizeLine), atI_nat hc, ?_⟩⟩))))
    refine args_of (var_of rfl (args_end ⟨by show 4 ≤ sizeLine; decide, fun t ht => args_end ?_⟩))
    have st := same_upd (o := .tup [.str "change", .int (k : Nat), .str ⟨#[y.cps.toList[k]'(by rw [Array.length_toList]; exact hk)]⟩, .str ⟨#[e]⟩]) ht
    have hok : (Dd.change k (y.cps.toList[k]'(by rw [Array.length_toList]; exact hk)) e).ok y := hk
    exact ⟨D, y, ds, _, t, rfl, pre.same st, upd_same, hok, fun z hz => row_over hok pre.y hz (by rw [row_len hok]; exact hy) he, (f2 hl k _ e rfl rfl hk he hc).same st⟩
def sp_become (K : PySem.W.Frag) : Sp := fun vs H Q E => ∃ (D : DkD) (y : Str) (ds : List Dd) (v : V) (d : PyData), vs = [.ref D.x, v] ∧ DkPre K H D y ds ∧ Rp H v d ∧ smallT d ∧
  (∀ k, wrongL D.al.cps.toList d = some k → errAt (He.ga K "BadRow") "at" (.int k) H E) ∧
  (wrongL D.al.cps.toList d = none → ∀ z, d = .str z → over D.al 200 z → DkPost K H D y ds (.become y z) Q)
theorem ok_become {f : Addr} {fd : FuncData} (T : Txt K mg) (F : FnP K "become" "Desk.become" s_Desk_become f fd) :
    FnOk P w K mg base (L2N.CX P w) 6 f fd ["self", "row"] (sp_become K) := by
  obtain ⟨fdS, FS⟩ := F_Desk_state_now T
  have bS : Binds K fdS ["self"] [] := FS.bindsN fun _ _ _ _ _ _ us hl => match us, hl with | [_], _ => rfl
  obtain ⟨fdD, FD⟩ := F_Desk_doing T
  have bD : Binds K fdD ["self", "deed"] [] := FD.bindsN fun _ _ _ _ _ _ us hl => match us, hl with | [_, _], _ => rfl
  refine F.ok sc_Desk_become (fun vs H Q E h => ?_) (fun cdv A outer s H vs Q E hr h => ?_)
  · obtain ⟨D, y, ds, v, d, rfl, _⟩ := h; rfl
  · refine ⟨_, (pss_cons (ps_expr (pe_cal (E := E) (ok_check_row T) (hr.mono (by decide)) (L2N.passes_call (L2N.takes_of rfl rfl rfl rfl) (fun _ _ _ _ h => h)) (pa_cons (pe_fld (pv 0) rfl) (pa_cons (pv 1) pa_nil))))
        (pss_one (ps_ret (pe_meth (pl := _) (E := E0) (pv 0) (cls_Desk T) (meth_doing T) (ok_doing T FD) (hr.mono (by decide)) bD .nil passN0 (pa_cons (pe_tup (pa_cons pe_str (pa_cons (pe_ix ix_tup (pe_meth0 (pl := _) (E := E0) (pv 0) (cls_Desk T) (meth_state_now T) (ok_state_now T FS) (hr.mono (by decide)) bS .nil passN0) pe_int (fun _ _ => rfl)) (pa_cons (pv 1) pa_nil)))) pa_nil))))), ?_⟩
    obtain ⟨D, y, ds, v, d, rfl, pre, rv, sv, e1, e2⟩ := h
    have hDH := pre.dk.same (del_le D.k)
    obtain ⟨dx, dt, h1, h2⟩ := id hDH
    have hy := pre.y.1
    refine seq_exp (call_of ⟨.ref D.x, rfl, D.x, _, dx, _, _, rfl, h1, cls_Desk T, noat_Desk_alphabet T, rfl, v, rfl, D.al, v, d, rfl, rv, sv, e1, fun hw H' sH => ?_⟩)
    obtain ⟨z, rfl, hz⟩ := over_wrong hw
    cases rv
    have pre' := pre.same sH
    obtain ⟨s, u0, vD0, k1, k2, k3, k4⟩ := id pre'.st
    have hDH' := pre'.dk.same (del_le D.k)
    obtain ⟨dx', dt', h1', h2'⟩ := id hDH'
    refine ret_te ⟨.ref D.x, rfl, D.x, dx', _, rfl, h1', rfl, args_of (args_of (op_of ?_))⟩
    refine (now_of rfl hDH' k1 (c_of ⟨s, _, _, _, rfl, rfl, SqT.of k2, atI_nat (j := 0) rfl, args_of (var_of rfl (args_end ⟨by show 3 ≤ sizeLine; decide, fun t ht => args_end ?_⟩))⟩))
    have st := same_upd (o := .tup [.str "become", .str y, .str z]) ht
    have hok : (Dd.become y z).ok y := trivial
    exact ⟨D, y, ds, _, t, rfl, pre'.same st, upd_same, hok, fun z' hz' => row_over hok pre.y hz' (by show z.cps.toList.length ≤ 200; rw [Array.length_toList]; exact hz.1) hz.2, ((e2 hw z rfl hz).same sH).same st⟩
end
end Kx
set_option Elab.async false
set_option linter.all false
set_option maxRecDepth 100000
set_option maxHeartbeats 4000000
namespace Kx
open PySem PySem.Spec PyProof.Rows L2
/-! ### == of data without bools, lists, dicts: the data are the same -/
mutual
def pureD : PyData → Bool
  | .none => true
  | .int _ => true
  | .str z => PyData.strOk z
  | .tuple ds => pureL ds
  | _ => false
def pureL : List PyData → Bool
  | [] => true
  | d :: ds => pureD d && pureL ds
end
mutual
theorem eqv_pure : ∀ {d e : PyData}, pureD d = true → pureD e = true → (PyData.eqv d e = true ↔ d = e)
  | .none, .none, _, _ => by simp [PyData.eqv]
  | .none, .int _, _, _ => by simp [PyData.eqv]
  | .none, .str _, _, _ => by simp [PyData.eqv]
  | .none, .tuple _, _, _ => by simp [PyData.eqv]
  | .int i, .none, _, _ => by simp [PyData.eqv]
  | .int i, .int j, _, _ => by simp [PyData.eqv]
  | .int i, .str _, _, _ => by simp [PyData.eqv]
  | .int i, .tuple _, _, _ => by simp [PyData.eqv]
  | .str i, .none, _, _ => by simp [PyData.eqv]
  | .str i, .int j, _, _ => by simp [PyData.eqv]
  | .str i, .str _, _, _ => by simp [PyData.eqv]
  | .str i, .tuple _, _, _ => by simp [PyData.eqv]
  | .tuple i, .none, _, _ => by simp [PyData.eqv]
  | .tuple i, .int j, _, _ => by simp [PyData.eqv]
  | .tuple i, .str _, _, _ => by simp [PyData.eqv]
  | .tuple i, .tuple j, hd, he => by
    have h := eqvAll_pure (ds := i) (es := j) (by simpa [pureD] using hd) (by simpa [pureD] using he)
    simp only [PyData.eqv, PyData.tuple.injEq]
    exact h
  | .bool _, _, h, _ => by simp [pureD] at h
  | .list _, _, h, _ => by simp [pureD] at h
  | .dict _, _, h, _ => by simp [pureD] at h
  | .none, .bool _, _, h => by simp [pureD] at h
  | .none, .list _, _, h => by simp [pureD] at h
  | .none, .dict _, _, h => by simp [pureD] at h
  | .int _, .bool _, _, h => by simp [pureD] at h
  | .int _, .list _, _, h => by simp [pureD] at h
  | .int _, .dict _, _, h => by simp [pureD] at h
  | .str _, .bool _, _, h => by simp [pureD] at h
  | .str _, .list _, _, h => by simp [pureD] at h
  | .str _, .dict _, _, h => by simp [pureD] at h
  | .tuple _, .bool _, _, h => by simp [pureD] at h
  | .tuple _, .list _, _, h => by simp [pureD] at h
  | .tuple _, .dict _, _, h => by simp [pureD] at h
theorem eqvAll_pure : ∀ {ds es : List PyData}, pureL ds = true → pureL es = true → (PyData.eqvAll ds es = true ↔ ds = es)
  | [], [], _, _ => by simp [PyData.eqvAll]
  | [], _ :: _, _, _ => by simp [PyData.eqvAll]
  | _ :: _, [], _, _ => by simp [PyData.eqvAll]
  | d :: ds, e :: es, h, h' => by
    simp only [pureL, Bool.and_eq_true] at h h'
    simp only [PyData.eqvAll, Bool.and_eq_true, List.cons.injEq]
    rw [eqv_pure h.1 h'.1, eqvAll_pure h.2 h'.2]
end
mutual
theorem lay_pure : ∀ {d : PyData}, pureD d = true → d.canLay0 = true
  | .none, _ => by simp [PyData.canLay0]
  | .int _, _ => by simp [PyData.canLay0]
  | .str z, h => by simpa [PyData.canLay0, pureD] using h
  | .tuple ds, h => by
    have := layAll_pure (ds := ds) (by simpa [pureD] using h)
    simpa [PyData.canLay0] using this
  | .bool _, h => by simp [pureD] at h
  | .list _, h => by simp [pureD] at h
  | .dict _, h => by simp [pureD] at h
theorem layAll_pure : ∀ {ds : List PyData}, pureL ds = true → PyData.canLayAll0 ds = true
  | [], _ => by simp [PyData.canLayAll0]
  | d :: ds, h => by
    simp only [pureL, Bool.and_eq_true] at h
    simp only [PyData.canLayAll0, Bool.and_eq_true]
    exact ⟨lay_pure h.1, layAll_pure h.2⟩
end
theorem pureL_map {α : Type} {f : α → PyData} : ∀ {l : List α}, (∀ a ∈ l, pureD (f a) = true) → pureL (l.map f) = true
  | [], _ => rfl
  | a :: l, h => by
    simp only [List.map_cons, pureL, Bool.and_eq_true]
    exact ⟨h a (List.mem_cons_self ..), pureL_map fun b hb => h b (List.mem_cons_of_mem _ hb)⟩
theorem depthAll_map {α : Type} {f : α → PyData} {n : Nat} : ∀ {l : List α}, (∀ a ∈ l, (f a).depth ≤ n) → PyData.depthAll (l.map f) ≤ n
  | [], _ => by simp [PyData.depthAll]
  | a :: l, h => by
    have h1 := h a (List.mem_cons_self ..)
    have h2 := depthAll_map (l := l) fun b hb => h b (List.mem_cons_of_mem _ hb)
    simp only [List.map_cons, PyData.depthAll]
    omega
theorem strOk1 {c : Nat} (h : c < 0x110000) : PyData.strOk ⟨#[c]⟩ = true := by
  unfold PyData.strOk
  simp only [List.size_toArray, List.length_cons, List.length_nil, Array.all_toList] <;> simp <;> exact h
theorem shaped_of {d : PyData} (h : pureD d = true) (hd : d.depth ≤ 60) : SeqAt.shaped d = true := by
  unfold SeqAt.shaped
  rw [lay_pure h, decide_eq_true (Nat.le_trans hd (by decide))]
  rfl

theorem dp_bools {K : PySem.W.Frag} {H : Hp} {l : Addr} {bs : List Bool} (h : H l = some (.lst (bs.map V.bl))) : Dp K H (.ref l) (.list (bs.map PyData.bool)) := by
  refine .lst (SqL.of h) ?_
  clear h
  induction bs with
  | nil => exact .nil
  | cons b bs ih => exact .cons (.bl b) ih
theorem rEq_bools {K : PySem.W.Frag} {H : Hp} {l1 l2 : Addr} {bs cs : List Bool} {Q : VK} (h1 : H l1 = some (.lst (bs.map V.bl))) (h2 : H l2 = some (.lst (cs.map V.bl))) (s1 : SeqAt.shaped (.list (bs.map PyData.bool)) = true) (s2 : SeqAt.shaped (.list (cs.map PyData.bool)) = true)
    (q : Q (.bl (PyData.eqv (.list (bs.map PyData.bool)) (.list (cs.map PyData.bool)))) H) : rEqD K (.ref l1) (.ref l2) H Q := ⟨_, _, dp_bools h1, dp_bools h2, s1, s2, q⟩
theorem lay_bls : ∀ l : List Bool, PyData.canLayAll0 (l.map PyData.bool) = true
  | [] => by simp [PyData.canLayAll0]
  | b :: l => by simp [PyData.canLayAll0, PyData.canLay0, lay_bls l]
theorem bls_ok (l : List Bool) : (SeqAt.shaped (.list (l.map PyData.bool)) = true ∧ PyData.eqv (.list (l.map PyData.bool)) (.list (l.map PyData.bool)) = true) ∧ (SeqAt.shaped (.tuple (l.map PyData.bool)) = true ∧ PyData.eqv (.tuple (l.map PyData.bool)) (.tuple (l.map PyData.bool)) = true) := by
  have hd := depthAll_map (l := l) (f := PyData.bool) (n := 0) fun b _ => by simp [PyData.depth]
  have h1 : (PyData.list (l.map PyData.bool)).canLay0 = true := by simpa [PyData.canLay0] using lay_bls l
  have h2 : (PyData.list (l.map PyData.bool)).depth ≤ 64 := by
    simp only [PyData.depth]
    omega
  have k1 : (PyData.tuple (l.map PyData.bool)).canLay0 = true := by simpa [PyData.canLay0] using lay_bls l
  have k2 : (PyData.tuple (l.map PyData.bool)).depth ≤ 64 := by
    simp only [PyData.depth]
    omega
  refine ⟨⟨?_, PySem.SeqAt.eqv_refl _ h1⟩, ⟨?_, PySem.SeqAt.eqv_refl _ k1⟩⟩
  · unfold SeqAt.shaped
    rw [h1, decide_eq_true h2]
    rfl
  · unfold SeqAt.shaped
    rw [k1, decide_eq_true k2]
    rfl
section
variable {P : Program} {w : World} {K : PySem.W.Frag} {mg : Str → Option Value} {base : Heap}
/-! ### _law_is_number -/
def numV (lo hi : Int) : V → Bool
  | .int i => decide (lo ≤ i) && decide (i ≤ hi)
  | _ => false
def numD (lo hi : Int) : PyData → Bool
  | .int i => decide (lo ≤ i) && decide (i ≤ hi)
  | _ => false
theorem rp_num {H : Hp} {v : V} {d : PyData} (h : Rp H v d) (lo hi : Int) : numV lo hi v = numD lo hi d := by cases h <;> rfl
theorem num_below (m : Int) (d : PyData) : numD 0 (m - 1) d = belowD m d := by
  cases d <;> first | rfl | skip
  rename_i i
  show (decide ((0 : Int) ≤ i) && decide (i ≤ m - 1)) = (decide (0 ≤ i) && decide (i < m))
  congr 1
  rw [decide_eq_decide]
  omega
def sp_law_is_number (K : PySem.W.Frag) : Sp := fun vs H Q _ => ∃ (v : V) (lo hi : Int) (a : Kd), vs = [v, .int lo, .int hi] ∧ Ko K H v a ∧ Q (.bl (numV lo hi v)) H
theorem ok_law_is_number (T : Txt K mg) : Cal P w K mg base CX0 1 "_law_is_number" ["_law_thing", "_law_low", "_law_high"] (sp_law_is_number K) := by
  obtain ⟨fd, F⟩ := F__law_is_number T
  refine cal_mk F (g__law_is_number T) sc__law_is_number (fun _ _ _ _ _ _ us hl => match us, hl with | [_, _, _], _ => rfl) (fun vs H Q E h => ?_) (fun cdv A outer s H vs Q E hr h => ?_)
  · obtain ⟨v, lo, hi, a, rfl, _⟩ := h; rfl
  · refine ⟨_, PSs.nox (pss_one (ps_ret (pe_and (pe_callB call_isB (by rfl) (fr_isinstance T) b_isinstance (pa_cons (pv 0) (pa_cons (pe_ty (fr_int T) b_int) pa_nil)))
      (pe_and (pe_not (pe_callB call_isB (by rfl) (fr_isinstance T) b_isinstance (pa_cons (pv 0) (pa_cons (pe_ty (fr_bool T) b_bool) pa_nil))))
      (pe_one (pe_chain op_le op_le (pv 1) (pv 0) (pv 2))))))), ?_⟩
    obtain ⟨v, lo, hi, a, rfl, ko, q⟩ := h
    refine ⟨v, rfl, v, "int", a, rfl, ko, k_int a, _, rfl, ?_⟩
    cases hb : a.is "int" with
    | false =>
      refine iteF ?_
      have : numV lo hi v = false := by
        cases v <;> first | rfl | (have := ko_notint ko; subst this; exact Bool.noConfusion hb)
      rw [this] at q; exact q
    | true =>
      refine iteT ⟨v, rfl, v, "bool", a, rfl, ko, k_bool a, _, rfl, _, rfl, ?_⟩
      cases hb2 : a.is "bool" with
      | true =>
        refine iteF ?_
        have ha : a = .bl := by cases a <;> first | rfl | (exact Bool.noConfusion hb2)
        subst ha
        have : numV lo hi v = false := by
          cases v <;> first | rfl | (have := ko_notint ko; cases this)
        rw [this] at q; exact q
      | false =>
        refine iteT ?_
        have ha : a = .int := by cases a <;> first | rfl | (exact Bool.noConfusion hb) | (exact Bool.noConfusion hb2)
        subst ha
        obtain ⟨i, rfl⟩ := ko_int ko
        refine ⟨.int lo, rfl, .int i, rfl, lo, i, rfl, rfl, _, rfl, ?_⟩
        have e : numV lo hi (.int i) = (decide (lo ≤ i) && decide (i ≤ hi)) := rfl
        rw [e] at q
        cases hc : decide (lo ≤ i) with
        | false => rw [hc] at q; exact iteF q
        | true =>
          rw [hc] at q
          exact iteT ⟨.int hi, rfl, i, hi, rfl, rfl, q⟩
end
theorem op_is_bl {X : Cx} : OpR X (compareOp .Is) (fun x y H Q => ∃ i j, x = .bl i ∧ y = .bl j ∧ Q (.bl (i == j)) H) := by
  intro pins s σ H x y v u Q I rx ry h
  obtain ⟨i, j, rfl, rfl, q⟩ := h
  cases rx
  cases ry
  exact is_bool ⟨.bl (i == j), H, I, rfl, q⟩
section
variable {P : Program} {w : World} {K : PySem.W.Frag} {mg : Str → Option Value} {base : Heap}
def sp_law_bools : Sp := fun vs H Q _ => ∃ (v : V) (n : Nat) (bs : List Bool), vs = [v, .int (n : Nat)] ∧ Rt H v (encB bs) ∧ bs.length ≤ 1000 ∧ ∀ H', Same H H' → Q (.bl (decide (bs.length = n))) H'
theorem ok_law_bools (T : Txt K mg) : Cal P w K mg base CX0 1 "_law_bools" ["_law_thing", "_law_size"] sp_law_bools := by
  obtain ⟨fd, F⟩ := F__law_bools T
  refine cal_mk F (g__law_bools T) sc__law_bools (fun _ _ _ _ _ _ us hl => match us, hl with | [_, _], _ => rfl) (fun vs H Q E h => ?_) (fun cdv A outer s H vs Q E hr h => ?_)
  · obtain ⟨v, n, bs, rfl, _⟩ := h; rfl
  · refine ⟨_, PSs.nox (pss_one (ps_ret (pe_and (pe_callB call_isB (by rfl) (fr_isinstance T) b_isinstance (pa_cons (pv 0) (pa_cons (pe_ty (fr_tuple T) b_tuple) pa_nil)))
      (pe_and (pe_cmpR op_eq (pe_callB call_len (by rfl) (fr_len T) boot_len (pa_cons (pv 0) pa_nil)) (pv 1) (nomark _))
      (pe_one (pe_callB (cr_all rfl) (by rfl) (fr_all T) b_all (pa_cons (pe_lc (own := [("_law_one", 2)]) (g := gName 2) (tt := tYes) rfl sc__law_bools.nd (pi_tup (pv 0)) (blkOk_by (N := N__law_bools) (sc := defScope s__law_bools) (by decide +kernel))
        (fun _ _ _ _ _ => pg_name (i := 2) sc__law_bools.nd rfl (Or.inl rfl)) (fun _ _ _ _ _ => pts_nil) (fun _ _ _ _ _ => pe_or (pe_cmpR op_is_bl (pv 2) pe_bl (nomark _)) (pe_one (pe_cmpR op_is_bl (pv 2) pe_bl (nomark _))))) pa_nil))))))), ?_⟩
    obtain ⟨v, n, bs, rfl, rt, hbs, q⟩ := h
    unfold encB at rt
    cases rt with
    | @tup a xs _ ha hx =>
      have hl : xs.length = bs.length := by have := hx.length; rwa [List.length_map] at this
      refine ⟨.ref a, rfl, .ref a, "tuple", .tup, rfl, .base (.tup ha), k_tuple _, _, rfl, iteT ?_⟩
      refine ⟨.ref a, rfl, _, _, rfl, lenV_sq (.inr ha) hl, .int (n : Nat), rfl, rfl, _, rfl, ?_⟩
      by_cases hn : bs.length = n
      case neg =>
        have e : decide (V.int (bs.length : Nat) = V.int (n : Nat)) = false := by simp; omega
        rw [e]
        have := q H (Same.refl H)
        rw [decide_eq_false hn] at this
        exact iteF this
      have e : decide (V.int (bs.length : Nat) = V.int (n : Nat)) = true := by simp; omega
      rw [e]
      rw [decide_eq_true hn] at q
      refine iteT ⟨.ref a, rfl, a, rfl, ⟨xs, SqT.of ha⟩, fun D hD => ?_⟩
      refine lc_new (walk_tup (xs := xs)) hD (Nat.le_trans (by rw [hl]; exact hbs) (by decide)) (fun (i : Nat) _ v => v = V.bl true) (fun _ _ _ _ _ h => h) (fun H' s => SqT.of (s _ _ ha)) (fun i x H2 H3 Qk hi s2 hy hk => ?_) (fun H2 acc s2 hD2 hla hacc => ?_)
      · obtain ⟨rfl, hx0⟩ := hy
        obtain ⟨d, hd, rd⟩ := hx.get hx0
        rw [List.getElem?_map] at hd
        cases hb : bs[i]? with
        | none => rw [hb] at hd; cases hd
        | some b =>
          rw [hb] at hd
          cases hd
          cases rd
          refine ⟨rfl, .bl b, rfl, b, true, rfl, rfl, _, rfl, ?_⟩
          cases b with
          | true => exact iteT (hk _ _ (Same.refl _) rfl)
          | false => exact iteF ⟨.bl false, rfl, false, false, rfl, rfl, hk _ _ (Same.refl _) rfl⟩
      · have ea : acc = (List.replicate xs.length true).map V.bl := bls_of (by rw [hla, List.length_replicate]) fun i v hi b hb => by
          rw [hacc i v hi]
          have := List.mem_of_getElem? hb
          rw [List.mem_replicate] at this
          rw [this.2]
        refine ⟨D, _, rfl, SqL.of (by rw [hD2, ea]), ?_⟩
        have e3 : (List.replicate xs.length true).all id = true := by simp
        rw [e3]
        exact q H2 s2
end
end Kx
set_option Elab.async false
set_option linter.all false
set_option maxRecDepth 100000
set_option maxHeartbeats 4000000
namespace Kx
open PySem PySem.Spec PyProof.Rows L2
theorem occ_head {al : Str} {c : Nat} (h : c ∈ al.cps.toList) : ∃ rest, Builtin.Str.occurrences al ⟨#[c]⟩ 0 al.length 1 = ixF al c :: rest := by
  have h1 := (find_in h).1
  unfold ixF
  unfold Txt.find at h1 ⊢
  cases ho : Builtin.Str.occurrences al ⟨#[c]⟩ 0 al.length 1 with
  | nil => rw [ho] at h1; exact absurd h1 (by decide)
  | cons i r => exact ⟨r, rfl⟩
/-- al.index(c) -/
theorem index_r {H : Hp} {al : Str} {c : Nat} {Q : VK} (h : c ∈ al.cps.toList) (q : Q (.int (ixF al c : Nat)) H) : (fun (x : V) (xs : List V) (H : Hp) (Q : VK) => ∃ a b i rest, x = .str a ∧ xs = [.str b] ∧ Builtin.Str.occurrences a b 0 a.length 1 = i :: rest ∧ Q (.int (i : Nat)) H) (.str al) [.str ⟨#[c]⟩] H Q := by
  obtain ⟨rest, e⟩ := occ_head h
  exact ⟨al, ⟨#[c]⟩, _, rest, rfl, rfl, e, q⟩
theorem rows_tab {many most : Nat} {rows : List (List Nat)} (k : RowsOk many most rows) (h : most ≤ 40) : TabOk rows many :=
  ⟨k.ne, Nat.le_trans k.le h, fun m hm => (k.ok m hm).1, fun m hm => (k.ok m hm).2⟩
/-- a row of a table of lists, its item -/
theorem rp_move {H : Hp} {v : V} {t : Tab} {na p k : Nat} (h : Rp H v (rowsD t)) (T : TabOk t na) (hp : p < t.length) (hk : k < na) :
    ∃ a xs b ys, v = .ref a ∧ H a = some (.lst xs) ∧ xs[p]? = some (.ref b) ∧ H b = some (.lst ys) ∧ ys[k]? = some (.int (stepT t p k : Nat)) := by
  unfold rowsD at h
  cases h with
  | @lst a xs _ ha hx =>
    have hl := hx.length
    rw [List.length_map] at hl
    have hpx : p < xs.length := by omega
    obtain ⟨d, hd, rd⟩ := hx.get (i := p) (List.getElem?_eq_getElem hpx)
    have ed : d = rowD t[p] := by
      rw [List.getElem?_map, List.getElem?_eq_getElem hp] at hd
      exact (Option.some.inj hd).symm
    subst ed
    unfold rowD at rd
    generalize hv : xs[p] = y at rd
    cases rd with
    | @lst b ys _ hb hy =>
      have ml := T.ml t[p] (List.getElem_mem hp)
      have hl2 := hy.length
      rw [List.length_map] at hl2
      have hky : k < ys.length := by omega
      obtain ⟨d2, hd2, rd2⟩ := hy.get (i := k) (List.getElem?_eq_getElem hky)
      have hk2 : k < t[p].length := by omega
      rw [List.getElem?_map, List.getElem?_eq_getElem hk2] at hd2
      have e2 : d2 = .int ((t[p][k] : Nat) : Int) := (Option.some.inj hd2).symm
      subst e2
      refine ⟨a, xs, b, ys, rfl, ha, by rw [List.getElem?_eq_getElem hpx, hv], hb, ?_⟩
      rw [List.getElem?_eq_getElem hky]
      have e3 : stepT t p k = t[p][k] := by
        unfold stepT
        simp [List.getD_eq_getElem?_getD, hp, hk2]
      rw [e3]
      generalize ys[k] = z at rd2
      cases rd2
      rfl
/-! ### the marks of triples -/
theorem maskC_bit (p c q : Nat) : ∀ trs : List Tri, (maskC p c trs).testBit q = decide ((p, c, q) ∈ trs) := by
  suffices h : ∀ (trs : List Tri) (m : Nat), (trs.foldl (fun m t => if t.1 = p ∧ t.2.1 = c then m ||| 1 <<< t.2.2 else m) m).testBit q = (m.testBit q || decide ((p, c, q) ∈ trs)) by
    intro trs
    unfold maskC
    rw [h, Nat.zero_testBit, Bool.false_or]
  intro trs
  induction trs with
  | nil => intro m; simp
  | cons t trs ih =>
    intro m
    rw [List.foldl_cons, ih]
    obtain ⟨a, b, d⟩ := t
    by_cases e : a = p ∧ b = c
    · rw [if_pos e]
      obtain ⟨rfl, rfl⟩ := e
      rw [Nat.testBit_or, Nat.one_shiftLeft, Nat.testBit_two_pow]
      by_cases hd : d = q
      · subst hd; simp
      · simp [hd, Ne.symm hd, eq_comm]
    · rw [if_neg e]
      have : (p, c, q) ≠ (a, b, d) := fun z => e (by injection z with z1 z2; injection z2 with z2 z3; exact ⟨z1.symm, z2.symm⟩)
      simp [List.mem_cons, this]
theorem markAt_mem {al : Str} {ls rs : Tab} {trs : List Tri} {p c q : Nat} (hn : al.cps.toList.Nodup) (hc : c ∈ al.cps.toList) (ht : ∀ t ∈ trs, t.2.1 ∈ al.cps.toList) : markAt ⟨al, ixF al, ls, rs, trs⟩ p c q = decide ((p, c, q) ∈ trs) := by
  obtain ⟨j, hj⟩ := List.mem_iff_getElem?.mp hc
  unfold markAt
  dsimp only
  rw [find_at hj hn, maskT_C hj hn trs ht, maskC_bit]
theorem aheadT_get (t : Tab) (ix : Nat → Nat) : ∀ (cs : List Nat) (p i : Nat), i < cs.length → (aheadT t ix p cs)[i]? = some (runT t ix p (cs.take i))
  | [], _, _, h => absurd h (Nat.not_lt_zero _)
  | c :: cs, p, 0, _ => rfl
  | c :: cs, p, i + 1, h => aheadT_get t ix cs (stepT t p (ix c)) i (Nat.lt_of_succ_lt_succ h)
theorem marks_at {D : PairD} {cs : List Nat} {k c : Nat} (h : cs[k]? = some c) : (marksP D cs)[k]? = some (markAt D (runT D.l D.ix 0 (cs.take k)) c (runT D.r D.ix 0 (cs.reverse.take (cs.length - 1 - k)))) := by
  have hk := (List.getElem?_eq_some_iff.mp h).1
  have hb : (behindT D.r D.ix cs)[k]? = some (runT D.r D.ix 0 (cs.reverse.take (cs.length - 1 - k))) := by
    unfold behindT
    rw [List.getElem?_reverse (by rw [aheadT_length, List.length_reverse]; exact hk), aheadT_length, List.length_reverse]
    exact aheadT_get _ _ _ _ _ (by rw [List.length_reverse]; omega)
  unfold marksP
  have hz : ((aheadT D.l D.ix 0 cs).zip (cs.zip (behindT D.r D.ix cs)))[k]? = some (runT D.l D.ix 0 (cs.take k), c, runT D.r D.ix 0 (cs.reverse.take (cs.length - 1 - k))) :=
    List.getElem?_zip_eq_some.mpr ⟨aheadT_get _ _ cs 0 k hk, List.getElem?_zip_eq_some.mpr ⟨h, hb⟩⟩
  rw [List.getElem?_map, hz]
  rfl
end Kx
set_option Elab.async false
set_option linter.all false
set_option maxRecDepth 100000
set_option maxHeartbeats 4000000
namespace Kx
open PySem PySem.Spec PyProof.Rows L2
theorem atI_end {α : Type} {xs : List α} {x : α} : atI (xs ++ [x]) (-1) = some x := by
  have e : ixN (xs ++ [x]).length (-1) = some xs.length := by
    unfold ixN
    rw [if_neg (by decide), if_pos (by rw [List.length_append, List.length_singleton]; omega)]
    congr 1
    rw [List.length_append, List.length_singleton]
    omega
  unfold atI
  rw [e]
  simp
def walkT (t : Tab) (ix : Nat → Nat) (cs : List Nat) : List Nat := aheadT t ix 0 cs ++ [runT t ix 0 cs]
theorem walkT_snoc (t : Tab) (ix : Nat → Nat) (cs : List Nat) (c : Nat) : walkT t ix (cs ++ [c]) = walkT t ix cs ++ [stepT t (runT t ix 0 cs) (ix c)] := by
  unfold walkT
  rw [aheadT_snoc, runT_snoc]
theorem walkT_get (t : Tab) (ix : Nat → Nat) {cs : List Nat} {k : Nat} (h : k ≤ cs.length) : (walkT t ix cs)[k]? = some (runT t ix 0 (cs.take k)) := by
  unfold walkT
  by_cases hk : k < cs.length
  · rw [List.getElem?_append_left (by rw [aheadT_length]; exact hk)]
    exact aheadT_get t ix cs 0 k hk
  · have e : k = cs.length := by omega
    subst e
    rw [List.getElem?_append_right (by rw [aheadT_length]; omega), aheadT_length, Nat.sub_self, List.take_length]
    rfl
theorem walkT_length (t : Tab) (ix : Nat → Nat) (cs : List Nat) : (walkT t ix cs).length = cs.length + 1 := by
  unfold walkT
  rw [List.length_append, aheadT_length]
  rfl
theorem run_lt {t : Tab} {na : Nat} {ix : Nat → Nat} (T : TabOk t na) {cs : List Nat} (h : ∀ c ∈ cs, ix c < na) : runT t ix 0 cs < t.length := runT_lt T cs 0 h T.ne
/-- the triples of tables, looked up -/
theorem dp_tri {K : PySem.W.Frag} {H : Hp} {t : Addr} {p c q : Nat} (h : H t = some (.tup [.int (p : Nat), .str ⟨#[c]⟩, .int (q : Nat)])) : Dp K H (.ref t) (encTri (p, c, q)) := .tup (SqT.of h) (.cons (.int _) (.cons (.str _) (.cons (.int _) .nil)))
theorem tri_pure {p c q : Nat} (hc : c < 0x110000) : pureD (encTri (p, c, q)) = true := by simp [encTri, pureD, pureL, strOk1 hc]
theorem tri_depth (t : Tri) : (encTri t).depth ≤ 1 := by simp [encTri, PyData.depth, PyData.depthAll]
theorem tri_any {trs : List Tri} {p c q : Nat} (h : ∀ t ∈ trs, t.2.1 < 0x110000) (hc : c < 0x110000) : ((trs.map encTri).any fun z => PyData.eqv z (encTri (p, c, q))) = decide ((p, c, q) ∈ trs) := by
  refine Bool.eq_iff_iff.mpr ?_
  rw [List.any_eq_true, decide_eq_true_eq]
  constructor
  · rintro ⟨z, hz, e⟩
    obtain ⟨⟨a, b, d⟩, ht, rfl⟩ := List.mem_map.mp hz
    rw [eqv_pure (tri_pure (h _ ht)) (tri_pure hc)] at e
    unfold encTri at e
    injection e with e
    injection e with e1 e
    injection e with e2 e
    injection e with e3 e
    injection e1 with e1
    injection e2 with e2
    injection e3 with e3
    have x1 : a = p := by dsimp only at e1; omega
    have x3 : d = q := by dsimp only at e3; omega
    have x2 : b = c := by
      have : (⟨#[b]⟩ : Str).cps.toList = (⟨#[c]⟩ : Str).cps.toList := by rw [e2]
      exact (List.cons.inj this).1
    subst x1; subst x2; subst x3
    exact ht
  · intro hm
    exact ⟨_, List.mem_map.mpr ⟨_, hm, rfl⟩, (eqv_pure (tri_pure hc) (tri_pure hc)).mpr rfl⟩
theorem tris_shaped {trs : List Tri} (h : ∀ t ∈ trs, t.2.1 < 0x110000) : SeqAt.shaped (.list (trs.map encTri)) = true := by
  unfold SeqAt.shaped
  rw [Bool.and_eq_true]
  refine ⟨?_, decide_eq_true ?_⟩
  · have : PyData.canLayAll0 (trs.map encTri) = true := layAll_pure (pureL_map fun t ht => tri_pure (h t ht))
    simpa [PyData.canLay0] using this
  · simp only [PyData.depth]
    have := depthAll_map (l := trs) (f := encTri) (n := 1) fun t _ => tri_depth t
    omega
theorem tris_dict (trs : List Tri) : (PyData.list (trs.map encTri)).hasDict = false := by
  have : ∀ l : List Tri, PyData.hasDictAll (l.map encTri) = false := fun l => by
    induction l with
    | nil => simp [PyData.hasDictAll]
    | cons t l ih => simp [PyData.hasDictAll, PyData.hasDict, encTri, ih]
  simpa [PyData.hasDict] using this trs
theorem tabs_parts {H : Hp} {v : V} {ls rs : Tab} {trs : List Tri} (rv : Rp H v (tabsD ls rs trs)) : ∃ tt vl vr vm, v = .ref tt ∧ H tt = some (.tup [vl, vr, vm]) ∧ Rp H vl (rowsD ls) ∧ Rp H vr (rowsD rs) ∧ Rp H vm (.list (trs.map encTri)) := by
  unfold tabsD at rv
  cases rv with
  | tup e h =>
    cases h with
    | cons r0 h1 => cases h1 with
      | cons r1 h2 => cases h2 with
        | cons r2 h3 =>
          cases h3
          exact ⟨_, _, _, _, rfl, e, r0, r1, r2⟩
section
variable {P : Program} {w : World} {K : PySem.W.Frag} {mg : Str → Option Value} {base : Heap}
theorem hu65 {A : Around} {k : Nat} (hr : Room k A) : A.units + 65 < cLine := by have := hr.un; omega
/-- tables[ti][line[-1]][alphabet.index(letter)] -/
theorem step_in {H : Hp} {al : Str} {t : Tab} {σ : L2.St} {vt : V} {tt p : Addr} {xs : List V} {ti : Nat} {cs : List Nat} {c sl : Nat} {Q : VK} (h0 : σ[0]? = some (some (.str al))) (h1 : σ[1]? = some (some (.ref tt))) (h4 : σ[4]? = some (some (.str ⟨#[c]⟩))) (hs : σ[sl]? = some (some (.ref p)))
    (htt : H tt = some (.tup xs)) (hti : xs[ti]? = some vt) (rt : Rp H vt (rowsD t)) (T : TabOk t al.length) (hp : H p = some (.lst ((walkT t (ixF al) cs).map fun k => V.int (k : Nat)))) (hc : c ∈ al.cps.toList) (hcs : ∀ d ∈ cs, d ∈ al.cps.toList)
    (q : Q (.int (stepT t (runT t (ixF al) 0 cs) (ixF al c) : Nat)) H) :
    tOp (rIxL K) (tOp (rIxL K) (tOp (rIxT K) (tVar 1) (tC (.int (ti : Nat)))) (tOp (rIxL K) (tVar sl) (tUn (rU fun i => .int (-i)) (tC (.int 1))))) (tM1 (fun x xs H Q => ∃ a b i rest, x = .str a ∧ xs = [.str b] ∧ Builtin.Str.occurrences a b 0 a.length 1 = i :: rest ∧ Q (.int (i : Nat)) H) (tVar 0) (tVar 4)) σ H Q := by
  have hix : ∀ d ∈ al.cps.toList, ixF al d < al.length := fun d hd => (ixOk al).lt d hd
  have hlt := run_lt (ix := ixF al) T (cs := cs) fun d hd => hix d (hcs d hd)
  obtain ⟨a, ys, b, zs, rfl, ha, hb, hB, hy⟩ := rp_move rt T hlt (hix c hc)
  obtain ⟨rest, hocc⟩ := occ_head hc
  refine op_of (op_of (op_of (var_of h1 ⟨tt, xs, _, .ref a, rfl, rfl, SqT.of htt, atI_nat hti, ?_⟩)))
  refine op_of (var_of hs ⟨1, rfl, p, _, _, .int (runT t (ixF al) 0 cs : Nat), rfl, rfl, SqL.of hp, ?_, ?_⟩)
  · unfold walkT
    rw [List.map_append]
    exact atI_end
  refine ⟨a, ys, _, .ref b, rfl, rfl, SqL.of ha, atI_nat hb, ?_⟩
  exact ⟨.str al, h0, ⟨al, rfl⟩, .str ⟨#[c]⟩, h4, al, ⟨#[c]⟩, _, rest, rfl, rfl, hocc, b, zs, _, _, rfl, rfl, SqL.of hB, atI_nat hy, q⟩
def sp_law_line : Sp := fun vs H Q _ => ∃ (al : Str) (v : V) (row : Str) (ls rs : List (List Nat)) (trs : List Tri), vs = [.str al, v, .str row] ∧ Rp H v (tabsD ls rs trs) ∧ TabOk ls al.length ∧ TabOk rs al.length ∧ al.cps.toList.Nodup ∧ (∀ c ∈ al.cps.toList, c < 0x110000) ∧ (∀ t ∈ trs, t.2.1 ∈ al.cps.toList) ∧
  (∀ c ∈ row.cps.toList, c ∈ al.cps.toList) ∧ row.length ≤ 1000 ∧ ∀ H' p, Same H H' → H p = none → H' p = some (.lst ((marksP ⟨al, ixF al, ls, rs, trs⟩ row.cps.toList).map V.bl)) → Q (.ref p) H'
theorem ok_law_line (T : Txt K mg) : Cal P w K mg base CX0 1 "_law_line" ["_law_alphabet_here", "_law_tables_here", "_law_row"] sp_law_line := by
  obtain ⟨fd, F⟩ := F__law_line T
  refine cal_mk F (g__law_line T) sc__law_line (fun _ _ _ _ _ _ us hl => match us, hl with | [_, _, _], _ => rfl) (fun vs H Q E h => ?_) (fun cdv A outer s H vs Q E hr h => ?_)
  · obtain ⟨al, v, row, ls, rs, trs, rfl, _⟩ := h; rfl
  · refine ⟨_, PSs.nox (pss_cons (ps_set (i := 3) sc__law_line.nd rfl (Or.inr rfl) (pe_lst (pa_cons pe_int pa_nil)))
        (pss_cons (ps_for PassesOwn.never rfl (pi_str (pv 2)) (pg_name (i := 4) sc__law_line.nd rfl (Or.inl rfl)) (pss_one (ps_expr (pe_bm PySem.F.plainAttrs_list PySem.F.slot_list_append PySem.F.type_list_append mt_append (pv 3) (pa_cons (pe_ix ix_list (pe_ix ix_list (pe_ix ix_tup (pv 1) pe_int (fun _ _ => rfl)) (pe_ix ix_list (pv 3) (pe_un un_neg pe_int) (fun _ _ => rfl)) (fun _ _ => rfl)) (pe_m1 PySem.F.slot_str_index PySem.F.type_str_index mt_sindex (pv 0) (pv 4)) (fun _ _ => rfl)) pa_nil)))))
        (pss_cons (ps_set (i := 5) sc__law_line.nd rfl (Or.inr rfl) (pe_lst (pa_cons pe_int pa_nil)))
        (pss_cons (ps_for PassesOwn.never rfl (pi_list (pe_lstRev rfl (by rfl) (fr_list T) (by rfl) (fr_reversed T) (pe_callTy (call_listX rfl) (by rfl) (fr_list T) b_list (pa_cons (pv 2) pa_nil)))) (pg_name (i := 4) sc__law_line.nd rfl (Or.inl rfl)) (pss_one (ps_expr (pe_bm PySem.F.plainAttrs_list PySem.F.slot_list_append PySem.F.type_list_append mt_append (pv 5) (pa_cons (pe_ix ix_list (pe_ix ix_list (pe_ix ix_tup (pv 1) pe_int (fun _ _ => rfl)) (pe_ix ix_list (pv 5) (pe_un un_neg pe_int) (fun _ _ => rfl)) (fun _ _ => rfl)) (pe_m1 PySem.F.slot_str_index PySem.F.type_str_index mt_sindex (pv 0) (pv 4)) (fun _ _ => rfl)) pa_nil)))))
        (pss_cons (ps_set (i := 6) sc__law_line.nd rfl (Or.inr rfl) (pe_callB call_len (by rfl) (fr_len T) boot_len (pa_cons (pv 2) pa_nil)))
        (pss_one (ps_ret (pe_lc (te := tOp (rInD K) (tTup (tCons (tOp (rIxL K) (tVar 3) (tVar 7)) (tCons (tOp rIxS (tVar 2) (tVar 7)) (tCons (tOp (rIxL K) (tVar 5) (tOp (rI0 fun i j => .int (i - j)) (tOp (rI0 fun i j => .int (i - j)) (tVar 6) (tC (.int 1))) (tVar 7))) tNil)))) (tOp (rIxT K) (tVar 1) (tC (.int 2)))) (own := [("_law_k", 7)]) (g := (gName 7)) (tt := tYes) rfl sc__law_line.nd  (pi_range1 (by rfl) (fr_range T) (pa_cons (pv 6) pa_nil)) (blkOk_by (N := N__law_line) (sc := defScope s__law_line) (by decide +kernel)) (fun _ _ _ _ _ => (pg_name (i := 7) sc__law_line.nd rfl (Or.inl rfl))) (fun _ _ _ _ _ => pts_nil) (fun _ _ _ _ _ => by refine pe_cmpR (r := rInD K) ?_ (pe_tup (pa_cons (pe_ix (r := rIxL K) ?_ (pv 3) (pv 7) (fun _ _ => rfl)) (pa_cons (pe_ix (r := rIxS) ?_ (pv 2) (pv 7) (fun _ _ => rfl)) (pa_cons (pe_ix (r := rIxL K) ?_ (pv 5) (pe_op (r := rI0 fun i j => .int (i - j)) ?_ (pe_op (r := rI0 fun i j => .int (i - j)) ?_ (pv 6) pe_int) (pv 7)) (fun _ _ => rfl)) pa_nil)))) (pe_ix (r := rIxT K) ?_ (pv 1) pe_int (fun _ _ => rfl)) rfl; exact op_inD (hu65 hr); exact ix_list; exact ix_str; exact ix_list; exact op_sub; exact op_sub; exact ix_tup))))))))), ?_⟩
    obtain ⟨al, v, row, ls, rs, trs, rfl, rv, TL, TR, hnd, habc, hts, hrow, hrl, q⟩ := h
    obtain ⟨tt, vl, vr, vm, rfl, htt, rl, rr, rm⟩ := tabs_parts rv
    have hsz : row.cps.toList.length = row.length := Array.length_toList
    refine ⟨(by show 1 ≤ sizeLine; decide), fun A1 hA1 => ?_⟩
    have s0 : Same H (upd H A1 (.lst [.int 0])) := same_upd hA1
    refine ⟨.str row, rfl, row, rfl, for_it walk_str (fun i σ G => ∃ v4 : Option V, σ = [some (.str al), some (.ref tt), some (.str row), some (.ref A1), v4, none, none, none] ∧ Same H G ∧ G A1 = some (.lst ((walkT ls (ixF al) (row.cps.toList.take i)).map fun k => V.int (k : Nat)))) ⟨none, rfl, s0, upd_same⟩ (fun _ _ _ _ _ => trivial) ?_ ?_⟩
    · rintro i x σ G G' hi ⟨v4, rfl, s2, hacc⟩ ⟨eH, c, hc, rfl⟩
      replace eH := eH.symm
      subst eH
      have hc' : row.cps.toList[i]? = some c := by rw [Array.getElem?_toList]; exact hc
      have hcr : c ∈ row.cps.toList := List.mem_of_getElem? hc'
      have hi' : i < row.length := hi
      refine ⟨.ref A1, rfl, .inl ⟨rfl, _, SqL.of hacc⟩, args_of (step_in (ti := 0) (sl := 3) (vt := vl) rfl rfl rfl rfl (s2 _ _ htt) rfl (rl.same s2) TL hacc (hrow c hcr) (fun d hd => hrow d (List.mem_of_mem_take hd)) (args_end ⟨A1, _, _, rfl, rfl, hacc, ?_, ?_⟩))⟩
      · rw [List.length_map, walkT_length, List.length_take]
        exact Nat.lt_of_le_of_lt (by omega : _ ≤ 1001) (by decide)
      · refine ⟨_, rfl, same_over s2 hA1, ?_⟩
        rw [upd_same, take_sn hc', walkT_snoc, List.map_append]
        rfl
    rintro σ G1 ⟨v4, rfl, s1, hA⟩
    rw [List.take_of_length_le (by rw [hsz]; exact Nat.le_refl _)] at hA
    refine ⟨(by show 1 ≤ sizeLine; decide), fun B1 hB1 => ?_⟩
    have hB0 : H B1 = none := s1.free hB1
    have s3 : Same H (upd G1 B1 (.lst [.int 0])) := s1.trans (same_upd hB1)
    have hA3 : upd G1 B1 (.lst [.int 0]) A1 = _ := (same_upd hB1) _ _ hA
    refine ⟨.str row, rfl, row, rfl, Nat.le_trans hrl (by decide), fun l hl => ⟨l, _, rfl, SqL.of upd_same, fun m hm => ?_⟩⟩
    have hAB : A1 ≠ B1 := fun z => by rw [z, hB1] at hA; cases hA
    have hmB : m ≠ B1 := fun z => by rw [z, upd_ne (ne_of_none upd_same hl), upd_same] at hm; cases hm
    have s4 := s3.trans ((same_upd (o := .lst (lettersV row)) hl).trans (same_upd (o := .lst (lettersV row).reverse) hm))
    have hA4 := (same_upd (o := .lst (lettersV row).reverse) hm) _ _ ((same_upd (o := .lst (lettersV row)) hl) _ _ hA3)
    have hB4 := (same_upd (o := .lst (lettersV row).reverse) hm) _ _ ((same_upd (o := .lst (lettersV row)) hl) _ _ (upd_same (H := G1) (a := B1) (o := .lst [.int 0])))
    refine ⟨m, rfl, ⟨_, SqL.of upd_same⟩, ?_⟩
    refine for_it walk_list (fun i σ G => ∃ v4 : Option V, σ = [some (.str al), some (.ref tt), some (.str row), some (.ref A1), v4, some (.ref B1), none, none] ∧ Same H G ∧ G m = some (.lst (lettersV row).reverse) ∧ G A1 = some (.lst ((walkT ls (ixF al) row.cps.toList).map fun k => V.int (k : Nat))) ∧ G B1 = some (.lst ((walkT rs (ixF al) (row.cps.toList.reverse.take i)).map fun k => V.int (k : Nat)))) ⟨v4, rfl, s4, upd_same, hA4, hB4⟩ (fun _ _ _ _ ⟨_, _, _, h, _⟩ => SqL.of h) ?_ ?_
    · rintro i x σ G G' hi ⟨v4, rfl, s5, hm5, hA5, hB5⟩ ⟨eH, hx⟩
      replace eH := eH.symm
      subst eH
      unfold lettersV at hx
      rw [← List.map_reverse, List.getElem?_map] at hx
      obtain ⟨c, hc', rfl⟩ := Option.map_eq_some_iff.mp hx
      have hcr : c ∈ row.cps.toList := List.mem_reverse.mp (List.mem_of_getElem? hc')
      have hi' : i < row.length := by have := (List.getElem?_eq_some_iff.mp hc').1; rw [List.length_reverse] at this; omega
      refine ⟨.ref B1, rfl, .inl ⟨rfl, _, SqL.of hB5⟩, args_of (step_in (ti := 1) (sl := 5) (vt := vr) rfl rfl rfl rfl (s5 _ _ htt) rfl (rr.same s5) TR hB5 (hrow c hcr) (fun d hd => hrow d (List.mem_reverse.mp (List.mem_of_mem_take hd))) (args_end ⟨B1, _, _, rfl, rfl, hB5, ?_, ?_⟩))⟩
      · rw [List.length_map, walkT_length, List.length_take, List.length_reverse]
        exact Nat.lt_of_le_of_lt (by omega : _ ≤ 1001) (by decide)
      · refine ⟨_, rfl, same_over s5 hB0, by rw [upd_ne hmB]; exact hm5, by rw [upd_ne hAB]; exact hA5, ?_⟩
        rw [upd_same, take_sn hc', walkT_snoc, List.map_append]
        rfl
    rintro σ G2 ⟨v4, rfl, s5, hm5, hA5, hB5⟩
    have e9 : (lettersV row).reverse.length = row.cps.toList.reverse.length := by rw [List.length_reverse, List.length_reverse]; unfold lettersV; rw [List.length_map]
    rw [e9, List.take_length] at hB5
    dsimp only
    refine asg_set (lenS rfl (Nat.le_trans hrl (by decide)) ?_)
    rintro σ1 rfl
    refine ret_te ⟨.int (row.length : Nat), rfl, (row.length : Nat), rfl, (by omega), (by omega), fun D hD => ?_⟩
    have hln : (marksP ⟨al, ixF al, ls, rs, trs⟩ row.cps.toList).length = row.length := by rw [marksP_len, hsz]
    refine lc_new (walk_range (n := row.length)) hD (Nat.le_trans hrl (by decide)) (fun (i : Nat) _ v => ∀ b, (marksP ⟨al, ixF al, ls, rs, trs⟩ row.cps.toList)[i]? = some b → v = V.bl b) (fun _ _ _ _ _ h => h) (fun _ _ => trivial) (fun i x G G' Qk hi s6 hy hk => ?_) (fun G acc s6 hG hla hacc => ?_)
    · obtain ⟨eH, ex⟩ := hy
      replace eH := eH.symm
      subst eH
      have ex : x = V.int (i : Nat) := ex.trans (by show V.int (0 + _) = _; rw [Int.zero_add])
      subst ex
      have hi' : i < row.length := hi
      obtain ⟨c, hc⟩ : ∃ c, row.cps.toList[i]? = some c := ⟨_, List.getElem?_eq_getElem (by rw [hsz]; exact hi')⟩
      have hcr : c ∈ row.cps.toList := List.mem_of_getElem? hc
      have g1 := walkT_get ls (ixF al) (cs := row.cps.toList) (k := i) (by omega)
      have g2 := walkT_get rs (ixF al) (cs := row.cps.toList.reverse) (k := row.cps.toList.length - 1 - i) (by rw [List.length_reverse]; omega)
      have m1 := marks_at (D := ⟨al, ixF al, ls, rs, trs⟩) hc
      refine ⟨wipe1 _ 7 _, ?_⟩
      refine op_of (args_of (op_of (var_of rfl (var_of rfl ⟨A1, _, _, _, rfl, rfl, SqL.of (s6 _ _ hA5), atI_nat (by rw [List.getElem?_map, g1]; rfl), ?_⟩))))
      refine args_of (op_of (var_of rfl (var_of rfl ⟨row, _, c, rfl, rfl, Nat.le_trans hrl (by decide), atI_nat hc, ?_⟩)))
      refine args_of (op_of (var_of rfl (op_of (op_of (var_of rfl ⟨_, _, rfl, rfl, var_of rfl ⟨_, _, rfl, rfl, ?_⟩⟩)))))
      refine ⟨B1, _, _, _, rfl, rfl, SqL.of (s6 _ _ hB5), by rw [show ((row.length : Nat) : Int) - 1 - (i : Nat) = ((row.cps.toList.length - 1 - i : Nat) : Int) by omega]; exact atI_nat (by rw [List.getElem?_map, g2]; rfl), ?_⟩
      refine args_end ⟨by show 3 ≤ sizeLine; decide, fun t ht => ?_⟩
      have st := same_upd (o := .tup [.int (runT ls (ixF al) 0 (row.cps.toList.take i) : Nat), .str ⟨#[c]⟩, .int (runT rs (ixF al) 0 (row.cps.toList.reverse.take (row.cps.toList.length - 1 - i)) : Nat)]) ht
      have sH := (s5.trans s6).trans st
      refine op_of (var_of rfl ⟨tt, _, _, vm, rfl, rfl, SqT.of (sH _ _ htt), atI_nat (j := 2) rfl, ?_⟩)
      have hcl := habc c (hrow c hcr)
      have htl : ∀ t ∈ trs, t.2.1 < 0x110000 := fun t h => habc _ (hts t h)
      refine ⟨_, _, dp_tri upd_same, (rm.same sH).dp (tris_dict trs), shaped_of (tri_pure hcl) (Nat.le_trans (tri_depth _) (by decide)), tris_shaped htl, ?_⟩
      rw [tri_any htl hcl]
      refine hk _ _ st fun b hb => ?_
      rw [m1, markAt_mem hnd (hrow c hcr) hts] at hb
      rw [← Option.some.inj hb]
    · have ea : acc = (marksP ⟨al, ixF al, ls, rs, trs⟩ row.cps.toList).map V.bl := bls_of (by rw [hla, hln]) fun i v hi b hb => hacc i v hi b hb
      refine q G D (s5.trans s6) (s5.free hD) ?_
      rw [hG, ea]
end
end Kx
set_option Elab.async false
set_option linter.all false
set_option maxRecDepth 100000
set_option maxHeartbeats 4000000
namespace Kx
open PySem PySem.Spec PyProof.Rows L2
theorem foldl_cps : ∀ (n : Nat) (x acc : Array Nat), ((List.replicate n x).foldl (· ++ ·) acc).toList = acc.toList ++ (List.replicate n x.toList).flatten
  | 0, x, acc => by simp
  | n + 1, x, acc => by
    rw [List.replicate_succ, List.foldl_cons, foldl_cps n x (acc ++ x), Array.toList_append, List.replicate_succ, List.flatten_cons, List.append_assoc]
theorem mul_cps {z : Str} {n : Nat} (h2 : 2 ≤ n) (hz : 1 ≤ z.length) : (Txt.mul z (n : Int)).cps.toList = (List.replicate n z.cps.toList).flatten := by
  unfold Txt.mul
  rw [if_neg (by omega), if_neg (by simp; omega), Int.toNat_natCast, foldl_cps]
  rfl
theorem mul_mem {z : Str} {n : Nat} (h2 : 2 ≤ n) (hz : 1 ≤ z.length) : ∀ c ∈ (Txt.mul z (n : Int)).cps.toList, c ∈ z.cps.toList := by
  rw [mul_cps h2 hz]
  intro c hc
  obtain ⟨l, hl, hcl⟩ := List.mem_flatten.mp hc
  rw [(List.mem_replicate.mp hl).2] at hcl
  exact hcl
theorem sum_rep (m : Nat) : ∀ n : Nat, (List.replicate n m).sum = n * m
  | 0 => by simp
  | n + 1 => by
    rw [List.replicate_succ, List.sum_cons, sum_rep m n, Nat.succ_mul, Nat.add_comm]
theorem mul_len {z : Str} {n : Nat} (h2 : 2 ≤ n) (hz : 1 ≤ z.length) : (Txt.mul z (n : Int)).length = n * z.length := by
  have h := congrArg List.length (mul_cps h2 hz)
  rw [Array.length_toList, List.length_flatten, List.map_replicate, sum_rep] at h
  have e : z.cps.toList.length = z.length := Array.length_toList
  rw [e] at h
  exact h
theorem join_one : ∀ cs : List Nat, Str.join "" (cs.map one1) = ⟨cs.toArray⟩
  | [] => rfl
  | [c] => rfl
  | c :: d :: cs => by
    show one1 c ++ "" ++ Str.join "" ((d :: cs).map one1) = _
    rw [join_one (d :: cs)]
    show Str.mk (#[c] ++ ("" : Str).cps ++ (d :: cs).toArray) = _
    have e : ("" : Str).cps = #[] := rfl
    rw [e]
    simp
theorem join_list (cs : List Nat) : (Txt.join "" (cs.map one1)).cps.toList = cs := by
  rw [TL.join_eq, join_one]
theorem join_len (cs : List Nat) : (Txt.join "" (cs.map one1)).length = cs.length := by
  show (Txt.join "" (cs.map one1)).cps.size = _
  rw [← Array.length_toList, join_list]
theorem op_repE {X : Cx} : OpR X (binaryOp .Mult) (fun x y H Q => ∃ (z : Str) (n : Nat), x = .str z ∧ y = .int (n : Nat) ∧ 2 ≤ n ∧ n ≤ 1000 ∧ z.length ≤ 1000 ∧ Q (.str (Txt.mul z (n : Nat))) H) := by
  intro pins s σ H x y v u Q I rx ry h
  obtain ⟨z, n, rfl, rfl, h0, h1, hz2, q⟩ := h
  obtain ⟨t, rfl⟩ := rx
  obtain ⟨t2, rfl⟩ := ry
  refine PySem.SB.mul ?_ fun t' k => ⟨.str _, H, I.tok _, ⟨_, rfl⟩, q⟩
  refine ⟨?_, fun h1 _ => ?_, fun h1 _ => ?_⟩
  · rw [Bool.or_eq_false_iff]
    exact ⟨decide_eq_false (by omega), decide_eq_false (by omega)⟩
  · intro hc
    have h2 : (z.length : Int) ≤ (2 ^ 63 - 1) / (n : Int) := by
      rw [Int.le_ediv_iff_mul_le (by omega)]
      have h3 : z.length * n ≤ 1000 * 1000 := Nat.mul_le_mul hz2 (by omega)
      have h4 : ((z.length : Nat) : Int) * (n : Nat) = ((z.length * n : Nat) : Int) := by rw [Int.natCast_mul]
      rw [h4]
      omega
    omega
  · refine decide_eq_false ?_
    have h9 : (1000000 : Nat) ≤ sizeLine := by decide
    have h3 : z.length * n ≤ 1000 * 1000 := Nat.mul_le_mul hz2 (by omega)
    have h5 : n * z.length ≤ 1000 * 1000 := Nat.mul_le_mul (by omega) hz2
    first
      | omega
      | (intro hc; simp at hc; omega)
theorem over_cut {al z : Str} {n : Nat} {lo hi : Option Int} (h : over al n z) : over al n (cutS z lo hi) := by
  refine ⟨Nat.le_trans (cutS_length z lo hi) h.1, fun c hc => h.2 c ?_⟩
  unfold cutS at hc
  exact List.mem_of_mem_drop (List.mem_of_mem_take (by simpa using hc))
theorem over_cat {al x y : Str} {n m : Nat} (h : over al n x) (k : over al m y) : over al (n + m) (x ++ y) := by
  refine ⟨by rw [len_app]; have := h.1; have := k.1; omega, fun c hc => ?_⟩
  rw [cps_app] at hc
  rcases List.mem_append.mp hc with hc | hc
  · exact h.2 c hc
  · exact k.2 c hc
theorem over_mul {al z : Str} {n k : Nat} (h : over al n z) (hk : 2 ≤ k) : over al (k * n) (Txt.mul z (k : Nat)) := by
  by_cases hz : 1 ≤ z.length
  · exact ⟨by rw [mul_len hk hz]; exact Nat.mul_le_mul_left _ h.1, fun c hc => h.2 c (mul_mem hk hz c hc)⟩
  · have e : Txt.mul z ((k : Nat) : Int) = z := by
      unfold Txt.mul
      rw [if_neg (by omega), if_pos (by simp; omega)]
    rw [e]
    exact over_mono h (Nat.le_mul_of_pos_left n (by omega))
theorem over_one {al : Str} {c : Nat} (h : c ∈ al.cps.toList) : over al 1 (one1 c) := ⟨Nat.le_refl _, fun d hd => by rw [List.mem_singleton.mp (show d ∈ [c] from hd)]; exact h⟩
theorem over_list {al : Str} {n : Nat} {cs : List Nat} (h : cs.length ≤ n) (k : ∀ c ∈ cs, c ∈ al.cps.toList) : over al n (Txt.join "" (cs.map one1)) := ⟨by rw [join_len]; exact h, by rw [join_list]; exact k⟩
/-- the expression gives a text with the property, and changes nothing -/
def TxE (σ : L2.St) (te : TE) (P : Str → Prop) : Prop := ∀ (G : Hp) (Q : VK), (∀ z, P z → Q (.str z) G) → te σ G Q
/-- .. an int -/
def InE (σ : L2.St) (te : TE) : Prop := ∀ (G : Hp) (Q : VK), (∀ i : Int, Q (.int i) G) → te σ G Q
def PaE (σ : L2.St) (lo : TO) : Prop := ∀ (G : Hp) (R : Option Int → Hp → Prop), (∀ l, R l G) → lo σ G R
section
variable {σ : L2.St}
theorem tx_var {i : Nat} {z : Str} {P : Str → Prop} (e : σ[i]? = some (some (.str z))) (h : P z) : TxE σ (tVar i) P := fun G Q k => ⟨_, e, k z h⟩
theorem in_var {i : Nat} {k : Int} (e : σ[i]? = some (some (.int k))) : InE σ (tVar i) := fun G Q q => ⟨_, e, q k⟩
theorem in_add {te : TE} {c : Int} (h : InE σ te) : InE σ (tOp (rI0 fun i j => .int (i + j)) te (tC (.int c))) := fun G Q q => h G _ fun i => ⟨i, c, rfl, rfl, q _⟩
theorem pa_no : PaE σ tNoPart := fun G R k => k none
theorem pa_int {te : TE} (h : InE σ te) : PaE σ (tPart te) := fun G R k => h G _ fun i => ⟨i, rfl, k (some i)⟩
theorem pa_c {c : Int} : PaE σ (tPart (tC (.int c))) := fun G R k => ⟨c, rfl, k (some c)⟩
theorem tx_sl {al : Str} {n : Nat} {te : TE} {lo hi : TO} (h : TxE σ te (over al n)) (h1 : PaE σ lo) (h2 : PaE σ hi) (hn : n ≤ 100000) : TxE σ (tSl rSlS te lo hi) (over al n) := fun G Q k => h G _ fun z hz => h1 G _ fun l => h2 G _ fun u => ⟨z, rfl, Nat.le_trans hz.1 (Nat.le_trans hn (by decide)), k _ (over_cut hz)⟩
/-- a sum of texts -/
def rAddS : R2 := fun x y H Q => ∃ i j, x = .str i ∧ y = .str j ∧ i.length + j.length ≤ sizeLine ∧ Q (.str (i ++ j)) H
theorem tx_cat {al : Str} {n m : Nat} {ta tb : TE} (h : TxE σ ta (over al n)) (k : TxE σ tb (over al m)) (hn : n + m ≤ 100000) : TxE σ (tOp rAddS ta tb) (over al (n + m)) := fun G Q q => h G _ fun x hx => k G _ fun y hy => ⟨x, y, rfl, rfl, Nat.le_trans (by have := hx.1; have := hy.1; omega : _ ≤ 100000) (by decide), q _ (over_cat hx hy)⟩
theorem tx_ret {te : TE} {D : Ends} {P : Str → Prop} {G : Hp} (h : TxE σ te P) (k : ∀ z, P z → D.rt (.str z) G) : tRet te D σ G := h G _ k
end
theorem letters_one (z : Str) : lettersV z = (z.cps.toList.map one1).map V.str := by unfold lettersV; rw [List.map_map]; rfl
/-- "".join(list(reversed(list(z)))) -/
theorem sum_ones (cs : List Nat) : ((cs.map one1).map (·.length)).sum = cs.length := by
  induction cs with
  | nil => rfl
  | cons c l ih =>
    rw [List.map_cons, List.map_cons, List.sum_cons, ih, List.length_cons]
    show 1 + l.length = _
    omega
end Kx
set_option Elab.async false
set_option linter.all false
set_option maxRecDepth 100000
set_option maxHeartbeats 4000000
namespace Kx
open PySem PySem.Spec PyProof.Rows L2
def dl (L : List Addr) (H : Hp) : Hp := fun b => if b ∈ L then none else H b
theorem dl_at {L : List Addr} {H : Hp} {b : Addr} (h : b ∉ L) : dl L H b = H b := if_neg h
theorem dl_in {L : List Addr} {H : Hp} {b : Addr} (h : b ∈ L) : dl L H b = none := if_pos h
theorem dl_le {L : List Addr} {H : Hp} : Same (dl L H) H := fun b o e => by
  by_cases h : b ∈ L
  · rw [dl_in h] at e; cases e
  · rw [dl_at h] at e; exact e
theorem dl_same {L : List Addr} {H H' : Hp} (s : Same H H') : Same (dl L H) (dl L H') := fun b o e => by
  by_cases h : b ∈ L
  · rw [dl_in h] at e; cases e
  · rw [dl_at h] at e ⊢; exact s b o e
theorem dl_sub {L L' : List Addr} {H : Hp} (h : ∀ x ∈ L, x ∈ L') : Same (dl L' H) (dl L H) := fun b o e => by
  by_cases hb : b ∈ L'
  · rw [dl_in hb] at e; cases e
  · rw [dl_at hb] at e
    rw [dl_at fun z => hb (h b z)]
    exact e
theorem dl_upd {L : List Addr} {H : Hp} {p : Addr} {o : HO} (h : p ∈ L) : dl L (upd H p o) = dl L H := by
  funext b
  by_cases hb : b ∈ L
  · rw [dl_in hb, dl_in hb]
  · rw [dl_at hb, dl_at hb, upd_ne fun z => hb (by rw [z]; exact h)]
theorem dl_one {a : Addr} {H : Hp} : dl [a] H = del H a := by
  funext b
  by_cases hb : b = a
  · subst hb
    rw [dl_in (List.mem_singleton.mpr rfl)]
    exact (if_pos rfl).symm
  · rw [dl_at (fun z => hb (List.mem_singleton.mp z)), del_ne hb]
theorem dl_some {L : List Addr} {H : Hp} {b : Addr} {o : HO} (h : dl L H b = some o) : b ∉ L ∧ H b = some o := by
  by_cases hb : b ∈ L
  · rw [dl_in hb] at h; cases h
  · rw [dl_at hb] at h; exact ⟨hb, h⟩
/-- what stands, left out of account -/
def Held (L : List Addr) (H : Hp) : Prop := ∀ x ∈ L, ∃ o, H x = some o
theorem Held.new {L : List Addr} {H : Hp} {p : Addr} (h : Held L H) (hp : H p = none) : p ∉ L := fun z => by
  obtain ⟨o, e⟩ := h p z
  rw [hp] at e
  cases e
theorem Held.same {L : List Addr} {H H' : Hp} (h : Held L H) (s : Same H H') : Held L H' := fun x hx => by
  obtain ⟨o, e⟩ := h x hx
  exact ⟨o, s _ _ e⟩
theorem Held.cons {L : List Addr} {H : Hp} {p : Addr} {o : HO} (h : Held L H) (hp : H p = some o) : Held (p :: L) H := fun x hx => by
  rcases List.mem_cons.mp hx with rfl | hx
  · exact ⟨o, hp⟩
  · exact h x hx
/-- a new thing, beside what is left out -/
theorem dl_new {L : List Addr} {H : Hp} {p : Addr} {o : HO} (h : Held L H) (hp : H p = none) : dl L (upd H p o) p = some o := by
  rw [dl_at (h.new hp), upd_same]
theorem RpL.snoc {H : Hp} : ∀ {vs : List V} {ds : List PyData} {v : V} {d : PyData}, RpL H vs ds → Rp H v d → RpL H (vs ++ [v]) (ds ++ [d])
  | _, _, _, _, .nil, r => .cons r .nil
  | _, _, _, _, .cons h t, r => .cons h (t.snoc r)
def rLstO (K : PySem.W.Frag) : List V → Hp → VK → Prop := fun xs H Q => ∃ p ys, xs = [V.ref p] ∧ (SqL K H p ys ∨ SqT K H p ys) ∧ ∀ l : Addr, H l = none → Q (V.ref l) (upd H l (.lst ys))
theorem PairsAt.del {H : Hp} {a l : Addr} {ps : List (Nat × Nat)} (h : PairsAt H l ps) (hs : SrcAt H a) (hl : l ≠ a) : PairsAt (del H a) l ps := by
  obtain ⟨bs, h1, h2, h3⟩ := h
  obtain ⟨A, S, C, e⟩ := hs
  refine ⟨bs, by rw [del_ne hl]; exact h1, h2, fun i b p e1 e2 => ?_⟩
  have h4 := h3 i b p e1 e2
  rw [del_ne (fun z => by rw [z, e] at h4; cases h4)]
  exact h4
/-- [.. for x in list]: what comes of each stands beside the new list and what is left out -/
theorem lc_rp {K : PySem.W.Frag} {L : List Addr} {σ : L2.St} {te : TE} {sl j : Nat} {c : Addr} {xs : List V} {ds : List PyData} {H : Hp} {Q : VK} (hL : Held L H) (hσ : σ[sl]? = some (some (.ref c))) (hc : H c = some (.lst xs)) (hl : xs.length = ds.length) (hn : ds.length ≤ 100000)
    (he : ∀ (i : Nat) (x : V) (d : PyData) (G : Hp) (D : Addr) (Q' : VK), xs[i]? = some x → ds[i]? = some d → H D = none → Held (D :: L) G → Same H G → (∀ G' v, Same G G' → Rp (dl (D :: L) G') v d → Q' v G') → te ((wipe σ [j]).set j (some x)) G Q')
    (q : ∀ (G : Hp) (D : Addr) (vs : List V), H D = none → Same H G → G D = some (.lst vs) → RpL (dl (D :: L) G) vs ds → Q (.ref D) G) : tLc (iList K (tVar sl)) (gName j) tYes te [j] σ H Q := by
  refine ⟨.ref c, hσ, c, rfl, ⟨_, SqL.of hc⟩, fun D hD => ?_⟩
  refine lc_it walk_list (fun i G => Same H G ∧ ∃ vs, G D = some (.lst vs) ∧ RpL (dl (D :: L) G) vs (ds.take i)) ⟨same_upd hD, [], upd_same, .nil⟩ (fun i G _ ⟨s, _⟩ => SqL.of (s _ _ hc)) ?_ ?_
  · rintro i x Gx G hi ⟨s, vs, hvs, hr⟩ ⟨rfl, hx⟩
    have hd := List.getElem?_eq_getElem (show i < ds.length by omega)
    generalize ds[i]'(by omega) = d at hd
    refine ⟨wipe1 σ j _, he i x d _ D _ hx hd hD ((hL.same s).cons hvs) s fun G' v s' rv => ⟨vs, s' _ _ hvs, ?_, same_over (s.trans s') hD, vs ++ [v], upd_same, ?_⟩⟩
    · rw [hr.len, List.length_take]
      exact Nat.lt_of_le_of_lt (by omega : _ ≤ 100000) (by decide)
    · rw [dl_upd (List.mem_cons_self ..), take_sn hd]
      exact (hr.same (dl_same s')).snoc rv
  · rintro G ⟨s, vs, hvs, hr⟩
    rw [hl, List.take_length] at hr
    exact q G D vs hD s hvs hr
/-- [.. for x in list]: what comes of each stands beside the new list and what is left out -/
theorem lc_rpE {K : PySem.W.Frag} {L : List Addr} {σ : L2.St} {te ti : TE} {j : Nat} {H0 : Hp} {c : Addr} {xs : List V} {ds : List PyData} {H : Hp} {Q : VK} (hL : Held L H) (hti : ∀ Q' : VK, Q' (.ref c) H → ti σ H0 Q') (hc : H c = some (.lst xs)) (hl : xs.length = ds.length) (hn : ds.length ≤ 100000)
    (he : ∀ (i : Nat) (x : V) (d : PyData) (G : Hp) (D : Addr) (Q' : VK), xs[i]? = some x → ds[i]? = some d → H D = none → Held (D :: L) G → Same H G → (∀ G' v, Same G G' → Rp (dl (D :: L) G') v d → Q' v G') → te ((wipe σ [j]).set j (some x)) G Q')
    (q : ∀ (G : Hp) (D : Addr) (vs : List V), H D = none → Same H G → G D = some (.lst vs) → RpL (dl (D :: L) G) vs ds → Q (.ref D) G) : tLc (iList K ti) (gName j) tYes te [j] σ H0 Q := by
  refine hti _ ⟨c, rfl, ⟨_, SqL.of hc⟩, fun D hD => ?_⟩
  refine lc_it walk_list (fun i G => Same H G ∧ ∃ vs, G D = some (.lst vs) ∧ RpL (dl (D :: L) G) vs (ds.take i)) ⟨same_upd hD, [], upd_same, .nil⟩ (fun i G _ ⟨s, _⟩ => SqL.of (s _ _ hc)) ?_ ?_
  · rintro i x Gx G hi ⟨s, vs, hvs, hr⟩ ⟨rfl, hx⟩
    have hd := List.getElem?_eq_getElem (show i < ds.length by omega)
    generalize ds[i]'(by omega) = d at hd
    refine ⟨wipe1 σ j _, he i x d _ D _ hx hd hD ((hL.same s).cons hvs) s fun G' v s' rv => ⟨vs, s' _ _ hvs, ?_, same_over (s.trans s') hD, vs ++ [v], upd_same, ?_⟩⟩
    · rw [hr.len, List.length_take]
      exact Nat.lt_of_le_of_lt (by omega : _ ≤ 100000) (by decide)
    · rw [dl_upd (List.mem_cons_self ..), take_sn hd]
      exact (hr.same (dl_same s')).snoc rv
  · rintro G ⟨s, vs, hvs, hr⟩
    rw [hl, List.take_length] at hr
    exact q G D vs hD s hvs hr
theorem lc_rpN {K : PySem.W.Frag} {L : List Addr} {σ : L2.St} {te ti : TE} {j : Nat} {xs : List V} {ds : List PyData} {H : Hp} {Q : VK} (hL : Held L H) (hti : ∀ Q' : VK, (∀ c, H c = none → Q' (.ref c) (upd H c (.lst xs))) → ti σ H Q') (hl : xs.length = ds.length) (hn : ds.length ≤ 100000)
    (he : ∀ (i : Nat) (x : V) (d : PyData) (G : Hp) (D : Addr) (Q' : VK), xs[i]? = some x → ds[i]? = some d → H D = none → Held (D :: L) G → Same H G → (∀ G' v, Same G G' → Rp (dl (D :: L) G') v d → Q' v G') → te ((wipe σ [j]).set j (some x)) G Q')
    (q : ∀ (G : Hp) (D : Addr) (vs : List V), H D = none → Same H G → G D = some (.lst vs) → RpL (dl (D :: L) G) vs ds → Q (.ref D) G) : tLc (iList K ti) (gName j) tYes te [j] σ H Q := by
  refine hti _ fun c hc => ?_
  have s0 := same_upd (o := .lst xs) hc
  exact lc_rpE (K := K) (L := L) (σ := σ) (te := te) (ti := tC (.ref c)) (j := j) (H0 := upd H c (.lst xs)) (c := c) (xs := xs) (ds := ds) (H := upd H c (.lst xs)) (Q := Q) (hL.same s0) (fun Q' k => k) upd_same hl hn (fun i x d G D Q' h1 h2 h3 h4 h5 k => he i x d G D Q' h1 h2 (none_of s0 h3) h4 (s0.trans h5) k) (fun G D vs h1 h2 h3 h4 => q G D vs (none_of s0 h1) (s0.trans h2) h3 h4)
end Kx
set_option Elab.async false
set_option linter.all false
set_option maxRecDepth 100000
set_option maxHeartbeats 4000000
namespace Kx
open PySem PySem.Spec PyProof.Rows L2
/-! ### names, told apart by the one letter before u -/
def smalls (z : Str) : List Nat := z.cps.toList.filter fun c => decide (c < 117)
def abtS : Str := "abcdefghijklmnopqrst"
theorem abt_at : ∀ k, k < 20 → abtS.cps.toList[k]? = some (97 + k) := by decide +kernel
theorem uz_at : ∀ k, k < 6 → ("uvwxyz" : Str).cps.toList[k]? = some (117 + k) := by decide +kernel
theorem az_in : ∀ k, k < 26 → 97 + k ∈ azS.cps.toList := by decide +kernel
def NmAt (s k : Nat) (z : Str) : Prop := NameOk z ∧ smalls z = [97 + (7 * k + s) % 20]
theorem nm_make {s k at_ : Nat} {r z : Str} (hr : r.length ≤ 7) (hu : ∀ c ∈ r.cps.toList, 117 ≤ c ∧ c < 123) (hz : z.cps.toList = r.cps.toList.take at_ ++ (97 + (7 * k + s) % 20) :: r.cps.toList.drop at_) : NmAt s k z := by
  have lr : r.cps.toList.length = r.length := Array.length_toList
  have lz : z.cps.toList.length = z.length := Array.length_toList
  have hl : z.length = r.length + 1 := by rw [← lz, hz, ← lr]; simp only [List.length_append, List.length_cons, List.length_take, List.length_drop]; omega
  refine ⟨⟨by omega, by omega, fun c hc => ?_⟩, ?_⟩
  · rw [hz] at hc
    have key : ∀ d, 117 ≤ d ∧ d < 123 → d ∈ azS.cps.toList := fun d hd => by
      have := az_in (d - 97) (by omega)
      rwa [show 97 + (d - 97) = d by omega] at this
    rcases List.mem_append.mp hc with hc | hc
    · exact key c (hu c (List.mem_of_mem_take hc))
    · rcases List.mem_cons.mp hc with rfl | hc
      · exact az_in _ (by omega)
      · exact key c (hu c (List.mem_of_mem_drop hc))
  · unfold smalls
    rw [hz, List.filter_append, List.filter_cons, if_pos (by rw [decide_eq_true_eq]; omega)]
    have e1 : (r.cps.toList.take at_).filter (fun c => decide (c < 117)) = [] := List.filter_eq_nil_iff.mpr fun c hc => by have := hu c (List.mem_of_mem_take hc); rw [decide_eq_true_eq]; omega
    have e2 : (r.cps.toList.drop at_).filter (fun c => decide (c < 117)) = [] := List.filter_eq_nil_iff.mpr fun c hc => by have := hu c (List.mem_of_mem_drop hc); rw [decide_eq_true_eq]; omega
    rw [e1, e2]
    rfl
def NmsOk (zs : List Str) : Prop := zs.Nodup ∧ ∀ z ∈ zs, NameOk z
theorem nms_ok {s n : Nat} {zs : List Str} (hn : n ≤ 20) (hl : zs.length = n) (h : ∀ (i : Nat) z, zs[i]? = some z → NmAt s i z) : NmsOk zs := by
  constructor
  · rw [List.nodup_iff_pairwise_ne, List.pairwise_iff_getElem]
    intro i j hi hj hij e
    have h1 := (h i _ (List.getElem?_eq_getElem hi)).2
    have h2 := (h j _ (List.getElem?_eq_getElem hj)).2
    rw [e, h2] at h1
    have := (List.cons.inj h1).1
    omega
  · intro z hz
    obtain ⟨i, hi⟩ := List.mem_iff_getElem?.mp hz
    exact (h i z hi).1
section
variable {P : Program} {w : World} {K : PySem.W.Frag} {mg : Str → Option Value} {base : Heap}
def sp_law_names : Sp := fun vs H Q _ => ∃ (a : Addr) (n : Nat), vs = [.ref a, .int (n : Nat)] ∧ n ≤ 20 ∧ SrcAt H a ∧ ∀ H' l (zs : List Str), Fra a H H' → l ≠ a → H' l = some (.lst (zs.map V.str)) → zs.length = n → NmsOk zs → Q (.ref l) H'
theorem ok_law_names (T : Txt K mg) : Cal P w K mg base CX0 2 "_law_names" ["_law_source_here", "_law_many"] sp_law_names := by
  obtain ⟨fd, F⟩ := F__law_names T
  refine cal_mk F (g__law_names T) sc__law_names (fun _ _ _ _ _ _ us hl => match us, hl with | [_, _], _ => rfl) (fun vs H Q E h => ?_) (fun cdv A outer s H vs Q E hr h => ?_)
  · obtain ⟨a, n, rfl, _⟩ := h; rfl
  · refine ⟨_, PSs.nox (pss_cons (ps_set (i := 2) sc__law_names.nd rfl (Or.inl rfl) (pe_cal (ok_law_pick T) (hr.mono (by decide)) pass0 (pa_cons (pv 0) (pa_cons pe_int pa_nil))))
        (pss_cons (ps_set (i := 3) sc__law_names.nd rfl (Or.inl rfl) (pe_lst pa_nil))
        (pss_cons (ps_for PassesOwn.never rfl (pi_range1 (by rfl) (fr_range T) (pa_cons (pv 1) pa_nil)) (pg_name (i := 4) sc__law_names.nd rfl (Or.inl rfl)) (pss_cons (ps_set (i := 5) sc__law_names.nd rfl (Or.inl rfl) (pe_join pe_str (pe_lc (te := tOp rIxS (tC (.str "uvwxyz")) (tCall sp_law_pick [] E0 (tCons (tVar 0) (tCons (tC (.int 6)) tNil)))) (own := [("_law_m", 7)]) (g := (gName 7)) (tt := tYes) rfl sc__law_names.nd  (pi_range1 (by rfl) (fr_range T) (pa_cons (pe_cal (ok_law_pick T) (hr.mono (by decide)) pass0 (pa_cons (pv 0) (pa_cons pe_int pa_nil))) pa_nil)) (blkOk_by (N := N__law_names) (sc := defScope s__law_names) (by decide +kernel)) (fun _ _ _ _ _ => (pg_name (i := 7) sc__law_names.nd rfl (Or.inl rfl))) (fun _ _ _ _ _ => pts_nil) (fun _ _ _ _ _ => by refine pe_ix (r := rIxS) (ta := tC (.str "uvwxyz")) (tb := tCall sp_law_pick [] E0 (tCons (tVar 0) (tCons (tC (.int 6)) tNil))) ?_ pe_str ?_ (fun _ _ => rfl); exact ix_str; exact pe_cal (ok_law_pick T) (hr.mono (by decide)) pass0 (pa_cons (pv 0) (pa_cons pe_int pa_nil))))))
        (pss_cons (ps_set (i := 6) sc__law_names.nd rfl (Or.inl rfl) (pe_cal (ok_law_pick T) (hr.mono (by decide)) pass0 (pa_cons (pv 0) (pa_cons (pe_op op_add (pe_callB call_len (by rfl) (fr_len T) boot_len (pa_cons (pv 5) pa_nil)) pe_int) pa_nil))))
        (pss_one (ps_expr (pe_bm PySem.F.plainAttrs_list PySem.F.slot_list_append PySem.F.type_list_append mt_append (pv 3) (pa_cons (pe_op op_add_str (pe_op op_add_str (pe_slice sl_str (pv 5) po_none (po_some (pv 6))) (pe_ix ix_str pe_str (pe_op op_mod (pe_callTy call_int1 (by rfl) (fr_int T) b_int (pa_cons (pe_op op_add (pe_op op_mul pe_int (pv 4)) (pv 2)) pa_nil)) pe_int) (fun _ _ => rfl))) (pe_slice sl_str (pv 5) (po_some (pv 6)) po_none)) pa_nil)))))))
        (pss_one (ps_ret (pv 3)))))), ?_⟩
    obtain ⟨a, n, rfl, hn, hs, q⟩ := h
    refine asg_set (drawC rfl (by omega) (by omega) hs fun sh G1 f1 _ => ?_)
    rintro σ1 rfl
    refine ⟨(by show 0 ≤ sizeLine; decide), fun L hL => ?_⟩
    have hLa := src_ne f1.src hL
    refine ⟨.int (n : Nat), rfl, (n : Nat), rfl, (by omega), (by omega), ?_⟩
    refine for_it walk_range (fun i σ G => ∃ (v4 v5 v6 : Option V) (zs : List Str), σ = [some (.ref a), some (.int (n : Nat)), some (.int (sh : Nat)), some (.ref L), v4, v5, v6, none] ∧ Fra a G1 G ∧ G L = some (.lst (zs.map V.str)) ∧ zs.length = i ∧ ∀ (j : Nat) z, zs[j]? = some z → NmAt sh j z)
      ⟨none, none, none, [], rfl, (Fra.refl f1.src).over hL hLa, upd_same, rfl, fun j z e => by simp at e⟩ (fun _ _ _ _ _ => trivial) ?_ ?_
    · rintro i x σ G G' hi ⟨v4, v5, v6, zs, rfl, f2, hz, hl, hnm⟩ ⟨eH, ex⟩
      replace eH := eH.symm
      subst eH
      have ex : x = V.int (i : Nat) := ex.trans (by show V.int (0 + _) = _; rw [Int.zero_add])
      subst ex
      have hi' : i < n := by have : i < (n : Int).toNat := hi; omega
      refine asg_set ⟨⟨"", rfl⟩, ?_⟩
      unfold tLc iRng1
      refine args_of (drawC rfl (by omega) (by omega) f2.src fun m G2 f3 hm => args_end ⟨(m : Nat), rfl, (by omega), (by omega), fun D hD => ?_⟩)
      have hDa := src_ne f3.src hD
      have f23 := f2.trans f3
      have hz2 : G2 L = some (.lst (zs.map V.str)) := by
        have := f3.sm L _ (by rw [del_ne hLa]; exact hz)
        rwa [del_ne hLa] at this
      have hDL : D ≠ L := fun z => by rw [z, hz2] at hD; cases hD
      have em : ((m : Nat) : Int).toNat = m := by omega
      rw [em]
      refine lc_it (walk_range (n := m)) (tt := tYes) (fun j H2 => ∃ cs : List Nat, H2 D = some (.lst (cs.map fun c => V.str (one1 c))) ∧ cs.length = j ∧ (∀ c ∈ cs, 117 ≤ c ∧ c < 123) ∧ Fra a G2 H2)
        ⟨[], upd_same, rfl, fun c hc => (by cases hc), (Fra.refl f3.src).over hD hDa⟩ (fun _ _ _ _ => trivial) ?_ ?_
      · rintro j x H2 H3 hj ⟨cs, hDc, hl2, hc, f4⟩ ⟨eH, ex0⟩
        replace eH := eH.symm
        subst eH
        refine ⟨rfl, op_of (c_of (drawC rfl (by omega) (by omega) f4.src fun d G3 f5 hd => ?_))⟩
        have hd' := uz_at d (by omega)
        have hD3 : G3 D = some (.lst (cs.map fun c => V.str (one1 c))) := by
          have := f5.sm D _ (by rw [del_ne hDa]; exact hDc)
          rwa [del_ne hDa] at this
        refine ⟨_, _, _, rfl, rfl, by decide, atI_nat hd', _, hD3, ?_, cs ++ [117 + d], ?_, ?_, ?_, ?_⟩
        · rw [List.length_map, hl2]
          exact Nat.lt_of_lt_of_le (by have : j < m := hj; omega : j < 8) (by decide)
        · rw [upd_same, List.map_append]
          rfl
        · rw [List.length_append, hl2]
          rfl
        · intro c hcc
          rcases List.mem_append.mp hcc with h | h
          · exact hc c h
          · rw [List.mem_singleton.mp h]
            omega
        · exact (f4.trans f5).over hD hDa
      · rintro G3 ⟨cs, hDc, hl2, hc, f4⟩
        have hj : (((cs.map one1).map V.str)) = cs.map fun c => V.str (one1 c) := by rw [List.map_map]; rfl
        refine ⟨"", D, cs.map one1, rfl, rfl, .inl (SqL.of (by rw [hDc, hj])), ?_, ?_⟩
        · rw [sum_ones]
          have e0 : ("" : Str).length = 0 := rfl
          rw [e0]
          omega
        rintro σ2 rfl
        have f34 := f23.trans f4
        have hz4 : G3 L = some (.lst (zs.map V.str)) := by
          have := f4.sm L _ (by rw [del_ne hLa]; exact hz2)
          rwa [del_ne hLa] at this
        generalize hre : Txt.join "" (cs.map one1) = r
        have hr7 : r.length ≤ 7 := by rw [← hre, join_len]; omega
        have hru : ∀ c ∈ r.cps.toList, 117 ≤ c ∧ c < 123 := by rw [← hre, join_list]; exact hc
        refine asg_set (draw rfl (fun Q' k => op_of (lenS rfl (by omega) ⟨_, 1, rfl, rfl, k⟩)) (by omega) (by omega) f34.src fun at_ G4 f5 hat => ?_)
        rintro σ3 rfl
        have f35 := f34.trans f5
        have hz5 : G4 L = some (.lst (zs.map V.str)) := by
          have := f5.sm L _ (by rw [del_ne hLa]; exact hz4)
          rwa [del_ne hLa] at this
        have hab := abt_at ((7 * i + sh) % 20) (by omega)
        have b1 := len_take (z := r) (k := at_)
        have b2 := len_drop (z := r) (k := at_)
        refine ⟨.ref L, rfl, .inl ⟨rfl, _, SqL.of hz5⟩, ?_⟩
        refine args_of (op_of (op_of (sl_take (K := K) rfl (by omega) (fun Q' k' => var_of rfl k') ?_)))
        refine op_of (c_of (op_of (cb_of (args_of (op_of (op_of (c_of (var_of rfl ⟨7, _, rfl, rfl, by unfold CMul; (first | decide | omega | skip), var_of rfl ⟨_, _, rfl, rfl, args_end ?_⟩⟩))))))))
        refine .inl ⟨_, rfl, _, 20, rfl, rfl, (by show (0 : Int) < 20; decide), ?_⟩
        show rIxS (.str abtS) (V.int ((7 * ((i : Nat) : Int) + ((sh : Nat) : Int)) % 20)) G4 _
        rw [show ((7 : Int) * (i : Nat) + (sh : Nat)) % 20 = (((7 * i + sh) % 20 : Nat) : Int) by omega]
        refine ⟨_, _, _, rfl, rfl, by decide, atI_nat hab, _, _, rfl, rfl, ?_, ?_⟩
        · rw [len_one]
          exact Nat.le_trans (by omega : _ ≤ 100) (by decide)
        refine sl_drop (K := K) rfl (by omega) (fun Q' k' => var_of rfl k') ⟨_, _, rfl, rfl, ?_, args_end ⟨L, _, _, rfl, rfl, hz5, ?_, ?_⟩⟩
        · rw [len_app, len_one]
          exact Nat.le_trans (by omega : _ ≤ 100) (by decide)
        · rw [List.length_map, hl]
          exact Nat.lt_of_lt_of_le (by omega : _ < 20) (by decide)
        refine ⟨_, _, _, zs ++ [_], rfl, ?_, by rw [upd_same, List.map_append]; rfl, by rw [List.length_append, hl]; rfl, fun j z e => ?_⟩
        · have f6 := f3.trans (f4.trans f5)
          exact (f2.trans f6).over hL hLa
        · by_cases hj : j < zs.length
          · rw [List.getElem?_append_left hj] at e
            exact hnm j z e
          · rw [List.getElem?_append_right (by omega)] at e
            have h0 : j - zs.length = 0 := by
              have := (List.getElem?_eq_some_iff.mp e).1
              rw [List.length_singleton] at this
              omega
            rw [h0] at e
            cases e
            have : j = i := by omega
            subst this
            exact nm_make hr7 hru (at_ := at_) (by rw [cps_app, cps_app, cut_take, cut_drop, List.append_assoc]; rfl)
    · rintro σ G ⟨v4, v5, v6, zs, rfl, f2, hz, hl, hnm⟩
      have en : ((n : Nat) : Int).toNat = n := by omega
      rw [en] at hl
      exact ⟨.ref L, rfl, q G L zs (f1.trans f2) hLa hz hl (nms_ok hn hl hnm)⟩
end
end Kx
set_option Elab.async false
set_option linter.all false
set_option maxRecDepth 100000
set_option maxHeartbeats 4000000
namespace Kx
open PySem PySem.Spec PyProof.Rows L2
section
variable {P : Program} {w : World} {K : PySem.W.Frag} {mg : Str → Option Value} {base : Heap}
def sp_law_place : Sp := fun vs H Q _ => ∃ (a : Addr) (n : Nat), vs = [.ref a, .int (n : Nat)] ∧ 1 ≤ n ∧ n ≤ 1000 ∧ SrcAt H a ∧ ∀ G (k : Nat), Fra a H G → k < n → Q (.int (k : Nat)) G
theorem ok_law_place (T : Txt K mg) : Cal P w K mg base CX0 2 "_law_place" ["_law_source_here", "_law_many"] sp_law_place := by
  obtain ⟨fd, F⟩ := F__law_place T
  refine cal_mk F (g__law_place T) sc__law_place (fun _ _ _ _ _ _ us hl => match us, hl with | [_, _], _ => rfl) (fun vs H Q E h => ?_) (fun cdv A outer s H vs Q E hr h => ?_)
  · obtain ⟨a, n, rfl, _⟩ := h; rfl
  · refine ⟨_, PSs.nox (pss_cons (ps_set (i := 2) sc__law_place.nd rfl (Or.inl rfl) (pe_cal (ok_law_pick T) (hr.mono (by decide)) pass0 (pa_cons (pv 0) (pa_cons pe_int pa_nil))))
        (pss_cons (ps_if (pt_cmpR op_eq (pv 2) pe_int (nomark _)) (pss_one (ps_ret pe_int)) pss_nil)
        (pss_cons (ps_if (pt_cmpR op_eq (pv 2) pe_int (nomark _)) (pss_one (ps_ret (pe_op op_sub (pv 1) pe_int))) pss_nil)
        (pss_one (ps_ret (pe_cal (ok_law_pick T) (hr.mono (by decide)) pass0 (pa_cons (pv 0) (pa_cons (pv 1) pa_nil)))))))), ?_⟩
    obtain ⟨a, n, rfl, h1, h2, hs, q⟩ := h
    refine asg_set (drawC rfl (by omega) (by omega) hs fun sh G1 f1 _ => ?_)
    rintro σ1 rfl
    refine seq_if (test_op (var_of rfl ⟨rfl, _, rfl, ?_⟩))
    split
    · exact ret_te (c_of (q G1 0 f1 (by omega)))
    refine go_next ?_
    dsimp only
    refine seq_if (test_op (var_of rfl ⟨rfl, _, rfl, ?_⟩))
    split
    · refine ret_te (op_of (var_of rfl ⟨_, 1, rfl, rfl, ?_⟩))
      show Q (V.int (((n : Nat) : Int) - 1)) G1
      rw [show ((n : Nat) : Int) - 1 = ((n - 1 : Nat) : Int) by omega]
      exact q G1 (n - 1) f1 (by omega)
    refine go_next ?_
    dsimp only
    exact ret_te (draw rfl (fun Q' k => var_of rfl k) (by omega) (by omega) f1.src fun k G2 f2 hk => q G2 k (f1.trans f2) (by omega))
def sp_law_do (K : PySem.W.Frag) : Sp := fun vs H Q E => ∃ (D : DkD) (c : Addr), vs = [.ref D.x, .ref c] ∧ DkAt K H D ∧
  ((∃ va vb, H c = some (.tup [.str "put", va, vb]) ∧ sp_put K [.ref D.x, va, vb] H Q E) ∨ (∃ va, H c = some (.tup [.str "take", va]) ∧ sp_take K [.ref D.x, va] H Q E) ∨
   (∃ va vb, H c = some (.tup [.str "change", va, vb]) ∧ sp_change K [.ref D.x, va, vb] H Q E) ∨ (∃ va, H c = some (.tup [.str "become", va]) ∧ sp_become K [.ref D.x, va] H Q E))
theorem ok_law_do (T : Txt K mg) : Cal P w K mg base (L2N.CX P w) 7 "_law_do" ["_law_desk_here", "_law_deed_here"] (sp_law_do K) := by
  obtain ⟨fd, F⟩ := F__law_do T
  obtain ⟨fdput, FP⟩ := F_Desk_put T
  have bP : Binds K fdput ["self", "place", "letter"] [] := FP.bindsN fun _ _ _ _ _ _ us hl => match us, hl with | [_, _, _], _ => rfl
  obtain ⟨fdtake, FT⟩ := F_Desk_take T
  have bT : Binds K fdtake ["self", "place"] [] := FT.bindsN fun _ _ _ _ _ _ us hl => match us, hl with | [_, _], _ => rfl
  obtain ⟨fdchange, FG⟩ := F_Desk_change T
  have bG : Binds K fdchange ["self", "place", "letter"] [] := FG.bindsN fun _ _ _ _ _ _ us hl => match us, hl with | [_, _, _], _ => rfl
  obtain ⟨fdbecome, FB⟩ := F_Desk_become T
  have bB : Binds K fdbecome ["self", "row"] [] := FB.bindsN fun _ _ _ _ _ _ us hl => match us, hl with | [_, _], _ => rfl
  refine cal_mk F (g__law_do T) sc__law_do (fun _ _ _ _ _ _ us hl => match us, hl with | [_, _], _ => rfl) (fun vs H Q E h => ?_) (fun cdv A outer s H vs Q E hr h => ?_)
  · obtain ⟨x, c, rfl, _⟩ := h; rfl
  · refine ⟨_, (pss_cons (ps_if (pt_cmpR op_eq (pe_ix ix_tup (pv 1) pe_int (fun _ _ => rfl)) pe_str (nomark _)) (pss_one (ps_ret (pe_meth (pl := _) (E := E) (pv 0) (cls_Desk T) (meth_put T) (ok_put T FP) (hr.mono (by decide)) bP .nil (L2N.passes_call (L2N.takes_of rfl rfl rfl rfl) (fun _ _ _ _ h => h)) (pa_cons (pe_ix ix_tup (pv 1) pe_int (fun _ _ => rfl)) (pa_cons (pe_ix ix_tup (pv 1) pe_int (fun _ _ => rfl)) pa_nil))))) pss_nil)
        (pss_cons (ps_if (pt_cmpR op_eq (pe_ix ix_tup (pv 1) pe_int (fun _ _ => rfl)) pe_str (nomark _)) (pss_one (ps_ret (pe_meth (pl := _) (E := E) (pv 0) (cls_Desk T) (meth_take T) (ok_take T FT) (hr.mono (by decide)) bT .nil (L2N.passes_call (L2N.takes_of rfl rfl rfl rfl) (fun _ _ _ _ h => h)) (pa_cons (pe_ix ix_tup (pv 1) pe_int (fun _ _ => rfl)) pa_nil)))) pss_nil)
        (pss_cons (ps_if (pt_cmpR op_eq (pe_ix ix_tup (pv 1) pe_int (fun _ _ => rfl)) pe_str (nomark _)) (pss_one (ps_ret (pe_meth (pl := _) (E := E) (pv 0) (cls_Desk T) (meth_change T) (ok_change T FG) (hr.mono (by decide)) bG .nil (L2N.passes_call (L2N.takes_of rfl rfl rfl rfl) (fun _ _ _ _ h => h)) (pa_cons (pe_ix ix_tup (pv 1) pe_int (fun _ _ => rfl)) (pa_cons (pe_ix ix_tup (pv 1) pe_int (fun _ _ => rfl)) pa_nil))))) pss_nil)
        (pss_one (ps_ret (pe_meth (pl := _) (E := E) (pv 0) (cls_Desk T) (meth_become T) (ok_become T FB) (hr.mono (by decide)) bB .nil (L2N.passes_call (L2N.takes_of rfl rfl rfl rfl) (fun _ _ _ _ h => h)) (pa_cons (pe_ix ix_tup (pv 1) pe_int (fun _ _ => rfl)) pa_nil))))))), ?_⟩
    obtain ⟨D, c, rfl, hD, h⟩ := h
    obtain ⟨dx, dt, hx, _⟩ := id hD
    have wd : ∀ {σ : L2.St} {y z : Str} {xs : List V} {R : Bool → Hp → Prop}, σ[1]? = some (some (.ref c)) → H c = some (.tup (.str y :: xs)) → R (decide (y = z)) H → tTest (tOp rEq (tOp (rIxT K) (tVar 1) (tC (.int 0))) (tC (.str z))) σ H R := fun e1 e2 q => test_op (op_of (var_of e1 ⟨c, _, _, _, rfl, rfl, SqT.of e2, atI_nat (j := 0) rfl, c_of ⟨rfl, _, rfl, by rw [dec_str]; exact q⟩⟩))
    rcases h with ⟨va, vb, hc, h⟩ | ⟨va, hc, h⟩ | ⟨va, vb, hc, h⟩ | ⟨va, hc, h⟩
    · refine seq_if (wd rfl hc ?_)
      rw [decide_eq_true rfl]
      exact iteT (ret_te ⟨.ref D.x, rfl, D.x, dx, _, rfl, hx, rfl, args_of (ixP (j := 1) rfl hc rfl (args_of (ixP (j := 2) rfl hc rfl (args_end h))))⟩)
    · refine seq_if (wd rfl hc ?_)
      rw [decide_eq_false (by decide +kernel)]
      refine iteF (go_next ?_)
      dsimp only
      refine seq_if (wd rfl hc ?_)
      rw [decide_eq_true rfl]
      exact iteT (ret_te ⟨.ref D.x, rfl, D.x, dx, _, rfl, hx, rfl, args_of (ixP (j := 1) rfl hc rfl (args_end h))⟩)
    · refine seq_if (wd rfl hc ?_)
      rw [decide_eq_false (by decide +kernel)]
      refine iteF (go_next ?_)
      dsimp only
      refine seq_if (wd rfl hc ?_)
      rw [decide_eq_false (by decide +kernel)]
      refine iteF (go_next ?_)
      dsimp only
      refine seq_if (wd rfl hc ?_)
      rw [decide_eq_true rfl]
      exact iteT (ret_te ⟨.ref D.x, rfl, D.x, dx, _, rfl, hx, rfl, args_of (ixP (j := 1) rfl hc rfl (args_of (ixP (j := 2) rfl hc rfl (args_end h))))⟩)
    · refine seq_if (wd rfl hc ?_)
      rw [decide_eq_false (by decide +kernel)]
      refine iteF (go_next ?_)
      dsimp only
      refine seq_if (wd rfl hc ?_)
      rw [decide_eq_false (by decide +kernel)]
      refine iteF (go_next ?_)
      dsimp only
      refine seq_if (wd rfl hc ?_)
      rw [decide_eq_false (by decide +kernel)]
      refine iteF (go_next ?_)
      dsimp only
      exact ret_te ⟨.ref D.x, rfl, D.x, dx, _, rfl, hx, rfl, args_of (ixP (j := 1) rfl hc rfl (args_end h))⟩
end
end Kx
set_option Elab.async false
set_option linter.all false
set_option maxRecDepth 100000
set_option maxHeartbeats 4000000
namespace Kx
open PySem PySem.Spec PyProof.Rows L2
def alk : Nat → PyData → Bool
  | 0, _ => false
  | n + 1, .tuple ds => decide (ds.length ≤ 5000) && ds.all (alk n)
  | _ + 1, .str _ => true
  | _ + 1, .int _ => true
  | _ + 1, _ => false
section
variable {P : Program} {w : World} {K : PySem.W.Frag} {mg : Str → Option Value} {base : Heap}
def sp_law_alike (n : Nat) : Sp := fun vs H Q _ => ∃ (v u : V) (d : PyData), vs = [v, u] ∧ Rt H v d ∧ Rt H u d ∧ alk n d = true ∧ ∀ H', Same H H' → Q (.bl true) H'
theorem ok_law_alike (T : Txt K mg) : ∀ n : Nat, Cal P w K mg base CX0 (n + 1) "_law_alike" ["_law_told", "_law_due"] (sp_law_alike n) := by
  intro n
  induction n with
  | zero =>
    obtain ⟨fd, F⟩ := F__law_alike T
    exact cal_mk F (g__law_alike T) sc__law_alike (fun _ _ _ _ _ _ us hl => match us, hl with | [_, _], _ => rfl) (fun vs H Q E h => by obtain ⟨v, u, d, rfl, _⟩ := h; rfl) (fun cdv A outer s H vs Q E hr h => by obtain ⟨v, u, d, rfl, _, _, h, _⟩ := h; cases h)
  | succ n ih =>
    obtain ⟨fd, F⟩ := F__law_alike T
    refine cal_mk F (g__law_alike T) sc__law_alike (fun _ _ _ _ _ _ us hl => match us, hl with | [_, _], _ => rfl) (fun vs H Q E h => ?_) (fun cdv A outer s H vs Q E hr h => ?_)
    · obtain ⟨v, u, d, rfl, _⟩ := h; rfl
    · refine ⟨_, PSs.nox (pss_cons (ps_if (pt_val (pe_callB call_isB (by rfl) (fr_isinstance T) b_isinstance (pa_cons (pv 1) (pa_cons (pe_ty (fr_tuple T) b_tuple) pa_nil)))) (pss_cons (ps_if (PW.pt (pw_or (pt_not (pt_val (pe_callB call_isB (by rfl) (fr_isinstance T) b_isinstance (pa_cons (pv 0) (pa_cons (pe_ty (fr_tuple T) b_tuple) pa_nil))))) (pw_or1 (pt_cmpR op_ne (pe_callB call_len (by rfl) (fr_len T) boot_len (pa_cons (pv 0) pa_nil)) (pe_callB call_len (by rfl) (fr_len T) boot_len (pa_cons (pv 1) pa_nil)) (nomark _))))) (pss_one (ps_ret pe_bl)) pss_nil)
        (pss_one (ps_ret (pe_callB (cr_all rfl) (by rfl) (fr_all T) b_all (pa_cons (pe_lc (te := tCall (sp_law_alike n) [] E0 (tCons (tVar 2) (tCons (tVar 3) tNil))) (own := [("_law_one", 2), ("_law_other", 3)]) (g := (gTup K 2 (gCons (gName 2) (gCons (gName 3) gNil)))) (tt := tYes) rfl sc__law_alike.nd  (pi_zip2S (by rfl) (fr_zip T) (pa_cons (pv 0) (pa_cons (pv 1) pa_nil))) (blkOk_by (N := N__law_alike) (sc := defScope s__law_alike) (by decide +kernel)) (fun _ _ _ _ _ => (pg_tup rfl (pgs_cons (pg_name (i := 2) sc__law_alike.nd rfl (Or.inl rfl)) (pgs_cons (pg_name (i := 3) sc__law_alike.nd rfl (Or.inl rfl)) pgs_nil)))) (fun _ _ _ _ _ => pts_nil) (fun _ _ _ _ _ => by exact pe_cal ih (hr.mono (by omega)) pass0 (pa_cons (pv 2) (pa_cons (pv 3) pa_nil)))) pa_nil))))) pss_nil)
        (pss_cons (ps_if (pt_val (pe_callB call_isB (by rfl) (fr_isinstance T) b_isinstance (pa_cons (pv 1) (pa_cons (pe_ty (fr_str T) b_str) pa_nil)))) (pss_one (ps_ret (pe_and (pe_callB call_isB (by rfl) (fr_isinstance T) b_isinstance (pa_cons (pv 0) (pa_cons (pe_ty (fr_str T) b_str) pa_nil))) (pe_one (pe_cmpR op_eq (pv 0) (pv 1) (nomark _)))))) pss_nil)
        (pss_one (ps_ret (pe_cal (ok_law_is_number T) (hr.mono (by omega)) pass0 (pa_cons (pv 0) (pa_cons (pv 1) (pa_cons (pv 1) pa_nil)))))))), ?_⟩
      obtain ⟨v, u, d, rfl, rv, ru, hk, q⟩ := h
      refine ⟨u, rfl, u, "tuple", kd d, rfl, ru.rp.ko, k_tuple _, _, rfl, ?_⟩
      cases d with
      | str z =>
        refine iteF ?_
        cases rv
        cases ru
        exact ⟨.str z, rfl, .str z, "str", .str, rfl, .base (.str z), k_str _, _, rfl, iteT ⟨.str z, rfl, .str z, "str", .str, rfl, .base (.str z), k_str _, _, rfl, iteT ⟨.str z, rfl, .str z, rfl, rfl, by rw [decide_eq_true rfl]; exact q H (Same.refl H)⟩⟩⟩
      | int i =>
        refine iteF ?_
        cases rv
        cases ru
        refine ⟨.int i, rfl, .int i, "str", .int, rfl, .base (.int i), k_str _, _, rfl, iteF ⟨.int i, rfl, .int i, rfl, .int i, rfl, .int i, i, i, .int, rfl, .base (.int i), ?_⟩⟩
        have e : numV i i (.int i) = true := by
          show (decide (i ≤ i) && decide (i ≤ i)) = true
          rw [decide_eq_true (Int.le_refl i)]
          rfl
        rw [e]
        exact q H (Same.refl H)
      | tuple ds =>
        refine iteT ?_
        have hk : (decide (ds.length ≤ 5000) && ds.all (alk n)) = true := hk
        rw [Bool.and_eq_true, decide_eq_true_eq, List.all_eq_true] at hk
        obtain ⟨hl, hk⟩ := hk
        cases rv with
        | @tup a xs _ ha hx =>
        cases ru with
        | @tup b ys _ hb hy =>
        have lx : xs.length = ds.length := hx.length
        have ly : ys.length = ds.length := hy.length
        refine ⟨.ref a, rfl, .ref a, "tuple", .tup, rfl, .base (.tup ha), k_tuple _, _, rfl, iteF ⟨.ref a, rfl, _, _, rfl, lenV_sq (.inr ha) lx, .ref b, rfl, _, _, rfl, lenV_sq (.inr hb) ly, rfl, _, rfl, ?_⟩⟩
        rw [show (!decide (V.int (ds.length : Nat) = V.int (ds.length : Nat))) = false by rw [decide_eq_true rfl]; rfl]
        refine iteF ⟨.ref a, rfl, .ref b, rfl, .ref a, _, _, _, .ref b, _, _, _, rfl, .tup a xs, .tup b ys, ha, hb, fun D hD => ?_⟩
        have hmin : min xs.length ys.length = ds.length := by omega
        refine lc_new (walk_new (n := min xs.length ys.length)) hD (by rw [hmin]; exact Nat.le_trans hl (by decide)) (fun (i : Nat) _ v => v = V.bl true) (fun _ _ _ _ _ h => h) (fun G s => ⟨s _ _ ha, s _ _ hb⟩) (fun i x G G' Qk hi s2 hy' hkk => ?_) (fun G acc s2 hG hla hacc => ?_)
        · obtain ⟨Tt, vs, rfl, hTn, rfl, x1, y1, rfl, hx1, hy1⟩ := hy'
          have s4 := same_upd (o := .tup [x1, y1]) hTn
          obtain ⟨d1, e1, r1⟩ := hx.get hx1
          obtain ⟨d2, e2, r2⟩ := hy.get hy1
          rw [e1] at e2
          cases e2
          have st := s2.trans s4
          exact ⟨Tt, _, rfl, SqT.of upd_same, rfl, _, _, rfl, _, _, rfl, rfl, rfl, _, rfl, _, rfl, _, _, d1, rfl, r1.tups (Same.tups st), r2.tups (Same.tups st), hk d1 (List.mem_of_getElem? e1), fun H' s' => hkk _ _ (s4.trans s') rfl⟩
        · have ea : acc = (List.replicate ds.length true).map V.bl := bls_of (by rw [hla, hmin, List.length_replicate]) fun i v hi b hb => by
            rw [hacc i v hi]
            have := List.mem_of_getElem? hb
            rw [List.mem_replicate] at this
            rw [this.2]
          refine ⟨D, _, rfl, SqL.of (by rw [hG, ea]), ?_⟩
          have e3 : (List.replicate ds.length true).all id = true := by simp
          rw [e3]
          exact q G s2
      | _ => cases hk
end
end Kx
set_option Elab.async false
set_option linter.all false
set_option maxRecDepth 100000
set_option maxHeartbeats 4000000
namespace Kx
open PySem PySem.Spec PyProof.Rows L2
/-- a deed as it is asked for -/
def Dd.cs : Dd → List V
  | .put k c => [.str "put", .int (k : Nat), .str ⟨#[c]⟩]
  | .take k _ => [.str "take", .int (k : Nat)]
  | .change k _ d => [.str "change", .int (k : Nat), .str ⟨#[d]⟩]
  | .become _ z => [.str "become", .str z]
/-- a deed that fits a row, its letters and lengths right -/
def Dd.fits (al : Str) (y : Str) : Dd → Prop
  | .put k c => k ≤ y.length ∧ y.length < 200 ∧ c ∈ al.cps.toList
  | .take k c => y.cps.toList[k]? = some c
  | .change k c d => y.cps.toList[k]? = some c ∧ d ∈ al.cps.toList
  | .become y0 z => y0 = y ∧ over al 200 z
theorem Dd.fits_ok {al y : Str} {d : Dd} (h : d.fits al y) : d.ok y := by
  have ly : y.cps.toList.length = y.length := Array.length_toList
  cases d with
  | put k c => exact h.1
  | take k c =>
    have h : y.cps.toList[k]? = some c := h
    have := (List.getElem?_eq_some_iff.mp h).1
    show k < y.length
    omega
  | change k c d =>
    have := (List.getElem?_eq_some_iff.mp h.1).1
    show k < y.length
    omega
  | become => exact trivial
theorem Fra.keep {a b : Addr} {H G : Hp} {o : HO} (f : Fra a H G) (hs : SrcAt H a) (e : H b = some o) (hn : ∀ A S C, o ≠ three A S C) : G b = some o := by
  have hb : b ≠ a := fun z => by
    obtain ⟨A, S, C, e2⟩ := hs
    rw [z, e2] at e
    exact hn A S C (Option.some.inj e).symm
  have := f.sm b o (by rw [del_ne hb]; exact e)
  rwa [del_ne hb] at this
theorem mem_of_nat {al : Str} {d : Nat} (h : ((d : Nat) : Int) < ((al.length : Nat) : Int)) : ∃ c, c ∈ al.cps.toList ∧ al.cps.toList[d]? = some c := by
  have e : al.cps.toList.length = al.length := Array.length_toList
  have := List.getElem?_eq_getElem (show d < al.cps.toList.length by omega)
  exact ⟨_, List.mem_of_getElem? this, this⟩
/-- own["key"] -/
theorem own_get {σ : L2.St} {i : Nat} {o : Addr} {H : Hp} {kvs : List (L2.Key × V)} {z : Str} {v : V} {Q : VK} (e : σ[i]? = some (some (.ref o))) (h : H o = some (.dK kvs)) (hv : valV kvs (Sum.inr z) = some v) (q : Q v H) : tDGet (tVar i) (tC (.str z)) σ H Q :=
  ⟨.ref o, e, o, v, rfl, .inl ⟨kvs, Sum.inr z, .inl h, rfl, hv.symm⟩, q⟩
/-- deed[0] == ".." -/
theorem deed_is {K : PySem.W.Frag} {σ : L2.St} {i : Nat} {c : Addr} {H : Hp} {y z : Str} {xs : List V} {R : Bool → Hp → Prop} (e1 : σ[i]? = some (some (.ref c))) (e2 : H c = some (.tup (.str y :: xs))) (q : R (decide (y = z)) H) : tTest (tOp rEq (tOp (rIxT K) (tVar i) (tC (.int 0))) (tC (.str z))) σ H R :=
  test_op (op_of (var_of e1 ⟨c, _, _, _, rfl, rfl, SqT.of e2, atI_nat (j := 0) rfl, c_of ⟨rfl, _, rfl, by rw [dec_str]; exact q⟩⟩))
theorem or_t {tA tB : TT} {σ : L2.St} {H : Hp} {R : Bool → Hp → Prop} {a b : Bool} (hA : ∀ R' : Bool → Hp → Prop, R' a H → tA σ H R') (hB : ∀ R' : Bool → Hp → Prop, R' b H → tB σ H R') (q : R (a || b) H) : tOr tA tB σ H R := hA _ (by
  cases a
  · exact iteF (hB _ q)
  · exact iteT q)
theorem and_t {tA tB : TT} {σ : L2.St} {H : Hp} {R : Bool → Hp → Prop} {a b : Bool} (hA : ∀ R' : Bool → Hp → Prop, R' a H → tA σ H R') (hB : ∀ R' : Bool → Hp → Prop, R' b H → tB σ H R') (q : R (a && b) H) : tAnd tA tB σ H R := hA _ (by
  cases a
  · exact iteF q
  · exact iteT (hB _ q))
theorem lt_t {σ : L2.St} {H : Hp} {R : Bool → Hp → Prop} {i : Nat} {n m : Int} (e : σ[i]? = some (some (.int n))) (q : R (decide (n < m)) H) : tTest (tOp (rI0 fun i j => .bl (decide (i < j))) (tVar i) (tC (.int m))) σ H R := test_op (var_of e ⟨_, _, rfl, rfl, _, rfl, q⟩)
theorem eq_t {σ : L2.St} {H : Hp} {R : Bool → Hp → Prop} {i : Nat} {n m : Int} (e : σ[i]? = some (some (.int n))) (q : R (decide (n = m)) H) : tTest (tOp rEq (tVar i) (tC (.int m))) σ H R := test_op (var_of e ⟨rfl, _, rfl, by rw [show decide (V.int n = V.int m) = decide (n = m) from decide_eq_decide.mpr ⟨fun h => by injection h, fun h => by rw [h]⟩]; exact q⟩)
section
variable {P : Program} {w : World} {K : PySem.W.Frag} {mg : Str → Option Value} {base : Heap}
def sp_law_logged : Sp := fun vs H Q _ => ∃ (o c : Addr) (kvs : List (L2.Key × V)) (y al : Str) (d : Dd), vs = [.ref o, .ref c] ∧ H o = some (.dK kvs) ∧ valV kvs (Sum.inr "row") = some (.str y) ∧ H c = some (.tup d.cs) ∧ d.fits al y ∧ y.length ≤ 200 ∧ ∀ H' r, Same H H' → H' r = some (.tup d.vs) → Q (.ref r) H'
theorem ok_law_logged (T : Txt K mg) : Cal P w K mg base CX0 1 "_law_logged" ["_law_own", "_law_deed_here"] sp_law_logged := by
  obtain ⟨fd, F⟩ := F__law_logged T
  refine cal_mk F (g__law_logged T) sc__law_logged (fun _ _ _ _ _ _ us hl => match us, hl with | [_, _], _ => rfl) (fun vs H Q E h => ?_) (fun cdv A outer s H vs Q E hr h => ?_)
  · obtain ⟨o, c, kvs, y, al, d, rfl, _⟩ := h; rfl
  · refine ⟨_, PSs.nox (pss_cons (ps_if (pt_cmpR op_eq (pe_ix ix_tup (pv 1) pe_int (fun _ _ => rfl)) pe_str (nomark _)) (pss_one (ps_ret (pe_tup (pa_cons pe_str (pa_cons (pe_ix ix_tup (pv 1) pe_int (fun _ _ => rfl)) (pa_cons (pe_ix ix_str (pe_dget (hu1 hr) (pv 0) pe_str (fun _ _ => rfl)) (pe_ix ix_tup (pv 1) pe_int (fun _ _ => rfl)) (fun _ _ => rfl)) pa_nil)))))) pss_nil)
        (pss_cons (ps_if (pt_cmpR op_eq (pe_ix ix_tup (pv 1) pe_int (fun _ _ => rfl)) pe_str (nomark _)) (pss_one (ps_ret (pe_tup (pa_cons pe_str (pa_cons (pe_ix ix_tup (pv 1) pe_int (fun _ _ => rfl)) (pa_cons (pe_ix ix_str (pe_dget (hu1 hr) (pv 0) pe_str (fun _ _ => rfl)) (pe_ix ix_tup (pv 1) pe_int (fun _ _ => rfl)) (fun _ _ => rfl)) (pa_cons (pe_ix ix_tup (pv 1) pe_int (fun _ _ => rfl)) pa_nil))))))) pss_nil)
        (pss_cons (ps_if (pt_cmpR op_eq (pe_ix ix_tup (pv 1) pe_int (fun _ _ => rfl)) pe_str (nomark _)) (pss_one (ps_ret (pe_tup (pa_cons pe_str (pa_cons (pe_dget (hu1 hr) (pv 0) pe_str (fun _ _ => rfl)) (pa_cons (pe_ix ix_tup (pv 1) pe_int (fun _ _ => rfl)) pa_nil)))))) pss_nil)
        (pss_one (ps_ret (pv 1)))))), ?_⟩
    obtain ⟨o, c, kvs, y, al, d, rfl, ho, hv, hc, hf, hy, q⟩ := h
    cases d with
    | put k x =>
      refine seq_if (deed_is rfl hc ?_)
      rw [decide_eq_false (by decide +kernel)]
      refine iteF (go_next ?_)
      dsimp only
      refine seq_if (deed_is rfl hc ?_)
      rw [decide_eq_false (by decide +kernel)]
      refine iteF (go_next ?_)
      dsimp only
      refine seq_if (deed_is rfl hc ?_)
      rw [decide_eq_false (by decide +kernel)]
      refine iteF (go_next ?_)
      dsimp only
      exact ret_te (var_of rfl (q H c (Same.refl H) hc))
    | take k x =>
      refine seq_if (deed_is rfl hc ?_)
      rw [decide_eq_true rfl]
      refine iteT (ret_te (args_of (c_of (args_of (ixP (j := 1) rfl hc rfl (args_of (op_of (own_get rfl ho hv (ixP (j := 1) rfl hc rfl ⟨y, _, x, rfl, rfl, Nat.le_trans hy (by decide), atI_nat hf, args_end ⟨by show 3 ≤ sizeLine; decide, fun t ht => ?_⟩⟩)))))))))
      exact q _ t (same_upd ht) upd_same
    | change k x e =>
      refine seq_if (deed_is rfl hc ?_)
      rw [decide_eq_false (by decide +kernel)]
      refine iteF (go_next ?_)
      dsimp only
      refine seq_if (deed_is rfl hc ?_)
      rw [decide_eq_true rfl]
      refine iteT (ret_te (args_of (c_of (args_of (ixP (j := 1) rfl hc rfl (args_of (op_of (own_get rfl ho hv (ixP (j := 1) rfl hc rfl ⟨y, _, x, rfl, rfl, Nat.le_trans hy (by decide), atI_nat hf.1, args_of (ixP (j := 2) rfl hc rfl (args_end ⟨by show 4 ≤ sizeLine; decide, fun t ht => ?_⟩))⟩)))))))))
      exact q _ t (same_upd ht) upd_same
    | become y0 z =>
      refine seq_if (deed_is rfl hc ?_)
      rw [decide_eq_false (by decide +kernel)]
      refine iteF (go_next ?_)
      dsimp only
      refine seq_if (deed_is rfl hc ?_)
      rw [decide_eq_false (by decide +kernel)]
      refine iteF (go_next ?_)
      dsimp only
      refine seq_if (deed_is rfl hc ?_)
      rw [decide_eq_true rfl]
      obtain ⟨rfl, hz⟩ := hf
      refine iteT (ret_te (args_of (c_of (args_of (own_get rfl ho hv (args_of (ixP (j := 1) rfl hc rfl (args_end ⟨by show 3 ≤ sizeLine; decide, fun t ht => ?_⟩))))))))
      exact q _ t (same_upd ht) upd_same
def sp_law_deed : Sp := fun vs H Q _ => ∃ (a o : Addr) (kvs : List (L2.Key × V)) (y al : Str), vs = [.ref a, .ref o] ∧ SrcAt H a ∧ H o = some (.dK kvs) ∧ valV kvs (Sum.inr "row") = some (.str y) ∧ valV kvs (Sum.inr "alphabet") = some (.str al) ∧ 1 ≤ al.length ∧ al.length ≤ 8 ∧ over al 200 y ∧ ∀ H' r (d : Dd), Fra a H H' → H' r = some (.tup d.cs) → d.fits al y → Q (.ref r) H'
theorem ok_law_deed (T : Txt K mg) : Cal P w K mg base CX0 4 "_law_deed" ["_law_source_here", "_law_own"] sp_law_deed := by
  obtain ⟨fd, F⟩ := F__law_deed T
  refine cal_mk F (g__law_deed T) sc__law_deed (fun _ _ _ _ _ _ us hl => match us, hl with | [_, _], _ => rfl) (fun vs H Q E h => ?_) (fun cdv A outer s H vs Q E hr h => ?_)
  · obtain ⟨a, o, kvs, y, al, rfl, _⟩ := h; rfl
  · refine ⟨_, PSs.nox (pss_cons (ps_set (i := 2) sc__law_deed.nd rfl (Or.inl rfl) (pe_dget (hu1 hr) (pv 1) pe_str (fun _ _ => rfl)))
        (pss_cons (ps_set (i := 3) sc__law_deed.nd rfl (Or.inl rfl) (pe_callB call_len (by rfl) (fr_len T) boot_len (pa_cons (pe_dget (hu1 hr) (pv 1) pe_str (fun _ _ => rfl)) pa_nil)))
        (pss_cons (ps_set (i := 4) sc__law_deed.nd rfl (Or.inl rfl) (pe_ix ix_str (pv 2) (pe_cal (ok_law_pick T) (hr.mono (by decide)) pass0 (pa_cons (pv 0) (pa_cons (pe_callB call_len (by rfl) (fr_len T) boot_len (pa_cons (pv 2) pa_nil)) pa_nil))) (fun _ _ => rfl)))
        (pss_cons (ps_set (i := 5) sc__law_deed.nd rfl (Or.inl rfl) (pe_cal (ok_law_pick T) (hr.mono (by decide)) pass0 (pa_cons (pv 0) (pa_cons pe_int pa_nil))))
        (pss_cons (ps_if (PW.pt (pw_or (PW.pt (pw_and (pt_cmpR op_lt (pv 5) pe_int (nomark _)) (pw_and1 (pt_cmpR op_lt (pv 3) pe_int (nomark _))))) (pw_or1 (PW.pt (pw_and (pt_cmpR op_eq (pv 3) pe_int (nomark _)) (pw_and1 (pt_cmpR op_lt (pv 5) pe_int (nomark _)))))))) (pss_one (ps_ret (pe_tup (pa_cons pe_str (pa_cons (pe_cal (ok_law_place T) (hr.mono (by decide)) pass0 (pa_cons (pv 0) (pa_cons (pe_op op_add (pv 3) pe_int) pa_nil))) (pa_cons (pv 4) pa_nil)))))) pss_nil)
        (pss_cons (ps_if (pt_cmpR op_lt (pv 5) pe_int (nomark _)) (pss_one (ps_ret (pe_tup (pa_cons pe_str (pa_cons (pe_cal (ok_law_place T) (hr.mono (by decide)) pass0 (pa_cons (pv 0) (pa_cons (pv 3) pa_nil))) pa_nil))))) pss_nil)
        (pss_cons (ps_if (pt_cmpR op_lt (pv 5) pe_int (nomark _)) (pss_one (ps_ret (pe_tup (pa_cons pe_str (pa_cons (pe_cal (ok_law_place T) (hr.mono (by decide)) pass0 (pa_cons (pv 0) (pa_cons (pv 3) pa_nil))) (pa_cons (pv 4) pa_nil)))))) pss_nil)
        (pss_one (ps_ret (pe_tup (pa_cons pe_str (pa_cons (pe_cal (ok_law_word T) (hr.mono (by decide)) pass0 (pa_cons (pv 0) (pa_cons (pv 2) (pa_cons pe_int pa_nil)))) pa_nil)))))))))))), ?_⟩
    obtain ⟨a, o, kvs, y, al, rfl, hs, ho, hv, hva, h1, h8, hy, q⟩ := h
    have hy2 := hy.1
    refine asg_set (own_get rfl ho hva ?_)
    rintro σ1 rfl
    refine asg_set (cb_of (args_of (own_get rfl ho hv (args_end ⟨_, _, rfl, lenV_str (Nat.le_trans hy.1 (by decide)), ?_⟩))))
    rintro σ2 rfl
    refine asg_set (op_of (var_of rfl (draw rfl (fun Q' k => lenS rfl (by omega) k) (by omega) (by omega) hs fun d G f1 hd => ?_)))
    obtain ⟨c, hc, hc2⟩ := mem_of_nat hd
    refine ⟨al, _, c, rfl, rfl, Nat.le_trans h8 (by decide), atI_nat hc2, ?_⟩
    rintro σ3 rfl
    refine asg_set (drawC rfl (by omega) (by omega) f1.src fun way G2 f2 hway => ?_)
    rintro σ4 rfl
    have f12 := f1.trans f2
    have pd : ∀ {σ : L2.St} {G : Hp} {n : Nat} {Q' : VK} {te : TE}, σ[0]? = some (some (.ref a)) → (∀ Q2 : VK, Q2 (.int (n : Nat)) G → te σ G Q2) → SrcAt G a → 1 ≤ n → n ≤ 1000 → (∀ G' (k : Nat), Fra a G G' → k < n → Q' (.int (k : Nat)) G') → tCall sp_law_place [] E0 (tCons (tVar 0) (tCons te tNil)) σ G Q' := fun e ht hs g1 g2 k => call_of (args_of (var_of e (args_of (ht _ (args_end ⟨a, _, rfl, g1, g2, hs, k⟩)))))
    refine seq_if (or_t (fun R k => and_t (fun R k => lt_t rfl k) (fun R k => lt_t rfl k) k) (fun R k => and_t (fun R k => eq_t rfl k) (fun R k => lt_t rfl k) k) ?_)
    have ly : y.cps.toList.length = y.length := Array.length_toList
    refine or_ite (fun hb => ?_) fun hb => go_next ?_
    · have hlt : y.length < 200 := by
        simp only [Bool.or_eq_true, Bool.and_eq_true, decide_eq_true_eq] at hb
        omega
      refine ret_te (args_of (c_of (args_of (pd rfl (n := y.length + 1) (fun Q2 k => op_of (var_of rfl (c_of ⟨_, _, rfl, rfl, k⟩))) f2.src (by omega) (by omega) fun G3 k f3 hk => ?_))))
      refine args_of (var_of rfl (args_end ⟨by show 3 ≤ sizeLine; decide, fun t ht => ?_⟩))
      have f4 := (f12.trans f3)
      exact q _ t (.put k c) (f4.trans (Fra.same f4.src (same_upd ht))) upd_same ⟨by omega, hlt, hc⟩
    have hb : ¬ ((way < 4 ∧ y.length < 200) ∨ (y.length = 0 ∧ way < 9)) := by
      intro h
      have : (decide (((way : Nat) : Int) < 4) && decide (((y.length : Nat) : Int) < 200) || decide (((y.length : Nat) : Int) = 0) && decide (((way : Nat) : Int) < 9)) = true := by
        simp only [Bool.or_eq_true, Bool.and_eq_true, decide_eq_true_eq]
        omega
      rw [this] at hb
      cases hb
    dsimp only
    refine seq_if (lt_t rfl ?_)
    refine or_ite (fun hw => ?_) fun hw => go_next ?_
    · have hw := of_decide_eq_true hw
      refine ret_te (args_of (c_of (args_of (pd rfl (n := y.length) (fun Q2 k => var_of rfl k) f2.src (by omega) (by omega) fun G3 k f3 hk => ?_))))
      refine args_end ⟨by show 2 ≤ sizeLine; decide, fun t ht => ?_⟩
      have f4 := (f12.trans f3)
      exact q _ t (.take k _) (f4.trans (Fra.same f4.src (same_upd ht))) upd_same (List.getElem?_eq_getElem (show k < y.cps.toList.length by omega))
    have hw := of_decide_eq_false hw
    dsimp only
    refine seq_if (lt_t rfl ?_)
    refine or_ite (fun hw => ?_) fun hw => go_next ?_
    · have hw := of_decide_eq_true hw
      refine ret_te (args_of (c_of (args_of (pd rfl (n := y.length) (fun Q2 k => var_of rfl k) f2.src (by omega) (by omega) fun G3 k f3 hk => ?_))))
      refine args_of (var_of rfl (args_end ⟨by show 3 ≤ sizeLine; decide, fun t ht => ?_⟩))
      have f4 := (f12.trans f3)
      exact q _ t (.change k _ c) (f4.trans (Fra.same f4.src (same_upd ht))) upd_same ⟨List.getElem?_eq_getElem (show k < y.cps.toList.length by omega), hc⟩
    dsimp only
    refine ret_te (args_of (c_of (args_of (call_of (args_of (var_of rfl (args_of (var_of rfl (args_of (c_of (args_end ⟨a, al, 9, rfl, h1, h8, by omega, f2.src, fun G3 cs f3 hcs hl => ?_⟩)))))))))))
    refine args_end ⟨by show 2 ≤ sizeLine; decide, fun t ht => ?_⟩
    have f4 := (f12.trans f3)
    exact q _ t (.become y _) (f4.trans (Fra.same f4.src (same_upd ht))) upd_same ⟨rfl, over_mono (over_list hl hcs) (by omega)⟩
end
end Kx
set_option Elab.async false
set_option linter.all false
set_option maxRecDepth 100000
set_option maxHeartbeats 4000000
namespace Kx
open PySem PySem.Spec PyProof.Rows L2
theorem Held.fra {L : List Addr} {a : Addr} {H H' : Hp} (h : Held L H) (f : Fra a H H') : Held L H' := fun x hx => by
  by_cases e : x = a
  · subst e
    obtain ⟨A, S, C, e2⟩ := f.src
    exact ⟨_, e2⟩
  · obtain ⟨o, eo⟩ := h x hx
    have := f.sm x o (by rw [del_ne e]; exact eo)
    rw [del_ne e] at this
    exact ⟨o, this⟩
theorem dl_fra {L : List Addr} {a : Addr} {H H' : Hp} (ha : a ∈ L) (f : Fra a H H') : Same (dl L H) (dl L H') := fun b o e => by
  obtain ⟨hb, e⟩ := dl_some e
  have hba : b ≠ a := fun z => hb (z ▸ ha)
  have := f.sm b o (by rw [del_ne hba]; exact e)
  rw [del_ne hba] at this
  rw [dl_at hb]
  exact this
theorem same_dl {G H : Hp} {M : List Addr} {D : Addr} {o : HO} (s : Same G (dl M H)) (g : G D = none) : Same G (dl M (upd H D o)) := fun b u e => by
  obtain ⟨hb, h⟩ := dl_some (s b u e)
  rw [dl_at hb, upd_ne (ne_of_none e g)]
  exact h
theorem dl_none {L : List Addr} {H : Hp} {b : Addr} (h : H b = none) : dl L H b = none := by
  by_cases hb : b ∈ L
  · exact dl_in hb
  · rw [dl_at hb]; exact h
theorem dl_tail {D : Addr} {L : List Addr} {H : Hp} : Same (dl (D :: L) H) (dl L H) := dl_sub fun x hx => List.mem_cons_of_mem _ hx
section
variable {P : Program} {w : World} {K : PySem.W.Frag} {mg : Str → Option Value} {base : Heap}
def sp_law_readerL : Sp := fun vs H Q _ => ∃ (a : Addr) (L : List Addr) (many most : Nat), vs = [.ref a, .int (many : Nat), .int (most : Nat)] ∧ 1 ≤ many ∧ many ≤ 8 ∧ 1 ≤ most ∧ most ≤ 40 ∧ SrcAt H a ∧ a ∈ L ∧ Held L H ∧
  ∀ H' t (rows : List (List Nat)), Fra a H H' → Rp (dl L H') t (rowsD rows) → RowsOk many most rows → Q t H'
theorem ok_law_readerL (T : Txt K mg) : Cal P w K mg base CX0 2 "_law_reader" ["_law_source_here", "_law_many", "_law_most"] sp_law_readerL := by
  obtain ⟨fd, F⟩ := F__law_reader T
  refine cal_mk F (g__law_reader T) sc__law_reader (fun _ _ _ _ _ _ us hl => match us, hl with | [_, _, _], _ => rfl) (fun vs H Q E h => ?_) (fun cdv A outer s H vs Q E hr h => ?_)
  · obtain ⟨a, L, many, most, rfl, _⟩ := h; rfl
  · refine ⟨_, PSs.nox (pss_cons (ps_set (i := 3) sc__law_reader.nd rfl (Or.inr rfl) (pe_op op_add pe_int (pe_cal (ok_law_pick T) hr pass0 (pa_cons (pv 0) (pa_cons (pv 2) pa_nil)))))
      (pss_one (ps_ret (pe_lc (own := [("_law_p", 5)]) (g := gName 5) (tt := tYes) rfl sc__law_reader.nd (pi_range1 (by rfl) (fr_range T) (pa_cons (pv 3) pa_nil)) (blkOk_by (N := N__law_reader) (sc := defScope s__law_reader) (by decide +kernel))
        (fun _ _ _ _ _ => pg_name (i := 5) sc__law_reader.nd rfl (Or.inl rfl)) (fun _ _ _ _ _ => pts_nil)
        (fun _ _ _ _ _ => by
          refine pe_lc (te := tCall sp_law_pick [] E0 (tCons (tVar 0) (tCons (tVar 3) tNil))) (wi := iRng1 (tCons (tVar 1) tNil)) (own := [("_law_t", 4)]) (g := gName 4) (tt := tYes) rfl sc__law_reader.nd (pi_range1 (by rfl) (fr_range T) (pa_cons (pv 1) pa_nil)) ?_
            (fun _ _ _ _ _ => pg_name (i := 4) sc__law_reader.nd rfl (Or.inl rfl)) (fun _ _ _ _ _ => pts_nil) (fun _ _ _ _ _ => ?_)
          · refine blkOk_by ?_
            simp only [cxOf, Cx.nox, Cx.blk, compEnvC]
            change blkC _ (relabel _ (envOfC "_law_reader" (defScope s__law_reader) 0 0 Value.none)) _ _ = true
            decide +kernel
          exact pe_cal (ok_law_pick T) hr pass0 (pa_cons (pv 0) (pa_cons (pv 3) pa_nil))))))), ?_⟩
    obtain ⟨a, L, many, most, rfl, h1, h8, hm1, hm4, hs, ha, hL, q⟩ := h
    refine ⟨.ref a, rfl, .int (most : Nat), rfl, a, _, rfl, (by omega), (by omega), hs, fun A1 S1 C1 d hd0 hd1 => ⟨1, _, rfl, rfl, ?_⟩⟩
    have f1 : Fra a H (upd H a (three A1 S1 C1)) := Fra.drawn A1 S1 C1
    generalize upd H a (three A1 S1 C1) = H1 at f1 ⊢
    obtain ⟨n, rfl⟩ := Int.eq_ofNat_of_zero_le hd0
    refine ⟨_, rfl, 1 + ((n : Nat) : Int), rfl, (by omega), (by omega), fun D hD => ?_⟩
    have en : ((1 : Int) + ((n : Nat) : Int)).toNat = n + 1 := by omega
    rw [en]
    have hna : D ≠ a := f1.src.ne hD
    have hL1 := hL.fra f1
    have hDL := hL1.new hD
    refine lc_it (walk_range (n := n + 1)) (tt := tYes) (fun i H2 => ∃ (rows : List (List Nat)) (vs : List V), rows.length = i ∧ (∀ r ∈ rows, r.length = many ∧ ∀ k ∈ r, k < n + 1) ∧ H2 D = some (.lst vs) ∧ RpL (dl (D :: L) H2) vs (rows.map rowD) ∧ Fra a H1 H2)
      ⟨[], [], rfl, fun r hr => (by cases hr), upd_same, .nil, Fra.same f1.src (same_upd hD)⟩ (fun _ _ _ _ => trivial) ?_ ?_
    · rintro i x H2 H3 hi ⟨rows, vs, hrl, hro, hDv, hrp, f2⟩ ⟨eH, ex0⟩
      replace eH := eH.symm
      subst eH
      refine ⟨rfl, .int (many : Nat), rfl, (many : Nat), rfl, (by omega), (by omega), fun D2 hD2 => ?_⟩
      have hDD : D2 ≠ D := fun z => by rw [z, hDv] at hD2; cases hD2
      have h2a : D2 ≠ a := f2.src.ne hD2
      have h1D2 : H1 D2 = none := f2.none h2a hD2
      have gD2 : dl (D :: L) H2 D2 = none := dl_none hD2
      have hD2L := (hL1.fra f2).new hD2
      have em : (((many : Nat) : Int)).toNat = many := by omega
      rw [em]
      refine lc_it (walk_range (n := many)) (tt := tYes) (fun j H5 => ∃ r : List Nat, r.length = j ∧ (∀ k ∈ r, k < n + 1) ∧ H5 D2 = some (.lst (r.map fun k => V.int (k : Nat))) ∧ H5 D = some (.lst vs) ∧ Same (dl (D :: L) H2) (dl (D :: L) H5) ∧ Fra a H1 H5)
        ⟨[], rfl, fun k hk => (by cases hk), upd_same, by rw [upd_ne (Ne.symm hDD)]; exact hDv, dl_same (same_upd hD2), f2.over h1D2 h2a⟩ (fun _ _ _ _ => trivial) ?_ ?_
      · rintro j y H5 H6 hj ⟨r, hrj, hrk, hr2, hrD, sg, f5⟩ ⟨eH, ey0⟩
        replace eH := eH.symm
        subst eH
        refine ⟨rfl, .ref a, rfl, _, rfl, a, _, rfl, (by omega), (by omega), f5.src, fun A2 S2 C2 d2 hd2 hd3 => ?_⟩
        obtain ⟨m, rfl⟩ := Int.eq_ofNat_of_zero_le hd2
        have f6 : Fra a H5 (upd H5 a (three A2 S2 C2)) := Fra.drawn A2 S2 C2
        have e6 : dl (D :: L) (upd H5 a (three A2 S2 C2)) = dl (D :: L) H5 := dl_upd (List.mem_cons_of_mem _ ha)
        refine ⟨r.map fun k => V.int (k : Nat), by rw [upd_ne h2a]; exact hr2, ?_, r ++ [m], ?_, ?_, ?_, ?_, ?_, ?_⟩
        · rw [List.length_map, hrj]
          exact Nat.lt_of_lt_of_le (by have : j < many := hj; omega : j < 201) (by decide)
        · rw [List.length_append, hrj]; rfl
        · intro k hk
          rcases List.mem_append.mp hk with h | h
          · exact hrk k h
          · rw [List.mem_singleton.mp h]; omega
        · rw [upd_same, List.map_append]; rfl
        · rw [upd_ne (Ne.symm hDD), upd_ne hna]; exact hrD
        · have s6 : Same (dl (D :: L) H2) (dl (D :: L) (upd H5 a (three A2 S2 C2))) := by rw [e6]; exact sg
          exact same_dl s6 gD2
        · exact (f5.trans f6).over h1D2 h2a
      · rintro H5 ⟨r, hrj, hrk, hr2, hrD, sg, f5⟩
        refine ⟨vs, hrD, ?_, rows ++ [r], vs ++ [.ref D2], by rw [List.length_append, hrl]; rfl, ?_, upd_same, ?_, f5.over hD hna⟩
        · have := hrp.length
          rw [List.length_map] at this
          rw [this, hrl]
          exact Nat.lt_of_lt_of_le (by have : i < n + 1 := hi; omega : i < 201) (by decide)
        · intro z hz
          rcases List.mem_append.mp hz with h | h
          · exact hro z h
          · rw [List.mem_singleton.mp h]; exact ⟨hrj, hrk⟩
        · rw [dl_upd (List.mem_cons_self ..), List.map_append]
          refine rpL_append (hrp.same sg) (.lst (by rw [dl_at (fun z => by rcases List.mem_cons.mp z with z | z; exact hDD z; exact hD2L z)]; exact hr2) ?_)
          exact rpL_nats r
    · rintro H2 ⟨rows, vs, hrl, hro, hDv, hrp, f2⟩
      refine q H2 (.ref D) rows (f1.trans f2) (.lst (by rw [dl_at hDL]; exact hDv) (hrp.same dl_tail)) ⟨by omega, by omega, fun r hr => ⟨(hro r hr).1, fun k hk => by rw [hrl]; exact (hro r hr).2 k hk⟩⟩
end
section
variable {P : Program} {w : World} {K : PySem.W.Frag} {mg : Str → Option Value} {base : Heap}
def sp_law_markedL : Sp := fun vs H Q _ => ∃ (a : Addr) (L : List Addr) (al : Str) (vl vr : V) (nl nr : Nat), vs = [.ref a, .str al, vl, vr] ∧ SrcAt H a ∧ a ∈ L ∧ Held L H ∧ SeqN (del H a) vl nl ∧ SeqN (del H a) vr nr ∧ al.length ≤ 8 ∧ nl ≤ 40 ∧ nr ≤ 40 ∧
  ∀ H' t (trs : List Tri), Fra a H H' → Rp (dl L H') t (.list (trs.map encTri)) → trs.Sublist (fullP nl nr al.cps.toList) → trs.length ≤ 12800 → Q t H'
theorem ok_law_markedL (T : Txt K mg) : Cal P w K mg base CX0 2 "_law_marked" ["_law_source_here", "_law_alphabet_here", "_law_left", "_law_right"] sp_law_markedL := by
  obtain ⟨fd, F⟩ := F__law_marked T
  refine cal_mk F (g__law_marked T) sc__law_marked (fun _ _ _ _ _ _ us hl => match us, hl with | [_, _, _, _], _ => rfl) (fun vs H Q E h => ?_) (fun cdv A outer s H vs Q E hr h => ?_)
  · obtain ⟨a, L, al, vl, vr, nl, nr, rfl, _⟩ := h; rfl
  · refine ⟨_, PSs.nox (pss_cons (ps_set (i := 4) sc__law_marked.nd rfl (Or.inl rfl) (pe_lst pa_nil))
      (pss_cons (ps_for PassesOwn.never rfl (pi_range1 (by rfl) (fr_range T) (pa_cons (pe_callB call_len (by rfl) (fr_len T) boot_len (pa_cons (pv 2) pa_nil)) pa_nil)) (pg_name (i := 5) sc__law_marked.nd rfl (Or.inl rfl))
        (pss_one (ps_for PassesOwn.never rfl (pi_str (pv 1)) (pg_name (i := 6) sc__law_marked.nd rfl (Or.inl rfl))
          (pss_one (ps_for PassesOwn.never rfl (pi_range1 (by rfl) (fr_range T) (pa_cons (pe_callB call_len (by rfl) (fr_len T) boot_len (pa_cons (pv 3) pa_nil)) pa_nil)) (pg_name (i := 7) sc__law_marked.nd rfl (Or.inl rfl))
            (pss_one (ps_if (pt_cmpR op_eq (pe_cal (ok_law_pick T) hr pass0 (pa_cons (pv 0) (pa_cons pe_int pa_nil))) pe_int (nomark _))
              (pss_one (ps_expr (pe_bm PySem.F.plainAttrs_list PySem.F.slot_list_append PySem.F.type_list_append mt_append (pv 4) (pa_cons (pe_tup (pa_cons (pv 5) (pa_cons (pv 6) (pa_cons (pv 7) pa_nil)))) pa_nil)))) pss_nil)))))))
      (pss_one (ps_ret (pv 4))))), ?_⟩
    obtain ⟨a, L, al, vl, vr, nl, nr, rfl, hs, ha, hL, sl, sr, h8, hl40, hr40, q⟩ := h
    refine ⟨(by show 0 ≤ sizeLine; decide), fun N hN => ?_⟩
    have hNa : N ≠ a := hs.ne hN
    have hNL := hL.new hN
    have hz : al.cps.toList.length = al.length := Array.length_toList
    -- what holds all along
    have lenL : ∀ H2, Fra a H H2 → LenV K vl H2 nl := fun H2 f => (sl.same f.up).lenV
    have lenR : ∀ H2, Fra a H H2 → LenV K vr H2 nr := fun H2 f => (sr.same f.up).lenV
    have f0 : Fra a H (upd H N (.lst [])) := (Fra.refl hs).over hN hNa
    refine ⟨vl, rfl, _, _, rfl, lenL _ f0, (nl : Nat), rfl, by omega, by omega, ?_⟩
    refine for_it walk_range (fun i σ H2 => ∃ (v5 v6 v7 : Option V) (trs : List Tri) (vs : List V), σ = [some (.ref a), some (.str al), some vl, some vr, some (.ref N), v5, v6, v7] ∧ H2 N = some (.lst vs) ∧ RpL (dl (N :: L) H2) vs (trs.map encTri) ∧ trs.Sublist (fullP i nr al.cps.toList) ∧ trs.length ≤ i * 320 ∧ Fra a H H2)
      ⟨none, none, none, [], [], rfl, upd_same, .nil, List.nil_sublist _, Nat.zero_le _, f0⟩ (fun _ _ _ _ _ => trivial) ?_ ?_
    · rintro i x σ H2 H3 hi ⟨v5, v6, v7, trs, vs, rfl, hNv, hrp, hsub, hlen, f2⟩ ⟨eH, ex0⟩
      replace eH := eH.symm
      subst eH
      replace ex0 : x = .int (i : Nat) := ex0.trans (congrArg V.int (Int.zero_add _))
      subst ex0
      have hi40 : i < 40 := by have : i < (((nl : Nat) : Int)).toNat := hi; omega
      refine ⟨.str al, rfl, al, rfl, ?_⟩
      refine for_it walk_str (fun j σ H2 => ∃ (v6 v7 : Option V) (trs : List Tri) (vs : List V), σ = [some (.ref a), some (.str al), some vl, some vr, some (.ref N), some (.int (i : Nat)), v6, v7] ∧ H2 N = some (.lst vs) ∧ RpL (dl (N :: L) H2) vs (trs.map encTri) ∧
          trs.Sublist (fullP i nr al.cps.toList ++ fullC i nr (al.cps.toList.take j)) ∧ trs.length ≤ i * 320 + j * 40 ∧ Fra a H H2)
        ⟨v6, v7, trs, vs, rfl, hNv, hrp, by rw [List.take_zero]; unfold fullC; simpa using hsub, by omega, f2⟩ (fun _ _ _ _ _ => trivial) ?_ ?_
      · rintro j y σ H2 H3 hj ⟨v6, v7, trs, vs, rfl, hNv, hrp, hsub, hlen, f2⟩ ⟨eH, c, hc, rfl⟩
        replace eH := eH.symm
        subst eH
        have hc' : al.cps.toList[j]? = some c := by rw [Array.getElem?_toList]; exact hc
        have htk : al.cps.toList.take (j + 1) = al.cps.toList.take j ++ [c] := by rw [List.take_succ, hc']; rfl
        have hj8 : j < 8 := by have : j < al.cps.size := hj; have e : al.cps.size = al.length := rfl; omega
        refine ⟨vr, rfl, _, _, rfl, lenR _ f2, (nr : Nat), rfl, by omega, by omega, ?_⟩
        refine for_it walk_range (fun k σ H2 => ∃ (v7 : Option V) (trs : List Tri) (vs : List V), σ = [some (.ref a), some (.str al), some vl, some vr, some (.ref N), some (.int (i : Nat)), some (.str ⟨#[c]⟩), v7] ∧ H2 N = some (.lst vs) ∧ RpL (dl (N :: L) H2) vs (trs.map encTri) ∧
            trs.Sublist (fullP i nr al.cps.toList ++ fullC i nr (al.cps.toList.take j) ++ fullQ i c k) ∧ trs.length ≤ i * 320 + j * 40 + k ∧ Fra a H H2)
          ⟨v7, trs, vs, rfl, hNv, hrp, by unfold fullQ; simpa using hsub, by omega, f2⟩ (fun _ _ _ _ _ => trivial) ?_ ?_
        · rintro k z σ H2 H3 hk ⟨v7, trs, vs, rfl, hNv, hrp, hsub, hlen, f2⟩ ⟨eH, ez0⟩
          replace eH := eH.symm
          subst eH
          replace ez0 : z = .int (k : Nat) := ez0.trans (congrArg V.int (Int.zero_add _))
          subst ez0
          have hk40 : k < 40 := by have : k < (((nr : Nat) : Int)).toNat := hk; omega
          refine ⟨.ref a, rfl, a, 2, rfl, (by omega), (by omega), f2.src, fun A2 S2 C2 d hd0 hd1 => ?_⟩
          have f3 : Fra a H (upd H2 a (three A2 S2 C2)) := f2.trans (Fra.drawn A2 S2 C2)
          have e3 : dl (N :: L) (upd H2 a (three A2 S2 C2)) = dl (N :: L) H2 := dl_upd (List.mem_cons_of_mem _ ha)
          have hN3 : upd H2 a (three A2 S2 C2) N = some (.lst vs) := by rw [upd_ne hNa]; exact hNv
          have r3 : RpL (dl (N :: L) (upd H2 a (three A2 S2 C2))) vs (trs.map encTri) := by rw [e3]; exact hrp
          generalize upd H2 a (three A2 S2 C2) = H4 at f3 e3 hN3 r3 ⊢
          refine ⟨rfl, _, rfl, ?_⟩
          cases hd : decide (V.int d = V.int 1) with
          | false => exact iteF ⟨_, trs, vs, rfl, hN3, r3, by rw [fullQ_succ, ← List.append_assoc]; exact hsub.trans (List.sublist_append_left _ _), by omega, f3⟩
          | true =>
            refine iteT ⟨.ref N, rfl, .inl ⟨rfl, _, SqL.of hN3⟩, .int (i : Nat), rfl, .str ⟨#[c]⟩, rfl, .int (k : Nat), rfl, (by show 3 ≤ sizeLine; decide), fun t ht => ?_⟩
            have hta : t ≠ a := f3.src.ne ht
            have htN : t ≠ N := fun z => by rw [z, hN3] at ht; cases ht
            have gt : t ∉ N :: L := fun z => by rcases List.mem_cons.mp z with z | z; exact htN z; exact (hL.fra f3).new ht z
            have sT := dl_same (L := N :: L) (same_upd (o := .tup [.int (i : Nat), .str ⟨#[c]⟩, .int (k : Nat)]) ht)
            have f4 := f3.over (o := .tup [.int (i : Nat), .str ⟨#[c]⟩, .int (k : Nat)]) (f3.none hta ht) hta
            have hvl : vs.length = trs.length := by have := r3.length; rwa [List.length_map] at this
            refine ⟨N, vs, _, rfl, rfl, by rw [upd_ne (Ne.symm htN)]; exact hN3, Nat.lt_of_lt_of_le (by omega : vs.length < 20000) (by decide), ?_⟩
            refine ⟨_, trs ++ [(i, c, k)], vs ++ [.ref t], rfl, upd_same, ?_, ?_, ?_, f4.over hN hNa⟩
            · rw [dl_upd (List.mem_cons_self ..), List.map_append]
              refine rpL_append (r3.same sT) (.tup (by rw [dl_at gt]; exact upd_same) (.cons (.int _) (.cons (.str _) (.cons (.int _) .nil))))
            · rw [fullQ_succ, ← List.append_assoc]
              exact hsub.append (List.Sublist.refl _)
            · rw [List.length_append]
              show trs.length + 1 ≤ _
              omega
        · rintro σ H2 ⟨v7, trs, vs, rfl, hNv, hrp, hsub, hlen, f2⟩
          have e9 : (((nr : Nat) : Int)).toNat = nr := by omega
          rw [e9] at hsub hlen
          exact ⟨_, _, trs, vs, rfl, hNv, hrp, by rw [htk, fullC_snoc, ← List.append_assoc]; exact hsub, by omega, f2⟩
      · rintro σ H2 ⟨v6, v7, trs, vs, rfl, hNv, hrp, hsub, hlen, f2⟩
        have e9 : al.cps.size = al.length := rfl
        rw [← Array.length_toList, List.take_length] at hsub
        rw [e9] at hlen
        exact ⟨_, _, _, trs, vs, rfl, hNv, hrp, by rw [fullP_succ]; exact hsub, by omega, f2⟩
    · rintro σ H2 ⟨v5, v6, v7, trs, vs, rfl, hNv, hrp, hsub, hlen, f2⟩
      have e9 : (((nl : Nat) : Int)).toNat = nl := by omega
      rw [e9] at hsub hlen
      refine ⟨.ref N, rfl, q H2 (.ref N) trs f2 (.lst (by rw [dl_at hNL]; exact hNv) (hrp.same dl_tail)) hsub (by omega)⟩
end
section
variable {P : Program} {w : World} {K : PySem.W.Frag} {mg : Str → Option Value} {base : Heap}
def sp_law_tablesL : Sp := fun vs H Q _ => ∃ (a : Addr) (L : List Addr) (al : Str) (most : Nat), vs = [.ref a, .str al, .int (most : Nat), .bl false] ∧ SrcAt H a ∧ a ∈ L ∧ Held L H ∧ 1 ≤ al.length ∧ al.length ≤ 8 ∧ 1 ≤ most ∧ most ≤ 40 ∧
  ∀ H' t (ls rs : List (List Nat)) (trs : List Tri), Fra a H H' → Rp (dl L H') t (tabsD ls rs trs) → TabsOk al most ls rs trs → Q t H'
theorem ok_law_tablesL (T : Txt K mg) : Cal P w K mg base CX0 3 "_law_tables" ["_law_source_here", "_law_alphabet_here", "_law_most", "_law_steady"] sp_law_tablesL := by
  obtain ⟨fd, F⟩ := F__law_tables T
  refine cal_mk F (g__law_tables T) sc__law_tables (fun _ _ _ _ _ _ us hl => match us, hl with | [_, _, _, _], _ => rfl) (fun vs H Q E h => ?_) (fun cdv A outer s H vs Q E hr h => ?_)
  · obtain ⟨a, L, al, most, rfl, _⟩ := h; rfl
  · refine ⟨_, PSs.nox (pss_cons (ps_set (i := 4) sc__law_tables.nd rfl (Or.inl rfl) (pe_callB call_len (by rfl) (fr_len T) boot_len (pa_cons (pv 1) pa_nil)))
      (pss_cons (ps_if (pt_val (pv 3))
          (pss_cons (ps_set (i := 5) sc__law_tables.nd rfl (Or.inl rfl) (pe_cal (ok_law_steady_reader T) (hr.mono (by decide)) pass0 (pa_cons (pv 0) (pa_cons (pv 4) (pa_cons (pv 2) pa_nil)))))
            (pss_one (ps_set (i := 6) sc__law_tables.nd rfl (Or.inl rfl) (pe_cal (ok_law_steady_reader T) (hr.mono (by decide)) pass0 (pa_cons (pv 0) (pa_cons (pv 4) (pa_cons (pv 2) pa_nil)))))))
          (pss_cons (ps_set (i := 5) sc__law_tables.nd rfl (Or.inl rfl) (pe_cal (ok_law_readerL T) hr pass0 (pa_cons (pv 0) (pa_cons (pv 4) (pa_cons (pv 2) pa_nil)))))
            (pss_one (ps_set (i := 6) sc__law_tables.nd rfl (Or.inl rfl) (pe_cal (ok_law_readerL T) hr pass0 (pa_cons (pv 0) (pa_cons (pv 4) (pa_cons (pv 2) pa_nil))))))))
      (pss_one (ps_ret (pe_tup (pa_cons (pv 5) (pa_cons (pv 6) (pa_cons (pe_cal (ok_law_markedL T) hr pass0 (pa_cons (pv 0) (pa_cons (pv 1) (pa_cons (pv 5) (pa_cons (pv 6) pa_nil))))) pa_nil)))))))), ?_⟩
    obtain ⟨a, L, al, most, rfl, hs, ha, hL, h1, h8, m1, m40, q⟩ := h
    refine ⟨.str al, rfl, _, _, rfl, lenV_str (Nat.le_trans h8 (by decide)), .bl false, rfl, false, rfl, iteF ?_⟩
    refine ⟨.ref a, rfl, .int (al.length : Nat), rfl, .int (most : Nat), rfl, a, L, al.length, most, rfl, h1, h8, m1, m40, hs, ha, hL, fun H1 tl ls f1 d1 k1 => ?_⟩
    refine ⟨.ref a, rfl, .int (al.length : Nat), rfl, .int (most : Nat), rfl, a, L, al.length, most, rfl, h1, h8, m1, m40, f1.src, ha, hL.fra f1, fun H2 tr rs f2 d2 k2 => ?_⟩
    have dla : ∀ {G : Hp}, Same (dl L G) (del G a) := fun {G} => by rw [← dl_one]; exact dl_sub fun x hx => by rw [List.mem_singleton.mp hx]; exact ha
    have d1' := d1.same (dl_fra ha f2)
    have sl : SeqN (del H2 a) tl ls.length := by
      have := seqN_of (d1'.same dla) (ds := ls.map rowD) rfl
      unfold lenD rowsD itemsD at this
      simpa using this
    have sr : SeqN (del H2 a) tr rs.length := by
      have := seqN_of (d2.same dla) (ds := rs.map rowD) rfl
      unfold lenD rowsD itemsD at this
      simpa using this
    refine ⟨tl, rfl, tr, rfl, .ref a, rfl, .str al, rfl, tl, rfl, tr, rfl, a, L, al, tl, tr, ls.length, rs.length, rfl, f2.src, ha, (hL.fra f1).fra f2, sl, sr, h8, Nat.le_trans k1.le m40, Nat.le_trans k2.le m40, fun H3 tm trs f3 d3 hsub hlen => ?_⟩
    refine ⟨(by show 3 ≤ sizeLine; decide), fun t ht => ?_⟩
    have hta : t ≠ a := f3.src.ne ht
    have s4 := dl_same (L := L) (same_upd (o := .tup [tl, tr, tm]) ht)
    have htL := (((hL.fra f1).fra f2).fra f3).new ht
    refine q _ _ ls rs trs ((f1.trans (f2.trans f3)).trans (Fra.same f3.src (same_upd ht))) (.tup (by rw [dl_at htL]; exact upd_same) (.cons ((d1'.same (dl_fra ha f3)).same s4) (.cons ((d2.same (dl_fra ha f3)).same s4) (.cons (d3.same s4) .nil)))) ⟨k1, k2, hsub, hlen⟩
end
end Kx
set_option Elab.async false
set_option linter.all false
set_option maxRecDepth 100000
set_option maxHeartbeats 4000000
namespace Kx
open PySem PySem.Spec PyProof.Rows L2
/-! ### what no list, no dict and no top of a trial can change -/
def firm : HO → Bool
  | .tup _ => true
  | .own _ => true
  | .ins _ _ fs => fs.length != 2
  | _ => false
def Firm (H H' : Hp) : Prop := ∀ b o, firm o = true → H b = some o → H' b = some o
theorem Same.firm {H H' : Hp} (s : Same H H') : Firm H H' := fun b o _ e => s b o e
theorem Firm.trans {H H1 H2 : Hp} (a : Firm H H1) (b : Firm H1 H2) : Firm H H2 := fun c o f e => b c o f (a c o f e)
theorem Firm.tups {H H' : Hp} (s : Firm H H') : Tups H H' := fun b xs e => s b _ rfl e
theorem firm_upd {H : Hp} {p : Addr} {u o : HO} (h : H p = some u) (hu : firm u = false) : Firm H (upd H p o) := fun b v f e => by
  rw [upd_ne fun z => by rw [z, h] at e; cases e; rw [hu] at f; cases f]
  exact e
theorem firm_fra {a : Addr} {H H' : Hp} (hs : SrcAt H a) (f : Fra a H H') : Firm H H' := fun b o fo e => f.keep hs e fun A S C z => by rw [z] at fo; cases fo
theorem firm_dl {L : List Addr} {H : Hp} (h : ∀ x ∈ L, ∀ o, H x = some o → firm o = false) : Firm H (dl L H) := fun b o f e => by
  rw [dl_at fun z => by have := h b z o e; rw [f] at this; cases this]
  exact e
theorem firm_del {H : Hp} {k : Addr} (h : ∀ o, H k = some o → firm o = false) : Firm H (del H k) := fun b o f e => by
  rw [del_ne fun z => by have := h o (z ▸ e); rw [f] at this; cases this]
  exact e
theorem PairAt.firm {K : PySem.W.Frag} {H H' : Hp} {x : Addr} {D : PairD} (h : PairAt K H x D) (s : Firm H H') : PairAt K H' x D := by
  obtain ⟨dx, vl, vr, vm, vk, h1, h2, h3, h4, h5, h6⟩ := h
  exact ⟨dx, vl, vr, vm, vk, s _ _ rfl h1, s _ _ rfl h2, h3.tups s.tups, h4.tups s.tups, h5.tups s.tups, h6.tups s.tups⟩
theorem WornAt.firm {K : PySem.W.Frag} {H H' : Hp} {W : Addr} {ws : List Wn} (h : WornAt K H W ws) (s : Firm H H') : WornAt K H' W ws := by
  obtain ⟨cs, h1, h2, h3⟩ := h
  exact ⟨cs, s _ _ rfl h1, h2, fun i c w e1 e2 => ⟨s _ _ rfl (h3 i c w e1 e2).1, (h3 i c w e1 e2).2.firm s⟩⟩
theorem DkAt.firm {K : PySem.W.Frag} {H H' : Hp} {D : DkD} (h : DkAt K H D) (s : Firm H H') : DkAt K H' D := by
  obtain ⟨dx, dt, h1, h2, h3, h4, h5⟩ := h
  exact ⟨dx, dt, s _ _ rfl h1, s _ _ rfl h2, s _ _ rfl h3, s _ _ rfl h4, h5.firm s⟩
theorem StAt.firm {K : PySem.W.Frag} {H H' : Hp} {k : Addr} {y : Str} {ds : List Dd} (h : StAt K H k y ds) (s : Firm H H') (hk : ∀ o, H k = some o → H' k = some o) : StAt K H' k y ds := by
  obtain ⟨t, u, vD, ⟨dk, h1, h2⟩, h3, h4, h5⟩ := h
  exact ⟨t, u, vD, ⟨dk, hk _ h1, s _ _ rfl h2⟩, s _ _ rfl h3, h4.same s.tups, s _ _ rfl h5⟩
theorem StAt.top {K : PySem.W.Frag} {H : Hp} {k : Addr} {y : Str} {ds : List Dd} (h : StAt K H k y ds) : ∃ dk v, H k = some (.ins (He.ga K "Kept") dk [("state", v), ("below", .non)]) := by
  obtain ⟨t, u, vD, ⟨dk, h1, h2⟩, h3, h4, h5⟩ := h
  exact ⟨dk, _, h1⟩
/-! ### lists and tuples, but a source -/
def lt (a : Addr) (H : Hp) : Hp := fun b => if b = a then none else match H b with
  | some (.lst xs) => some (.lst xs)
  | some (.tup xs) => some (.tup xs)
  | _ => none
theorem lt_some {a b : Addr} {H : Hp} {o : HO} (h : lt a H b = some o) : b ≠ a ∧ H b = some o ∧ ((∃ xs, o = .lst xs) ∨ ∃ xs, o = .tup xs) := by
  unfold lt at h
  by_cases e : b = a
  · rw [if_pos e] at h; cases h
  · rw [if_neg e] at h
    split at h
    · rename_i xs e2
      cases h
      exact ⟨e, e2, .inl ⟨_, rfl⟩⟩
    · rename_i xs e2
      cases h
      exact ⟨e, e2, .inr ⟨_, rfl⟩⟩
    · cases h
theorem lt_lst {a b : Addr} {H : Hp} {xs : List V} (hb : b ≠ a) (h : H b = some (.lst xs)) : lt a H b = some (.lst xs) := by
  unfold lt
  rw [if_neg hb, h]
theorem lt_tup {a b : Addr} {H : Hp} {xs : List V} (hb : b ≠ a) (h : H b = some (.tup xs)) : lt a H b = some (.tup xs) := by
  unfold lt
  rw [if_neg hb, h]
theorem lt_le {a : Addr} {H : Hp} : Same (lt a H) H := fun b o e => (lt_some e).2.1
theorem lt_del {a : Addr} {H : Hp} : Same (lt a H) (del H a) := fun b o e => by rw [del_ne (lt_some e).1]; exact (lt_some e).2.1
theorem lt_mk {a : Addr} {H H' : Hp} (h : ∀ b o, b ≠ a → ((∃ xs, o = HO.lst xs) ∨ ∃ xs, o = HO.tup xs) → H b = some o → H' b = some o) : Same (lt a H) (lt a H') := fun b o e => by
  obtain ⟨h1, h2, h3⟩ := lt_some e
  have e2 := h b o h1 h3 h2
  rcases h3 with ⟨xs, rfl⟩ | ⟨xs, rfl⟩
  · exact lt_lst h1 e2
  · exact lt_tup h1 e2
theorem lt_same {a : Addr} {H H' : Hp} (s : Same H H') : Same (lt a H) (lt a H') := lt_mk fun b o _ _ e => s b o e
theorem lt_fra {a : Addr} {H H' : Hp} (f : Fra a H H') : Same (lt a H) (lt a H') := lt_mk fun b o hb _ e => by
  have := f.sm b o (by rw [del_ne hb]; exact e)
  rwa [del_ne hb] at this
theorem lt_upd {a p : Addr} {H : Hp} {u o : HO} (hp : H p = some u) (h : ¬ ((∃ xs, u = HO.lst xs) ∨ ∃ xs, u = HO.tup xs)) : Same (lt a H) (lt a (upd H p o)) := lt_mk fun b v hb hv e => by
  rw [upd_ne fun z => by rw [z, hp] at e; cases e; exact h hv]
  exact e
theorem lt_del2 {a k : Addr} {H H' : Hp} {u : HO} (hk : H k = some u) (hu : ¬ ((∃ xs, u = HO.lst xs) ∨ ∃ xs, u = HO.tup xs)) (s : Same (del H k) (del H' k)) : Same (lt a H) (lt a H') := lt_mk fun b o hb ho e => by
  have hbk : b ≠ k := fun z => by rw [z, hk] at e; cases e; exact hu ho
  have := s b o (by rw [del_ne hbk]; exact e)
  rwa [del_ne hbk] at this
/-! ### what a law keeps of a desk -/
def LsT (H : Hp) (c : Addr) (w : Wn) : Prop := ∃ t, H c = some (.tup [.str w.nm, t]) ∧ Rp H t (tabsD w.D.l w.D.r w.D.m)
theorem LsT.same {H H' : Hp} {c : Addr} {w : Wn} (h : LsT H c w) (s : Same H H') : LsT H' c w := by
  obtain ⟨t, h1, h2⟩ := h
  exact ⟨t, s _ _ h1, h2.same s⟩
def ListedAt (H : Hp) (l : Addr) (ws : List Wn) : Prop := ∃ cs : List Addr, H l = some (.lst (cs.map V.ref)) ∧ cs.length = ws.length ∧ ∀ (i : Nat) c w, cs[i]? = some c → ws[i]? = some w → LsT H c w
theorem ListedAt.same {H H' : Hp} {l : Addr} {ws : List Wn} (h : ListedAt H l ws) (s : Same H H') : ListedAt H' l ws := by
  obtain ⟨cs, h1, h2, h3⟩ := h
  exact ⟨cs, s _ _ h1, h2, fun i c w e1 e2 => (h3 i c w e1 e2).same s⟩
def LoggedAt (H : Hp) (l : Addr) (ds : List Dd) : Prop := ∃ cs : List Addr, H l = some (.lst (cs.map V.ref)) ∧ cs.length = ds.length ∧ ∀ (i : Nat) c d, cs[i]? = some c → ds[i]? = some d → H c = some (.tup d.vs)
theorem LoggedAt.same {H H' : Hp} {l : Addr} {ds : List Dd} (h : LoggedAt H l ds) (s : Same H H') : LoggedAt H' l ds := by
  obtain ⟨cs, h1, h2, h3⟩ := h
  exact ⟨cs, s _ _ h1, h2, fun i c d e1 e2 => s _ _ (h3 i c d e1 e2)⟩
structure OwnV (G : Hp) (kvs : List (L2.Key × V)) (al y : Str) (tags : List Nat) (fr : Nat) (ds : List Dd) (ws : List Wn) : Prop where
  al : valV kvs (Sum.inr "alphabet") = some (.str al)
  row : valV kvs (Sum.inr "row") = some (.str y)
  tags : ∃ t, valV kvs (Sum.inr "tags") = some (.ref t) ∧ G t = some (.lst (tags.map fun k => V.int (k : Nat)))
  fresh : valV kvs (Sum.inr "fresh") = some (.int (fr : Nat))
  log : ∃ l, valV kvs (Sum.inr "log") = some (.ref l) ∧ LoggedAt G l ds
  listed : ∃ l, valV kvs (Sum.inr "listed") = some (.ref l) ∧ ListedAt G l ws
  n : kvs.length ≤ 10
theorem OwnV.same {G G' : Hp} {kvs : List (L2.Key × V)} {al y : Str} {tags : List Nat} {fr : Nat} {ds : List Dd} {ws : List Wn} (h : OwnV G kvs al y tags fr ds ws) (s : Same G G') : OwnV G' kvs al y tags fr ds ws := by
  obtain ⟨h1, h2, ⟨t, h3, h4⟩, h5, ⟨l, h6, h7⟩, ⟨m, h8, h9⟩, h10⟩ := h
  exact ⟨h1, h2, ⟨t, h3, s _ _ h4⟩, h5, ⟨l, h6, h7.same s⟩, ⟨m, h8, h9.same s⟩, h10⟩
structure WsT (al : Str) (ws : List Wn) : Prop where
  ok : WsOk al ws
  ix : ∀ w ∈ ws, w.D.ix = ixF al
end Kx
set_option Elab.async false
set_option linter.all false
set_option maxRecDepth 100000
set_option maxHeartbeats 4000000
namespace Kx
open PySem PySem.Spec PyProof.Rows L2
def DL (LS HD a : Addr) (hd : List Addr) : List Addr := LS :: HD :: a :: hd
structure DLoop (K : PySem.W.Frag) (a LS HD : Addr) (al : Str) (G : Hp) (hd ls : List Addr) (ws : List Wn) : Prop where
  src : SrcAt G a
  hdl : hd.length = ws.length
  lsl : ls.length = ws.length
  h : G HD = some (.lst (hd.map V.ref))
  l : G LS = some (.lst (ls.map V.ref))
  he : ∀ (i : Nat) c w, hd[i]? = some c → ws[i]? = some w → G c = some (.lst [.str w.nm, .ref w.p]) ∧ PairAt K G w.p w.D
  le : ∀ (i : Nat) c w, ls[i]? = some c → ws[i]? = some w → LsT (dl (DL LS HD a hd) G) c w
  ok : ∀ w ∈ ws, PairOk w.D ∧ w.D.al = al ∧ w.D.ix = ixF al
  held : Held (DL LS HD a hd) G
theorem refs_str {ls : List Addr} {z : Str} {xs : List V} (h : V.str z :: xs = ls.map V.ref) : False := by
  cases ls with
  | nil => cases h
  | cons a ls => exact absurd (List.cons.inj h).1 (by intro e; cases e)
theorem refs_three {ls : List Addr} {A S C : Int} : HO.lst (ls.map V.ref) ≠ three A S C := fun h => by
  have h : ls.map V.ref = [V.int A, V.int S, V.int C] := by
    unfold three at h
    injection h
  cases ls with
  | nil => cases h
  | cons a ls => exact absurd (List.cons.inj h).1 (by intro e; cases e)
theorem DLoop.push {K : PySem.W.Frag} {a LS HD : Addr} {al : Str} {G G' : Hp} {hd ls : List Addr} {ws : List Wn} {c tt : Addr} {w : Wn} {t : V} (d : DLoop K a LS HD al G hd ls ws) (src : SrcAt G' a)
    (hs : ∀ b o, b ≠ LS → b ≠ HD → b ≠ a → G b = some o → G' b = some o) (hc0 : G c = none) (h' : G' HD = some (.lst ((hd ++ [c]).map V.ref))) (l' : G' LS = some (.lst ((ls ++ [tt]).map V.ref)))
    (hc : G' c = some (.lst [.str w.nm, .ref w.p])) (hp : PairAt K G' w.p w.D) (ht : LsT (dl (DL LS HD a (hd ++ [c])) G') tt w) (ok : PairOk w.D ∧ w.D.al = al ∧ w.D.ix = ixF al) : DLoop K a LS HD al G' (hd ++ [c]) (ls ++ [tt]) (ws ++ [w]) := by
  have fm : Firm G G' := fun b o f e => hs b o (fun z => by rw [z, d.l] at e; cases e; cases f) (fun z => by rw [z, d.h] at e; cases e; cases f) (fun z => by
    obtain ⟨A, S, C, e2⟩ := d.src
    rw [z, e2] at e; cases e; cases f) e
  have split : ∀ {α : Type} {xs : List α} {x y : α} {i : Nat}, (xs ++ [x])[i]? = some y → (i < xs.length ∧ xs[i]? = some y) ∨ (i = xs.length ∧ x = y) := by
    intro α xs x y i e
    by_cases hi : i < xs.length
    · rw [List.getElem?_append_left hi] at e
      exact .inl ⟨hi, e⟩
    · rw [List.getElem?_append_right (by omega)] at e
      have h0 : i - xs.length = 0 := by
        have := (List.getElem?_eq_some_iff.mp e).1
        rw [List.length_singleton] at this
        omega
      rw [h0] at e
      exact .inr ⟨by omega, Option.some.inj e⟩
  have hdl := d.hdl
  have lsl := d.lsl
  have sm : Same (dl (DL LS HD a hd) G) (dl (DL LS HD a (hd ++ [c])) G') := fun b o e => by
    obtain ⟨hb, e⟩ := dl_some e
    unfold DL at hb
    simp only [List.mem_cons, not_or] at hb
    rw [dl_at]
    · exact hs b o hb.1 hb.2.1 hb.2.2.1 e
    · unfold DL
      simp only [List.mem_cons, not_or, List.mem_append, List.not_mem_nil, or_false]
      exact ⟨hb.1, hb.2.1, hb.2.2.1, hb.2.2.2, fun z => by rw [z, hc0] at e; cases e⟩
  refine ⟨src, by rw [List.length_append, List.length_append, hdl]; rfl, by rw [List.length_append, List.length_append, lsl]; rfl, h', l', fun i c' w' e1 e2 => ?_, fun i c' w' e1 e2 => ?_, fun w' hw => ?_, fun b hb => ?_⟩
  · rcases split e1 with ⟨hi, e1⟩ | ⟨hi, rfl⟩
    · rw [List.getElem?_append_left (by omega)] at e2
      obtain ⟨g1, g2⟩ := d.he i c' w' e1 e2
      refine ⟨hs _ _ (fun z => ?_) (fun z => ?_) (fun z => ?_) g1, g2.firm fm⟩
      · rw [z, d.l] at g1
        injection g1 with g1
        injection g1 with g1
        exact refs_str g1.symm
      · rw [z, d.h] at g1
        injection g1 with g1
        injection g1 with g1
        exact refs_str g1.symm
      · obtain ⟨A, S, C, e2⟩ := d.src
        rw [z, e2] at g1
        cases g1
    · rcases split e2 with ⟨hj, _⟩ | ⟨_, rfl⟩
      · omega
      · exact ⟨hc, hp⟩
  · rcases split e1 with ⟨hi, e1⟩ | ⟨hi, rfl⟩
    · rw [List.getElem?_append_left (by omega)] at e2
      exact (d.le i c' w' e1 e2).same sm
    · rcases split e2 with ⟨hj, _⟩ | ⟨_, rfl⟩
      · omega
      · exact ht
  · rcases List.mem_append.mp hw with hw | hw
    · exact d.ok w' hw
    · rw [List.mem_singleton.mp hw]; exact ok
  · unfold DL at hb
    simp only [List.mem_cons, List.mem_append, List.not_mem_nil, or_false] at hb
    rcases hb with rfl | rfl | rfl | hb | rfl
    · exact ⟨_, l'⟩
    · exact ⟨_, h'⟩
    · obtain ⟨A, S, C, e2⟩ := src
      exact ⟨_, e2⟩
    · obtain ⟨i, hi⟩ := List.mem_iff_getElem?.mp hb
      have hlt := (List.getElem?_eq_some_iff.mp hi).1
      have e2 := List.getElem?_eq_getElem (show i < ws.length by omega)
      obtain ⟨g1, g2⟩ := d.he i b _ hi e2
      refine ⟨_, hs _ _ (fun z => ?_) (fun z => ?_) (fun z => ?_) g1⟩
      · rw [z, d.l] at g1
        injection g1 with g1
        injection g1 with g1
        exact refs_str g1.symm
      · rw [z, d.h] at g1
        injection g1 with g1
        injection g1 with g1
        exact refs_str g1.symm
      · obtain ⟨A, S, C, e2⟩ := d.src
        rw [z, e2] at g1
        cases g1
    · exact ⟨_, hc⟩
theorem atI_ends {al : Str} (h : 1 ≤ al.length) : ∃ c d, c ∈ al.cps.toList ∧ d ∈ al.cps.toList ∧ atI al.cps.toList (0 : Int) = some c ∧ atI al.cps.toList (-1) = some d := by
  have e : al.cps.toList.length = al.length := Array.length_toList
  have h0 := List.getElem?_eq_getElem (show 0 < al.cps.toList.length by omega)
  have hne : al.cps.toList ≠ [] := fun z => by rw [z] at e; simp at e; omega
  refine ⟨_, al.cps.toList.getLast hne, List.mem_of_getElem? h0, List.getLast_mem hne, atI_nat (j := 0) h0, ?_⟩
  have h2 : atI (al.cps.toList.dropLast ++ [al.cps.toList.getLast hne]) (-1) = some (al.cps.toList.getLast hne) := atI_end
  rwa [List.dropLast_concat_getLast hne] at h2
theorem ends_at : ∀ k, k < 4 → ∃ n : Nat, n ≤ 200 ∧ [V.int 198, V.int 200, V.int 199, V.int 200][k]? = some (V.int (n : Nat)) := by
  intro k hk
  match k, hk with
  | 0, _ => exact ⟨198, by omega, rfl⟩
  | 1, _ => exact ⟨200, by omega, rfl⟩
  | 2, _ => exact ⟨199, by omega, rfl⟩
  | 3, _ => exact ⟨200, by omega, rfl⟩
theorem cut_upto {z : Str} {n : Nat} : (cutS z none (some ((n : Nat) : Int))).length ≤ n := by
  have h := congrArg List.length (cut_take (z := z) (k := n))
  rw [List.length_take] at h
  have e : ∀ z : Str, z.cps.toList.length = z.length := fun z => Array.length_toList
  rw [e, e] at h
  omega
mutual
theorem Rp.lt {a : Addr} {H : Hp} (ha : H a = none) : ∀ {v : V} {d : PyData}, Rp H v d → d.hasDict = false → Rp (lt a H) v d
  | _, _, .non, _ => .non
  | _, _, .bl b, _ => .bl b
  | _, _, .int i, _ => .int i
  | _, _, .str z, _ => .str z
  | _, _, .lst e h, n => .lst (lt_lst (ne_of_none e ha) e) (RpL.lt ha h (by simpa [PyData.hasDict] using n))
  | _, _, .tup e h, n => .tup (lt_tup (ne_of_none e ha) e) (RpL.lt ha h (by simpa [PyData.hasDict] using n))
  | _, _, .dct e, n => by simp [PyData.hasDict] at n
theorem RpL.lt {a : Addr} {H : Hp} (ha : H a = none) : ∀ {vs : List V} {ds : List PyData}, RpL H vs ds → PyData.hasDictAll ds = false → RpL (lt a H) vs ds
  | _, _, .nil, _ => .nil
  | _, _, .cons h hs, n => by
    simp only [PyData.hasDictAll, Bool.or_eq_false_iff] at n
    exact .cons (Rp.lt ha h n.1) (RpL.lt ha hs n.2)
end
theorem rows_dict (t : Tab) : (rowsD t).hasDict = false := by
  have h0 : ∀ l : List Nat, PyData.hasDictAll (l.map fun k => PyData.int (k : Nat)) = false := fun l => by
    induction l with
    | nil => simp [PyData.hasDictAll]
    | cons t l ih => simp [PyData.hasDictAll, PyData.hasDict, ih]
  have : ∀ l : Tab, PyData.hasDictAll (l.map rowD) = false := fun l => by
    induction l with
    | nil => simp [PyData.hasDictAll]
    | cons t l ih => simp [PyData.hasDictAll, PyData.hasDict, rowD, h0, ih]
  simpa [PyData.hasDict, rowsD] using this t
theorem tabs_dict (ls rs : Tab) (trs : List Tri) : (tabsD ls rs trs).hasDict = false := by
  have h1 := rows_dict ls
  have h2 := rows_dict rs
  have h3 := tris_dict trs
  simp only [tabsD, PyData.hasDict, PyData.hasDictAll, Bool.or_eq_false_iff]
  exact ⟨h1, h2, h3, trivial⟩
theorem LsT.lt {a : Addr} {H : Hp} {c : Addr} {w : Wn} (ha : H a = none) (h : LsT H c w) : LsT (lt a H) c w := by
  obtain ⟨t, h1, h2⟩ := h
  exact ⟨t, lt_tup (ne_of_none h1 ha) h1, h2.lt ha (tabs_dict ..)⟩
section
variable {P : Program} {w : World} {K : PySem.W.Frag} {mg : Str → Option Value} {base : Heap}
def sp_law_desk (K : PySem.W.Frag) : Sp := fun vs H Q _ => ∃ (a ns : Addr) (zs : List Str), vs = [.ref a, .ref ns] ∧ SrcAt H a ∧ ns ≠ a ∧ H ns = some (.lst (zs.map V.str)) ∧ NmsOk zs ∧ zs.length ≤ 20 ∧
  ∀ H' t (D : DkD) (o : Addr) (kvs : List (L2.Key × V)) (y : Str), Fra a H H' → H' t = some (.tup [.ref D.x, .ref o]) → DkAt K H' D → StAt K H' D.k y [] → H D.k = none → H' o = some (.dK kvs) → H o = none → OwnV (lt a H') kvs D.al y (List.range y.length) 200 [] D.ws → WsT D.al D.ws → D.al ∈ menuA → over D.al 200 y → Q (.ref t) H'
theorem ok_law_desk (T : Txt K mg) : Cal P w K mg base CX0 8 "_law_desk" ["_law_source_here", "_law_names_here"] (sp_law_desk K) := by
  obtain ⟨fd, F⟩ := F__law_desk T
  obtain ⟨fdI, FI⟩ := F_Pair___init__ T
  have bI : Binds K fdI ["self", "alphabet", "left", "right", "marked"] [] := FI.bindsN fun _ _ _ _ _ _ us hl => match us, hl with | [_, _, _, _, _], _ => rfl
  obtain ⟨fdK, FK⟩ := F_Desk___init__ T
  have bK : Binds K fdK ["self", "alphabet", "row", "marks"] [] := FK.bindsN fun _ _ _ _ _ _ us hl => match us, hl with | [_, _, _, _], _ => rfl
  refine cal_mk F (g__law_desk T) sc__law_desk (fun _ _ _ _ _ _ us hl => match us, hl with | [_, _], _ => rfl) (fun vs H Q E h => ?_) (fun cdv A outer s H vs Q E hr h => ?_)
  · obtain ⟨a, ns, zs, rfl, _⟩ := h; rfl
  · refine ⟨_, PSs.nox (pss_cons (ps_set (i := 2) sc__law_desk.nd rfl (Or.inl rfl) (pe_cal (ok_law_alphabet T) (hr.mono (by decide)) pass0 (pa_cons (pv 0) pa_nil)))
        (pss_cons (ps_set (i := 3) sc__law_desk.nd rfl (Or.inl rfl) (pe_cal (ok_law_word T) (hr.mono (by decide)) pass0 (pa_cons (pv 0) (pa_cons (pv 2) (pa_cons pe_int pa_nil)))))
        (pss_cons (ps_if (pt_cmpR op_eq (pe_cal (ok_law_pick T) (hr.mono (by decide)) pass0 (pa_cons (pv 0) (pa_cons pe_int pa_nil))) pe_int (nomark _)) (pss_one (ps_set (i := 3) sc__law_desk.nd rfl (Or.inl rfl) (pe_slice sl_str (pe_op op_repE (pe_op op_add_str (pe_op op_add_str (pv 3) (pe_ix ix_str (pv 2) pe_int (fun _ _ => rfl))) (pe_ix ix_str (pv 2) (pe_un un_neg pe_int) (fun _ _ => rfl))) pe_int) po_none (po_some (pe_ix ix_list (pe_lst (pa_cons pe_int (pa_cons pe_int (pa_cons pe_int (pa_cons pe_int pa_nil))))) (pe_cal (ok_law_pick T) (hr.mono (by decide)) pass0 (pa_cons (pv 0) (pa_cons pe_int pa_nil))) (fun _ _ => rfl)))))) pss_nil)
        (pss_cons (ps_set (i := 4) sc__law_desk.nd rfl (Or.inl rfl) (pe_lst pa_nil))
        (pss_cons (ps_set (i := 5) sc__law_desk.nd rfl (Or.inl rfl) (pe_lst pa_nil))
        (pss_cons (ps_for PassesOwn.never rfl (pi_list (pe_slice sl_list (pv 1) po_none (po_some (pe_cal (ok_law_pick T) (hr.mono (by decide)) pass0 (pa_cons (pv 0) (pa_cons (pe_op op_add (pe_callB call_len (by rfl) (fr_len T) boot_len (pa_cons (pv 1) pa_nil)) pe_int) pa_nil)))))) (pg_name (i := 6) sc__law_desk.nd rfl (Or.inl rfl)) (pss_cons (ps_set (i := 7) sc__law_desk.nd rfl (Or.inl rfl) (pe_cal (ok_law_tablesL T) (hr.mono (by decide)) pass0 (pa_cons (pv 0) (pa_cons (pv 2) (pa_cons pe_int (pa_cons pe_bl pa_nil))))))
        (pss_cons (ps_expr (pe_bm PySem.F.plainAttrs_list PySem.F.slot_list_append PySem.F.type_list_append mt_append (pv 4) (pa_cons (pe_tup (pa_cons (pv 6) (pa_cons (pv 7) pa_nil))) pa_nil)))
        (pss_one (ps_expr (pe_bm PySem.F.plainAttrs_list PySem.F.slot_list_append PySem.F.type_list_append mt_append (pv 5) (pa_cons (pe_lst (pa_cons (pv 6) (pa_cons (pe_makeS (E := fun _ => E0) (mkr_Pair T) (ok_Pair_init T FI (ok_masks_of_triples T)) (hr.mono (by decide)) (by rfl) (g_Pair T) bI passAt0 (pa_cons (pv 2) (pa_cons (pe_ix ix_tup (pv 7) pe_int (fun _ _ => rfl)) (pa_cons (pe_ix ix_tup (pv 7) pe_int (fun _ _ => rfl)) (pa_cons (pe_ix ix_tup (pv 7) pe_int (fun _ _ => rfl)) pa_nil))))) pa_nil))) pa_nil)))))))
        (pss_cons (ps_set (i := 8) sc__law_desk.nd rfl (Or.inl rfl) (pe_makeS (E := fun _ => E0) (mkr_Desk T) (ok_Desk_init T FK) (hr.mono (by decide)) (by rfl) (g_Desk T) bK passAt0 (pa_cons (pv 2) (pa_cons (pv 3) (pa_cons (pv 5) pa_nil)))))
        (pss_cons (ps_for PassesOwn.never rfl (pi_list (pv 5)) (pg_name (i := 9) sc__law_desk.nd rfl (Or.inl rfl)) (pss_one (ps_asg pe_str (pg_sub (pv 9) pe_int set_list))))
        (pss_cons (ps_expr (pe_bm PySem.F.plainAttrs_list PySem.F.slot_list_append PySem.F.type_list_append mt_append (pv 5) (pa_cons pe_non pa_nil)))
        (pss_cons (ps_set (i := 10) sc__law_desk.nd rfl (Or.inl rfl) (pe_disp (pps_cons pe_str (pv 2) (pps_cons pe_str (pv 3) (pps_cons pe_str (pe_lc (own := [("_law_k", 11)]) (g := (gName 11)) (tt := tYes) rfl sc__law_desk.nd  (pi_range1 (by rfl) (fr_range T) (pa_cons (pe_callB call_len (by rfl) (fr_len T) boot_len (pa_cons (pv 3) pa_nil)) pa_nil)) (blkOk_by (N := N__law_desk) (sc := defScope s__law_desk) (by decide +kernel)) (fun _ _ _ _ _ => (pg_name (i := 11) sc__law_desk.nd rfl (Or.inl rfl))) (fun _ _ _ _ _ => pts_nil) (fun _ _ _ _ _ => (pv 11))) (pps_cons pe_str pe_int (pps_cons pe_str (pe_lst pa_nil) pps_nil))))) (by rfl) (by rfl) (fun z => by cases z) (by show 5 ≤ 15; decide)))
        (pss_cons (ps_dput (hu1 hr) (pv 10) pe_str (pv 4) (by rfl))
        (pss_one (ps_ret (pe_tup (pa_cons (pv 8) (pa_cons (pv 10) pa_nil)))))))))))))))), ?_⟩
    obtain ⟨a, ns, zs, rfl, hs, hna, hns, hzs, hz20, q⟩ := h
    refine asg_set (call_of (args_of (var_of rfl (args_end ⟨a, rfl, hs, fun G1 al hal f1 => ?_⟩))))
    rintro σ1 rfl
    obtain ⟨m1, m8⟩ := menu_len al hal
    refine asg_set (call_of (args_of (var_of rfl (args_of (var_of rfl (args_of (c_of (args_end ⟨a, al, 9, rfl, m1, m8, by omega, f1.src, fun G2 cs f2 hcs hl => ?_⟩))))))))
    rintro σ2 rfl
    have hy0 := over_list hl hcs
    generalize Txt.join "" (cs.map one1) = y0 at hy0 ⊢
    have f12 := f1.trans f2
    refine if_then (fun σ G => ∃ y, σ = [some (.ref a), some (.ref ns), some (.str al), some (.str y), none, none, none, none, none, none, none, none] ∧ over al 200 y ∧ Fra a H G) ?_ fun rest => ?_
    case refine_2 =>
      refine test_op (drawC rfl (by omega) (by omega) f2.src fun b G3 f3 _ => c_of ⟨rfl, _, rfl, or_ite (fun _ => ?_) fun _ => rest _ _ ⟨y0, rfl, over_mono hy0 (by omega), f12.trans f3⟩⟩)
      obtain ⟨c, d, hc, hd, a0, a1⟩ := atI_ends m1
      have l0 := hy0.1
      refine asg_set (sl_of (op_of (op_of (op_of (var_of rfl (op_of (var_of rfl (c_of ⟨al, _, c, rfl, rfl, Nat.le_trans m8 (by decide), a0, _, _, rfl, rfl, by rw [len_one]; exact Nat.le_trans (by omega : _ ≤ 100) (by decide), op_of (var_of rfl ⟨1, rfl, al, _, d, rfl, rfl, Nat.le_trans m8 (by decide), a1, _, _, rfl, rfl, by rw [len_app, len_one, len_one]; exact Nat.le_trans (by omega : _ ≤ 100) (by decide), c_of ⟨_, 100, rfl, rfl, by omega, by omega, by rw [len_app, len_app, len_one, len_one]; omega, ?_⟩⟩)⟩))))))))
      have o1 : over al (9 + 1 + 1) (y0 ++ ⟨#[c]⟩ ++ ⟨#[d]⟩) := over_cat (over_cat hy0 (over_one hc)) (over_one hd)
      have o2 := over_mul (k := 100) o1 (by omega)
      generalize Txt.mul (y0 ++ ⟨#[c]⟩ ++ ⟨#[d]⟩) ((100 : Nat) : Int) = yy at o2 ⊢
      refine nopart_of (part_of (op_of ⟨by show 4 ≤ sizeLine; decide, fun l hl => drawC rfl (by omega) (by omega) (f3.src.same (same_upd hl)) fun k G4 f4 hk => ?_⟩))
      have fl := Fra.same f3.src (same_upd (o := .lst [.int 198, .int 200, .int 199, .int 200]) hl)
      have e4 := f4.keep fl.src (upd_same (H := G3) (a := l) (o := .lst [.int 198, .int 200, .int 199, .int 200])) fun A S C z => by unfold three at z; injection z with z; exact absurd (congrArg List.length z) (by simp)
      obtain ⟨n, hn, en⟩ := ends_at k (by omega)
      refine ⟨l, _, _, _, rfl, rfl, SqL.of e4, atI_nat en, _, rfl, yy, rfl, Nat.le_trans o2.1 (by decide), ?_⟩
      rintro σ3 rfl
      exact rest _ _ ⟨_, rfl, ⟨Nat.le_trans cut_upto hn, (over_cut o2).2⟩, (f12.trans f3).trans (fl.trans f4)⟩
    rintro σ G3 ⟨y, rfl, hy, f3⟩
    refine ⟨by show 0 ≤ sizeLine; decide, fun LS hLS => ?_⟩
    refine ⟨by show 0 ≤ sizeLine; decide, fun HD hHD => ?_⟩
    have nLa := src_ne f3.src hLS
    have f4 : Fra a G3 (upd G3 LS (.lst [])) := Fra.same f3.src (same_upd hLS)
    have nHa := src_ne f4.src hHD
    have f5 : Fra a G3 (upd (upd G3 LS (.lst [])) HD (.lst [])) := f4.trans (Fra.same f4.src (same_upd hHD))
    have nHL : HD ≠ LS := fun z => by rw [z, upd_same] at hHD; cases hHD
    have eL : upd (upd G3 LS (.lst [])) HD (.lst []) LS = some (.lst []) := by rw [upd_ne (Ne.symm nHL)]; exact upd_same
    have eH : upd (upd G3 LS (.lst [])) HD (.lst []) HD = some (.lst []) := upd_same
    revert f5 eL eH
    generalize upd (upd G3 LS (.lst [])) HD (.lst []) = G5
    intro f5 eL eH
    have f35 := f3.trans f5
    have hns5 : G5 ns = some (.lst (zs.map V.str)) := by
      have := f35.sm ns _ (by rw [del_ne hna]; exact hns)
      rwa [del_ne hna] at this
    have d0 : DLoop K a LS HD al G5 [] [] [] := ⟨f5.src, rfl, rfl, eH, eL, fun i c w e => by simp at e, fun i c w e => by simp at e, fun w hw => (by cases hw), fun b hb => by
      unfold DL at hb
      simp only [List.mem_cons, List.not_mem_nil, or_false] at hb
      rcases hb with rfl | rfl | rfl
      · exact ⟨_, eL⟩
      · exact ⟨_, eH⟩
      · obtain ⟨A, S, C, e2⟩ := f5.src
        exact ⟨_, e2⟩⟩
    refine sl_of (var_of rfl (nopart_of (part_of (draw rfl (fun Q' k => op_of (lenL rfl hns5 (List.length_map ..) (c_of ⟨_, _, rfl, rfl, k⟩))) (by omega) (by omega) f5.src fun m G6 f6 hm => ?_))))
    have nr : ∀ {xs : List Addr} {A S C : Int}, HO.lst (xs.map V.ref) ≠ three A S C := refs_three
    have hns6 := f6.keep f5.src hns5 fun A S C z => by
      unfold three at z
      injection z with z
      cases zs with
      | nil => cases z
      | cons x zs => exact absurd (List.cons.inj z).1 (by intro e; cases e)
    have eL6 := f6.keep f5.src eL fun A S C => refs_three (ls := [])
    have eH6 := f6.keep f5.src eH fun A S C => refs_three (ls := [])
    refine ⟨_, rfl, ns, _, rfl, SqL.of hns6, fun q0 hq0 => ?_⟩
    have nqa := src_ne f6.src hq0
    have nqL : q0 ≠ LS := fun z => by rw [z, eL6] at hq0; cases hq0
    have nqH : q0 ≠ HD := fun z => by rw [z, eH6] at hq0; cases hq0
    have hcut : cutV (zs.map V.str) none (some ((m : Nat) : Int)) = (zs.take m).map V.str := by rw [cutV_take, List.map_take]
    rw [hcut]
    have f7 : Fra a G3 (upd G6 q0 (.lst ((zs.take m).map V.str))) := f5.trans (f6.trans (Fra.same f6.src (same_upd hq0)))
    have d7 : DLoop K a LS HD al (upd G6 q0 (.lst ((zs.take m).map V.str))) [] [] [] := ⟨f7.src, rfl, rfl, by rw [upd_ne (Ne.symm nqH)]; exact eH6, by rw [upd_ne (Ne.symm nqL)]; exact eL6, fun i c w e => by simp at e, fun i c w e => by simp at e, fun w hw => (by cases hw), (d0.held.fra f6).same (same_upd hq0)⟩
    refine ⟨q0, rfl, ⟨_, SqL.of upd_same⟩, ?_⟩
    generalize hzs' : zs.take m = zz at *
    refine for_it walk_list (fun i σ G => ∃ (v6 v7 : Option V) (hd ls : List Addr) (ws : List Wn), σ = [some (.ref a), some (.ref ns), some (.str al), some (.str y), some (.ref LS), some (.ref HD), v6, v7, none, none, none, none] ∧ DLoop K a LS HD al G hd ls ws ∧ ws.map (·.nm) = zz.take i ∧ Fra a G3 G ∧ G q0 = some (.lst (zz.map V.str)) ∧ ∀ c ∈ hd, G3 c = none) ⟨none, none, [], [], [], rfl, d7, rfl, f7, upd_same, fun c hc => (by cases hc)⟩ (fun _ _ _ _ ⟨_, _, _, _, _, _, _, _, _, h, _⟩ => SqL.of h) ?_ ?_
    · rintro i x σ G G' hi ⟨v6, v7, hd, ls, ws, rfl, d, hw, f, hq, hnew⟩ ⟨eG, hx⟩
      replace eG := eG.symm
      subst eG
      rw [List.getElem?_map] at hx
      obtain ⟨z, hz, rfl⟩ := Option.map_eq_some_iff.mp hx
      refine asg_set (call_of (args_of (var_of rfl (args_of (var_of rfl (args_of (c_of (args_of (c_of (args_end ⟨a, DL LS HD a hd, al, 3, rfl, d.src, by unfold DL; simp, d.held, m1, m8, by omega, by omega, fun G1 t lt rt trs g1 rp ok => ?_⟩))))))))))
      rintro σ7 rfl
      have hdl := d.held.fra g1
      have kL := g1.keep d.src d.l fun A S C => refs_three
      have kH := g1.keep d.src d.h fun A S C => refs_three
      have kq := g1.keep d.src hq fun A S C z => by
        unfold three at z
        injection z with z
        cases zz with
        | nil => cases z
        | cons x zz => exact absurd (List.cons.inj z).1 (by intro e; cases e)
      refine ⟨.ref LS, rfl, .inl ⟨rfl, _, SqL.of kL⟩, ?_⟩
      refine args_of (args_of (var_of rfl (args_of (var_of rfl (args_end ⟨by show 2 ≤ sizeLine; decide, fun tt htt => ?_⟩)))))
      have hlw : ws.length = i := by
        have := congrArg List.length hw
        rw [List.length_map, List.length_take] at this
        have hi' : i < zz.length := (List.getElem?_eq_some_iff.mp hz).1
        omega
      have hi20 : i < 20 := by
        have hi' : i < zz.length := (List.getElem?_eq_some_iff.mp hz).1
        rw [← hzs', List.length_take] at hi'
        omega
      have hlsl := d.lsl
      have hhdl := d.hdl
      obtain ⟨tp, vl, vr, vm, rfl, htp, rl, rr, rm⟩ := tabs_parts rp
      have sT := same_upd (o := .tup [.str z, .ref tp]) htt
      have kL2 := sT _ _ kL
      refine args_end ⟨LS, _, _, rfl, rfl, kL2, by rw [List.length_map]; exact Nat.lt_of_le_of_lt (by omega : _ ≤ 20) (by decide), ?_⟩
      have eTT : upd G1 tt (.tup [.str z, .ref tp]) tt = some (.tup [.str z, .ref tp]) := upd_same
      have nTL : tt ≠ LS := fun e => by rw [e, kL] at htt; cases htt
      have nHL' : HD ≠ LS := nHL
      have nLt : ∀ {o : HO}, ¬ (∃ xs, o = HO.lst xs) → ∀ b, G1 b = some o → b ≠ LS := fun hn b e z => by rw [z, kL] at e; cases e; exact hn ⟨_, rfl⟩
      have k0 : ∀ b o, b ≠ LS → G1 b = some o → upd (upd G1 tt (.tup [.str z, .ref tp])) LS (.lst (ls.map V.ref ++ [.ref tt])) b = some o := fun b o h e => by rw [upd_ne h]; exact sT _ _ e
      have eTT2 : upd (upd G1 tt (.tup [.str z, .ref tp])) LS (.lst (ls.map V.ref ++ [.ref tt])) tt = some (.tup [.str z, .ref tp]) := by rw [upd_ne nTL]; exact eTT
      have eLS2 : upd (upd G1 tt (.tup [.str z, .ref tp])) LS (.lst (ls.map V.ref ++ [.ref tt])) LS = some (.lst (ls.map V.ref ++ [.ref tt])) := upd_same
      revert k0 eTT2 eLS2
      generalize upd (upd G1 tt (.tup [.str z, .ref tp])) LS (.lst (ls.map V.ref ++ [.ref tt])) = Ga
      intro k0 eTT2 eLS2
      have kHa := k0 _ _ nHL kH
      obtain ⟨htpn, htp1⟩ := dl_some htp
      have ntpL : tp ≠ LS := fun e => htpn (by rw [e]; unfold DL; simp)
      have htpa := k0 _ _ ntpL htp1
      have sR : Same (dl (DL LS HD a hd) G1) Ga := fun b o e => by
        obtain ⟨hb, e⟩ := dl_some e
        exact k0 b o (fun z => hb (by rw [z]; unfold DL; simp)) e
      refine ⟨.ref HD, rfl, .inl ⟨rfl, _, SqL.of kHa⟩, ?_⟩
      refine args_of (args_of (var_of rfl (args_of ?_)))
      refine args_of (var_of rfl (args_of (ixP (j := 0) rfl htpa rfl (args_of (ixP (j := 1) rfl htpa rfl (args_of (ixP (j := 2) rfl htpa rfl (args_end ?_))))))))
      intro x dx hx hdx hne
      have sx1 := same_upd (o := .own x) hdx
      have hx2 : upd Ga dx (.own x) x = none := by rw [upd_ne (Ne.symm hne)]; exact hx
      have sx := sx1.trans (same_upd (o := .ins (He.ga K "Pair") dx []) hx2)
      have edx : upd (upd Ga dx (.own x)) x (.ins (He.ga K "Pair") dx []) dx = some (.own x) := by rw [upd_ne hne]; exact upd_same
      have hal' : alphaD (.str al) = true := menu_right al hal
      have due := tabs_due hal' ok (by omega)
      refine ⟨x, dx, .str al, vl, vr, vm, .str al, rowsD lt, rowsD rt, .list (trs.map encTri), rfl, upd_same, edx, hne, .str al, (rl.same sR).same sx, (rr.same sR).same sx, (rm.same sR).same sx, small_tabs m8 ok (by omega), fun H' _ dx' _ => by rw [due]; trivial, fun _ H' sX pa pok => ⟨rfl, ?_⟩⟩
      rw [pairD_tabs] at pa pok
      have k1 : ∀ b o, Ga b = some o → H' b = some o := fun b o e => sX b o (fun z => by rw [z, hx] at e; cases e) (sx _ _ e)
      refine args_end ⟨by show 2 ≤ sizeLine; decide, fun c hc => args_end ?_⟩
      have kHc := k1 _ _ kHa
      have sC := same_upd (o := .lst [.str z, .ref x]) hc
      refine ⟨HD, _, _, rfl, rfl, sC _ _ kHc, by rw [List.length_map]; exact Nat.lt_of_le_of_lt (by omega : _ ≤ 20) (by decide), ?_⟩
      have ncH : c ≠ HD := fun e => by rw [e, kHc] at hc; cases hc
      have k2 : ∀ b o, b ≠ HD → H' b = some o → upd (upd H' c (.lst [.str z, .ref x])) HD (.lst (hd.map V.ref ++ [.ref c])) b = some o := fun b o h e => by rw [upd_ne h]; exact sC _ _ e
      have eC : upd (upd H' c (.lst [.str z, .ref x])) HD (.lst (hd.map V.ref ++ [.ref c])) c = some (.lst [.str z, .ref x]) := by rw [upd_ne ncH]; exact upd_same
      have eHD : upd (upd H' c (.lst [.str z, .ref x])) HD (.lst (hd.map V.ref ++ [.ref c])) HD = some (.lst (hd.map V.ref ++ [.ref c])) := upd_same
      have fm : Firm H' (upd (upd H' c (.lst [.str z, .ref x])) HD (.lst (hd.map V.ref ++ [.ref c]))) := (Same.firm sC).trans (firm_upd (sC _ _ kHc) rfl)
      revert k2 eC eHD fm
      generalize upd (upd H' c (.lst [.str z, .ref x])) HD (.lst (hd.map V.ref ++ [.ref c])) = Gd
      intro k2 eC eHD fm
      have all : ∀ b o, b ≠ LS → b ≠ HD → G1 b = some o → Gd b = some o := fun b o h1 h2 e => k2 b o h2 (k1 b o (k0 b o h1 e))
      have all0 : ∀ b o, b ≠ LS → b ≠ HD → b ≠ a → G b = some o → Gd b = some o := fun b o h1 h2 h3 e => all b o h1 h2 (by
        have := g1.sm b o (by rw [del_ne h3]; exact e)
        rwa [del_ne h3] at this)
      have srcd : SrcAt Gd a := by
        obtain ⟨A, S, C, e⟩ := g1.src
        exact ⟨A, S, C, all a _ (Ne.symm nLa) (Ne.symm nHa) e⟩
      have hc0 : G c = none := by
        cases e : G c with
        | none => rfl
        | some o =>
          exfalso
          have key : ∀ o', G1 c = some o' → c ≠ LS → False := fun o' e h => by
            rw [k1 _ _ (k0 c o' h e)] at hc
            cases hc
          by_cases h1 : c = LS
          · rw [h1, k1 _ _ eLS2] at hc; cases hc
          · by_cases h3 : c = a
            · obtain ⟨A, S, C, e⟩ := g1.src
              exact key _ (h3 ▸ e) h1
            · have := g1.sm c o (by rw [del_ne h3]; exact e)
              rw [del_ne h3] at this
              exact key o this h1
      have nLSH : LS ≠ HD := Ne.symm nHL
      have dN := d.push (c := c) (tt := tt) (w := ⟨z, x, ⟨al, ixF al, lt, rt, trs⟩⟩) (t := .ref tp) srcd all0 hc0 (by rw [List.map_append]; exact eHD) (by rw [List.map_append]; exact k2 _ _ nLSH (k1 _ _ eLS2)) eC (pa.firm fm) (by
        have nTH : tt ≠ HD := fun e => by rw [e, kHa] at eTT2; cases eTT2
        have cb : ∀ b o, H' b = some o → b ≠ c := fun b o e z => by rw [z, hc] at e; cases e
        have sF : Same (dl (DL LS HD a hd) G1) (dl (DL LS HD a (hd ++ [c])) Gd) := fun b o e => by
          obtain ⟨hb, e⟩ := dl_some e
          unfold DL at hb
          simp only [List.mem_cons, not_or] at hb
          rw [dl_at]
          · exact all b o hb.1 hb.2.1 e
          · unfold DL
            simp only [List.mem_cons, not_or, List.mem_append, List.not_mem_nil, or_false]
            exact ⟨hb.1, hb.2.1, hb.2.2.1, hb.2.2.2, cb b o (k1 b o (k0 b o hb.1 e))⟩
        refine ⟨.ref tp, ?_, rp.same sF⟩
        rw [dl_at]
        · exact k2 _ _ nTH (k1 _ _ eTT2)
        · have tnew := hdl.new htt
          unfold DL at tnew ⊢
          simp only [List.mem_cons, not_or, List.mem_append, List.not_mem_nil, or_false] at tnew ⊢
          exact ⟨tnew.1, tnew.2.1, tnew.2.2.1, tnew.2.2.2, cb tt _ (k1 _ _ eTT2)⟩) ⟨pok, rfl, rfl⟩
      refine ⟨_, _, hd ++ [c], ls ++ [tt], ws ++ [_], rfl, dN, by rw [List.map_append, hw, take_sn hz]; rfl, ⟨srcd, fun b o e => ?_⟩, all _ _ nqL nqH kq, fun c' hc' => ?_⟩
      case refine_2 =>
        rcases List.mem_append.mp hc' with h | h
        · exact hnew c' h
        · rw [List.mem_singleton.mp h]
          exact f.none (src_ne d.src hc0) hc0
      have hba : b ≠ a := fun z => by rw [z, del_same] at e; cases e
      rw [del_ne hba] at e ⊢
      have e1 := (f.trans g1).sm b o (by rw [del_ne hba]; exact e)
      rw [del_ne hba] at e1
      exact all b o (fun z => by rw [z, hLS] at e; cases e) (fun z => by rw [z, none_upd hHD] at e; cases e) e1
    · rintro σ G ⟨v6, v7, hd, ls, ws, rfl, d, hw, f, hq, hnew⟩
      rw [List.take_of_length_le (by rw [List.length_map]; exact Nat.le_refl _)] at hw
      have hnd : (ws.map (·.nm)).Nodup := by rw [hw, ← hzs']; exact hzs.1.sublist (List.take_sublist _ _)
      have hnm : ∀ w ∈ ws, NameOk w.nm := fun w h => hzs.2 _ (by
        have : w.nm ∈ ws.map (·.nm) := List.mem_map.mpr ⟨w, h, rfl⟩
        rw [hw, ← hzs'] at this
        exact List.mem_of_mem_take this)
      have hwl : ws.length ≤ 20 := by
        have := congrArg List.length hw
        rw [List.length_map, ← hzs', List.length_take] at this
        omega
      have wok : WsOk al ws := ⟨hwl, hnd, fun w h => ⟨hnm w h, (d.ok w h).1, (d.ok w h).2.1⟩⟩
      have hal' : alphaD (.str al) = true := menu_right al hal
      dsimp only
      refine asg_set ?_
      refine args_of (var_of rfl (args_of (var_of rfl (args_of (var_of rfl (args_end ?_))))))
      intro x dx hx hdx hne
      have sx1 := same_upd (o := .own x) hdx
      have hx2 : upd G dx (.own x) x = none := by rw [upd_ne (Ne.symm hne)]; exact hx
      have sx := sx1.trans (same_upd (o := .ins (He.ga K "Desk") dx []) hx2)
      have edx : upd (upd G dx (.own x)) x (.ins (He.ga K "Desk") dx []) dx = some (.own x) := by rw [upd_ne hne]; exact upd_same
      refine ⟨x, dx, al, y, HD, ws, rfl, upd_same, edx, hne, hal', hy, by omega, ⟨hd, sx _ _ d.h, d.hdl, fun i c w e1 e2 => ⟨sx _ _ (d.he i c w e1 e2).1, (d.he i c w e1 e2).2.same sx⟩⟩, wok, fun H' t k W sX hk dk st => ⟨rfl, ?_⟩⟩
      have k1 : ∀ b o, G b = some o → H' b = some o := fun b o e => sX b o (fun z => by rw [z, hx] at e; cases e) (sx _ _ e)
      rintro σ8 rfl
      have eHD := k1 _ _ d.h
      have hdn : HD ∉ hd := fun z => by
        obtain ⟨i, hi⟩ := List.mem_iff_getElem?.mp z
        have hlt := (List.getElem?_eq_some_iff.mp hi).1
        have hh := d.hdl
        have e2 := List.getElem?_eq_getElem (show i < ws.length by omega)
        have g1 := (d.he i HD _ hi e2).1
        rw [d.h] at g1
        injection g1 with g1
        injection g1 with g1
        exact refs_str g1.symm
      have hde : ∀ c ∈ hd, ∃ nm p, H' c = some (.lst [.str nm, .ref p]) := fun c z => by
        obtain ⟨i, hi⟩ := List.mem_iff_getElem?.mp z
        have hlt := (List.getElem?_eq_some_iff.mp hi).1
        have hh := d.hdl
        have e2 := List.getElem?_eq_getElem (show i < ws.length by omega)
        exact ⟨_, _, k1 _ _ (d.he i c _ hi e2).1⟩
      refine ⟨.ref HD, rfl, HD, rfl, ⟨_, SqL.of eHD⟩, ?_⟩
      refine for_it walk_list (fun i σ G' => ∃ v9, σ = [some (.ref a), some (.ref ns), some (.str al), some (.str y), some (.ref LS), some (.ref HD), v6, v7, some (.ref x), v9, none, none] ∧ (∀ b o, b ∉ hd → H' b = some o → G' b = some o) ∧ ∀ c ∈ hd, ∃ u v, G' c = some (.lst [u, v])) ⟨none, rfl, fun b o _ e => e, fun c hc => by
        obtain ⟨nm, p, e⟩ := hde c hc
        exact ⟨_, _, e⟩⟩ (fun _ _ _ _ ⟨_, _, h, _⟩ => SqL.of (h _ _ hdn eHD)) ?_ ?_
      · rintro i x9 σ Ga Gb hi ⟨v9, rfl, ka, kb⟩ ⟨eG, hx9⟩
        replace eG := eG.symm
        subst eG
        rw [List.getElem?_map] at hx9
        obtain ⟨c, hc, rfl⟩ := Option.map_eq_some_iff.mp hx9
        have hcm := List.mem_of_getElem? hc
        obtain ⟨u, v, ec⟩ := kb c hcm
        refine ⟨.ref c, rfl, c, _, 0, 0, rfl, rfl, ec, rfl, ⟨_, rfl, fun b o hb e => ?_, fun c' hc' => ?_⟩⟩
        · rw [upd_ne (show b ≠ c from fun z => hb (z ▸ hcm))]
          exact ka b o hb e
        · by_cases hcc : c' = c
          · subst hcc
            exact ⟨_, _, upd_same⟩
          · rw [upd_ne hcc]
            exact kb c' hc'
      rintro σ G8 ⟨v9, rfl, ka, kb⟩
      have eHD8 := ka _ _ hdn eHD
      have hdl20 : hd.length ≤ 20 := by rw [d.hdl]; exact hwl
      refine ⟨.ref HD, rfl, .inl ⟨rfl, _, SqL.of eHD8⟩, args_of (c_of (args_end ⟨HD, _, _, rfl, rfl, eHD8, by rw [List.length_map]; exact Nat.lt_of_le_of_lt hdl20 (by decide), ?_⟩))⟩
      have kc : ∀ b o, b ∉ hd → b ≠ HD → H' b = some o → upd G8 HD (.lst (hd.map V.ref ++ [V.non])) b = some o := fun b o h1 h2 e => by rw [upd_ne h2]; exact ka b o h1 e
      have kcn : ∀ b, upd G8 HD (.lst (hd.map V.ref ++ [V.non])) b = none → H' b = none := fun b hb => by
        cases e : H' b with
        | none => rfl
        | some o =>
          exfalso
          by_cases h1 : b ∈ hd
          · obtain ⟨u, v, e2⟩ := kb b h1
            rw [upd_ne (show b ≠ HD from fun z => hdn (z ▸ h1)), e2] at hb
            cases hb
          · by_cases h2 : b = HD
            · rw [h2, upd_same] at hb; cases hb
            · rw [kc b o h1 h2 e] at hb; cases hb
      revert kc kcn
      generalize upd G8 HD (.lst (hd.map V.ref ++ [V.non])) = G9
      intro kc kcn
      dsimp only
      refine asg_set ?_
      intro p hp
      have sp := same_upd (o := .dK []) hp
      refine c_of (var_of rfl (c_of (var_of rfl (c_of ?_))))
      unfold tLc iRng1
      have hy2 := hy.1
      refine args_of (lenS rfl (by omega) (args_end ⟨(y.length : Nat), rfl, (by omega), (by omega), fun tg htg => ?_⟩))
      have en : ((y.length : Nat) : Int).toNat = y.length := by omega
      rw [en]
      refine lc_new (walk_range (n := y.length)) htg (Nat.le_trans hy2 (by decide)) (fun (i : Nat) _ v => v = V.int (i : Nat)) (fun _ _ _ _ _ h => h) (fun _ _ => trivial) (fun i x9 Ga Gb Qk hi s9 hyy hkk => ?_) (fun G10 acc s10 hG10 hla hacc => ?_)
      · obtain ⟨eG, ex⟩ := hyy
        replace eG := eG.symm
        subst eG
        have ex : x9 = V.int (i : Nat) := ex.trans (by show V.int (0 + _) = _; rw [Int.zero_add])
        subst ex
        exact ⟨wipe1 _ 11 _, var_of rfl (hkk _ _ (Same.refl _) rfl)⟩
      have eacc : acc = (List.range y.length).map fun k => V.int (k : Nat) := by
        refine List.ext_getElem? fun i => ?_
        by_cases hi : i < acc.length
        · have e := List.getElem?_eq_getElem hi
          rw [e, hacc i _ e, List.getElem?_map, List.getElem?_range (by omega)]
          rfl
        · rw [List.getElem?_eq_none (by omega), List.getElem?_eq_none (by rw [List.length_map, List.length_range]; omega)]
      subst eacc
      refine c_of (c_of (c_of ⟨by show 0 ≤ sizeLine; decide, fun lg hlg => ?_⟩))
      have s11 := same_upd (o := .lst []) hlg
      have hp10 := s10 _ _ (upd_same (H := G9) (a := p) (o := .dK []))
      have hp11 := s11 _ _ hp10
      have etg := s11 _ _ hG10
      have elg : upd G10 lg (.lst []) lg = some (.lst []) := upd_same
      have s91 : Same G9 (upd G10 lg (.lst [])) := sp.trans (s10.trans s11)
      have ntp : tg ≠ p := fun z => by rw [z, upd_same] at htg; cases htg
      have nlp : lg ≠ p := fun z => by rw [z, hp10] at hlg; cases hlg
      have ntg9 : G9 tg = none := none_upd htg
      have nlg9 : G9 lg = none := none_of (sp.trans s10) hlg
      revert hp11 etg elg s91
      generalize upd G10 lg (.lst []) = G11
      intro hp11 etg elg s91
      refine ⟨hp11, [(Sum.inr "alphabet", .str al), (Sum.inr "row", .str y), (Sum.inr "tags", .ref tg), (Sum.inr "fresh", .int 200), (Sum.inr "log", .ref lg)], rfl, by show 5 ≤ 15; decide, ?_⟩
      rintro σ10 rfl
      generalize hkv : mergeK [] [((Sum.inr "alphabet" : L2.Key), V.str al), (Sum.inr "row", .str y), (Sum.inr "tags", .ref tg), (Sum.inr "fresh", .int 200), (Sum.inr "log", .ref lg)] = kv
      have hkl : kv.length ≤ 9 := by rw [← hkv]; exact (by decide : 5 ≤ 9)
      refine ⟨.ref LS, rfl, .ref p, rfl, p, _, rfl, .inl ⟨kv, Sum.inr "listed", upd_same, rfl, Nat.lt_of_le_of_lt hkl (by decide), rfl⟩, ?_⟩
      dsimp only
      refine ret_te (args_of (var_of rfl (args_of (var_of rfl (args_end ⟨by show 2 ≤ sizeLine; decide, fun t9 ht9 => ?_⟩)))))
      have s99 := same_upd (o := .tup [.ref x, .ref p]) ht9
      have np9 : ∀ {b : Addr} {o : HO}, G9 b = some o → b ≠ p := fun e z => by rw [z, hp] at e; cases e
      have all : ∀ b o, b ∉ hd → b ≠ HD → H' b = some o → upd (upd (upd G11 p (.dK kv)) p (.dK (putK kv (Sum.inr "listed") (.ref LS)))) t9 (.tup [.ref x, .ref p]) b = some o := fun b o h1 h2 e => by
        have e9 := kc b o h1 h2 e
        refine s99 _ _ ?_
        rw [upd_ne (np9 e9), upd_ne (np9 e9)]
        exact s91 _ _ e9
      have etp : upd (upd (upd G11 p (.dK kv)) p (.dK (putK kv (Sum.inr "listed") (.ref LS)))) t9 (.tup [.ref x, .ref p]) p = some (.dK (putK kv (Sum.inr "listed") (.ref LS))) := s99 _ _ upd_same
      have ett : upd (upd (upd G11 p (.dK kv)) p (.dK (putK kv (Sum.inr "listed") (.ref LS)))) t9 (.tup [.ref x, .ref p]) t9 = some (.tup [.ref x, .ref p]) := upd_same
      have etg' : upd (upd (upd G11 p (.dK kv)) p (.dK (putK kv (Sum.inr "listed") (.ref LS)))) t9 (.tup [.ref x, .ref p]) tg = some (.lst ((List.range y.length).map fun k => V.int (k : Nat))) := s99 _ _ (by rw [upd_ne ntp, upd_ne ntp]; exact etg)
      have elg' : upd (upd (upd G11 p (.dK kv)) p (.dK (putK kv (Sum.inr "listed") (.ref LS)))) t9 (.tup [.ref x, .ref p]) lg = some (.lst []) := s99 _ _ (by rw [upd_ne nlp, upd_ne nlp]; exact elg)
      revert all etp ett etg' elg'
      generalize upd (upd (upd G11 p (.dK kv)) p (.dK (putK kv (Sum.inr "listed") (.ref LS)))) t9 (.tup [.ref x, .ref p]) = Hf
      intro all etp ett etg' elg'
      have nlst : ∀ c ∈ hd, ∀ o, H' c = some o → ∃ nm p, o = .lst [.str nm, .ref p] := fun c hc o e => by
        obtain ⟨nm, p, e2⟩ := hde c hc
        rw [e2] at e
        exact ⟨nm, p, (Option.some.inj e).symm⟩
      have fmf : Firm H' Hf := fun b o fo e => all b o (fun z => by
        obtain ⟨nm, p, rfl⟩ := nlst b z o e
        cases fo) (fun z => by rw [z, eHD] at e; cases e; cases fo) e
      obtain ⟨dk', v', ek⟩ := st.top
      have hah : a ∉ hd := fun z => by
        obtain ⟨A, S, C, e2⟩ := d.src
        obtain ⟨nm, p, e⟩ := nlst a z _ (k1 _ _ e2)
        unfold three at e
        injection e with e
        exact absurd (List.cons.inj e).1 (by intro e; cases e)
      have srcf : SrcAt Hf a := by
        obtain ⟨A, S, C, e2⟩ := d.src
        exact ⟨A, S, C, all a _ hah (Ne.symm nHa) (k1 _ _ e2)⟩
      have nSh : LS ∉ hd := fun z => by
        obtain ⟨nm, p, e⟩ := nlst LS z _ (k1 _ _ d.l)
        injection e with e
        exact refs_str e.symm
      have eLS := all LS _ nSh (Ne.symm nHL) (k1 _ _ d.l)
      have ff : Fra a G3 Hf := ⟨srcf, fun b o e => by
        have hba : b ≠ a := fun z => by rw [z, del_same] at e; cases e
        rw [del_ne hba] at e ⊢
        have e1 := f.sm b o (by rw [del_ne hba]; exact e)
        rw [del_ne hba] at e1
        exact all b o (fun z => by rw [hnew b z] at e; cases e) (fun z => by rw [z, none_upd hHD] at e; cases e) (k1 _ _ e1)⟩
      have k1s : Same G H' := k1
      have gn : ∀ b, G b = none → H b = none := fun b e => (f3.trans f).none (src_ne d.src e) e
      have na9 : ∀ b, G9 b = none → b ≠ a := fun b e z => by
        obtain ⟨A, S, C, e2⟩ := d.src
        rw [z, kc a _ hah (Ne.symm nHa) (k1 _ _ e2)] at e
        cases e
      have va : ∀ (key : Str) (v : V), valV kv (Sum.inr key) = some v → key ≠ "listed" → valV (putK kv (Sum.inr "listed") (.ref LS)) (Sum.inr key) = some v := fun key v h n => by
        rw [valV_put, if_neg (fun z => n (Sum.inr.inj z))]
        exact h
      refine q Hf t9 ⟨x, t, k, W, al, ws⟩ p _ y (f3.trans ff) ett (dk.firm fmf) (st.firm fmf fun o e => ?_) (gn k (none_of sx hk)) etp (gn p (none_of k1s (kcn p hp))) ⟨va "alphabet" _ (by rw [← hkv]; rfl) (by decide +kernel), va "row" _ (by rw [← hkv]; rfl) (by decide +kernel), ⟨tg, va "tags" _ (by rw [← hkv]; rfl) (by decide +kernel), lt_lst (na9 tg ntg9) etg'⟩, va "fresh" _ (by rw [← hkv]; rfl) (by decide +kernel), ⟨lg, va "log" _ (by rw [← hkv]; rfl) (by decide +kernel), [], lt_lst (na9 lg nlg9) elg', rfl, fun i c d e => by simp at e⟩, ⟨LS, by rw [valV_put, if_pos rfl], ls, lt_lst (Ne.symm (fun z => nLa z.symm)) eLS, d.lsl, fun i c w e1 e2 => ((d.le i c w e1 e2).lt (dl_in (by unfold DL; simp))).same (lt_mk fun b o hb _ e => ?_)⟩, Nat.le_trans (putK_le _ _ _) (by omega)⟩ ⟨wok, fun w h => (d.ok w h).2.2⟩ hal hy
      · rw [ek] at e
        cases e
        exact all k _ (fun z => by obtain ⟨nm, p, e⟩ := nlst k z _ ek; cases e) (fun z => by rw [z, eHD] at ek; cases ek) ek
      · obtain ⟨hb2, e⟩ := dl_some e
        unfold DL at hb2
        simp only [List.mem_cons, not_or] at hb2
        exact all b o hb2.2.2.2 hb2.2.1 (k1 _ _ e)
end
end Kx
set_option Elab.async false
set_option linter.all false
set_option maxRecDepth 100000
set_option maxHeartbeats 4000000
namespace Kx
open PySem PySem.Spec PyProof.Rows L2
def logD (ds : List Dd) : PyData := .tuple (ds.map Dd.d)
theorem refs_rt {H : Hp} {ds : List Dd} {cs : List Addr} (hl : cs.length = ds.length) (h : ∀ (i : Nat) c d, cs[i]? = some c → ds[i]? = some d → H c = some (.tup d.vs)) : RtL H (cs.map V.ref) (ds.map Dd.d) := by
  induction cs generalizing ds with
  | nil => cases ds with
    | nil => exact .nil
    | cons d ds => cases hl
  | cons c cs ih => cases ds with
    | nil => cases hl
    | cons d ds => exact .cons (d.rt (h 0 c d rfl rfl)) (ih (Nat.succ.inj hl) fun i c' d' e1 e2 => h (i + 1) c' d' (by simpa using e1) (by simpa using e2))
theorem LogAt.rt {H : Hp} {v : V} {ds : List Dd} (h : LogAt H v ds) : Rt H v (logD ds) := by
  obtain ⟨a, cs, rfl, h1, h2, h3⟩ := h
  exact .tup h1 (refs_rt h2 h3)
theorem dd_alk (d : Dd) : alk 2 d.d = true := by cases d <;> rfl
theorem log_alk {ds : List Dd} (h : ds.length ≤ 5000) : alk 3 (logD ds) = true := by
  show (decide ((ds.map Dd.d).length ≤ 5000) && (ds.map Dd.d).all (alk 2)) = true
  rw [Bool.and_eq_true, decide_eq_true_eq, List.all_map]
  exact ⟨by rw [List.length_map]; exact h, List.all_eq_true.mpr fun d _ => dd_alk d⟩
def strsD (zs : List Str) : PyData := .tuple (zs.map .str)
theorem strs_rt {H : Hp} {a : Addr} {zs : List Str} (h : H a = some (.tup (zs.map V.str))) : Rt H (.ref a) (strsD zs) := by
  refine .tup h ?_
  clear h
  induction zs with
  | nil => exact .nil
  | cons z zs ih => exact .cons (.str z) ih
theorem strs_alk {zs : List Str} (h : zs.length ≤ 5000) : alk 3 (strsD zs) = true := by
  show (decide ((zs.map PyData.str).length ≤ 5000) && (zs.map PyData.str).all (alk 2)) = true
  rw [Bool.and_eq_true, decide_eq_true_eq, List.all_map]
  exact ⟨by rw [List.length_map]; exact h, List.all_eq_true.mpr fun d _ => rfl⟩
theorem prop_of {K : PySem.W.Frag} {mg : Str → Option Value} (T : Txt K mg) {f : Str} (h : (("Desk" : Str), f) ∈ propl) : PropOf K (He.ga K "Desk") f (He.ma K (He.ga K "Desk") f) (geA "Desk" f K) := by
  have e := T.ex
  unfold extra ownB at e
  simp only [Bool.and_eq_true] at e
  exact prop_ok (List.all_eq_true.mp e.2.2.2.2.2.1 _ h)
theorem menu_nodup : ∀ al ∈ menuA, al.cps.toList.Nodup := by decide +kernel
theorem menu_abc : ∀ al ∈ menuA, ∀ c ∈ al.cps.toList, c < 0x110000 := by decide +kernel
theorem or_s {tA tB : TT} {σ : L2.St} {H : Hp} {R : Bool → Hp → Prop} (hA : ∀ R' : Bool → Hp → Prop, (∀ G, Same H G → R' false G) → tA σ H R') (hB : ∀ (H1 : Hp) (R' : Bool → Hp → Prop), Same H H1 → (∀ G, Same H1 G → R' false G) → tB σ H1 R') (q : ∀ G, Same H G → R false G) : tOr tA tB σ H R :=
  hA _ fun G s => iteF (hB G _ s fun G' s' => q G' (s.trans s'))
section
variable {P : Program} {w : World} {K : PySem.W.Frag} {mg : Str → Option Value} {base : Heap}
def sp_law_same (K : PySem.W.Frag) : Sp := fun vs H Q _ => ∃ (D : DkD) (o : Addr) (kvs : List (L2.Key × V)) (y : Str) (tags : List Nat) (fr : Nat) (ds : List Dd), vs = [.ref D.x, .ref o] ∧ DkAt K H D ∧ StAt K H D.k y ds ∧ H o = some (.dK kvs) ∧ OwnV H kvs D.al y tags fr ds D.ws ∧ WsT D.al D.ws ∧ D.al ∈ menuA ∧ over D.al 200 y ∧ ds.length ≤ 1000 ∧ ∀ H', Same H H' → Q (.bl true) H'
theorem ok_law_same (T : Txt K mg) : Cal P w K mg base CX0 8 "_law_same" ["_law_desk_here", "_law_own"] (sp_law_same K) := by
  obtain ⟨fd, F⟩ := F__law_same T
  obtain ⟨fdL, FL⟩ := F_Desk_live T
  have bL : Binds K fdL ["self"] [] := FL.bindsN fun _ _ _ _ _ _ us hl => match us, hl with | [_], _ => rfl
  obtain ⟨fdN, FN⟩ := F_Desk_mark_names T
  have bN : Binds K fdN ["self"] [] := FN.bindsN fun _ _ _ _ _ _ us hl => match us, hl with | [_], _ => rfl
  obtain ⟨fdO, FO⟩ := F_Desk_log T
  have bO : Binds K fdO ["self"] [] := FO.bindsN fun _ _ _ _ _ _ us hl => match us, hl with | [_], _ => rfl
  obtain ⟨fdA, FA⟩ := F_Desk_marks T
  have bA : Binds K fdA ["self", "name"] [] := FA.bindsN fun _ _ _ _ _ _ us hl => match us, hl with | [_, _], _ => rfl
  refine cal_mk F (g__law_same T) sc__law_same (fun _ _ _ _ _ _ us hl => match us, hl with | [_, _], _ => rfl) (fun vs H Q E h => ?_) (fun cdv A outer s H vs Q E hr h => ?_)
  · obtain ⟨D, o, kvs, y, tags, fr, ds, rfl, _⟩ := h; rfl
  · refine ⟨_, PSs.nox (pss_cons (ps_if (PW.pt (pw_or (pt_not (pt_val (pe_cal (ok_law_alike T 3) (hr.mono (by decide)) pass0 (pa_cons (pe_prop (E := E0) (pv 0) (cls_Desk T) (prop_of T (f := "live") (by decide)) (ok_live T FL) (hr.mono (by decide)) bL .nil passN0 rfl) (pa_cons (pe_dget (hu1 hr) (pv 1) pe_str (fun _ _ => rfl)) pa_nil))))) (pw_or1 (pt_not (pt_val (pe_cal (ok_law_alike T 3) (hr.mono (by decide)) pass0 (pa_cons (pe_prop (E := E0) (pv 0) (cls_Desk T) (prop_of T (f := "log") (by decide)) (ok_log T FO) (hr.mono (by decide)) bO .nil passN0 rfl) (pa_cons (pe_callTy call_tuple_of (by rfl) (fr_tuple T) b_tuple (pa_cons (pe_dget (hu1 hr) (pv 1) pe_str (fun _ _ => rfl)) pa_nil)) pa_nil)))))))) (pss_one (ps_ret pe_bl)) pss_nil)
        (pss_cons (ps_if (PW.pt (pw_or (pt_cmpR op_ne (pe_fld (pv 0) rfl) (pe_dget (hu1 hr) (pv 1) pe_str (fun _ _ => rfl)) (nomark _)) (pw_or1 (pt_not (pt_val (pe_cal (ok_law_alike T 3) (hr.mono (by decide)) pass0 (pa_cons (pe_prop (E := E0) (pv 0) (cls_Desk T) (prop_of T (f := "mark_names") (by decide)) (ok_mark_names T FN) (hr.mono (by decide)) bN .nil passN0 rfl) (pa_cons (pe_callTy call_tuple_of (by rfl) (fr_tuple T) b_tuple (pa_cons (pe_lc (te := tOp (rIxT K) (tVar 5) (tC (.int 0))) (own := [("_law_one", 5)]) (g := (gName 5)) (tt := tYes) rfl sc__law_same.nd  (pi_list (pe_dget (hu1 hr) (pv 1) pe_str (fun _ _ => rfl))) (blkOk_by (N := N__law_same) (sc := defScope s__law_same) (by decide +kernel)) (fun _ _ _ _ _ => (pg_name (i := 5) sc__law_same.nd rfl (Or.inl rfl))) (fun _ _ _ _ _ => pts_nil) (fun _ _ _ _ _ => by refine pe_ix (r := rIxT K) ?_ (pv 5) pe_int (fun _ _ => rfl); exact ix_tup)) pa_nil)) pa_nil)))))))) (pss_one (ps_ret pe_bl)) pss_nil)
        (pss_cons (ps_for PassesOwn.never rfl (pi_list (pe_dget (hu1 hr) (pv 1) pe_str (fun _ _ => rfl))) (pg_tup rfl (pgs_cons (pg_name (i := 2) sc__law_same.nd rfl (Or.inl rfl)) (pgs_cons (pg_name (i := 3) sc__law_same.nd rfl (Or.inl rfl)) pgs_nil))) (pss_cons (ps_set (i := 4) sc__law_same.nd rfl (Or.inl rfl) (pe_meth (pl := _) (E := E0) (pv 0) (cls_Desk T) (meth_marks T) (ok_marks T FA) (hr.mono (by decide)) bA .nil passN0 (pa_cons (pv 2) pa_nil)))
        (pss_one (ps_if (PW.pt (pw_or (pt_not (pt_val (pe_cal (ok_law_bools T) (hr.mono (by decide)) pass0 (pa_cons (pv 4) (pa_cons (pe_callB call_len (by rfl) (fr_len T) boot_len (pa_cons (pe_dget (hu1 hr) (pv 1) pe_str (fun _ _ => rfl)) pa_nil)) pa_nil))))) (pw_or1 (pt_cmpR (op_neD (hu64 hr)) (pe_callTy call_list_of (by rfl) (fr_list T) b_list (pa_cons (pv 4) pa_nil)) (pe_cal (ok_law_line T) (hr.mono (by decide)) pass0 (pa_cons (pe_dget (hu1 hr) (pv 1) pe_str (fun _ _ => rfl)) (pa_cons (pv 3) (pa_cons (pe_dget (hu1 hr) (pv 1) pe_str (fun _ _ => rfl)) pa_nil)))) (nomark _))))) (pss_one (ps_ret pe_bl)) pss_nil))))
        (pss_one (ps_ret pe_bl))))), ?_⟩
    obtain ⟨D, o, kvs, y, tags, fr, ds, rfl, hD, hst, ho, hv, ok, hal, hy, hds, q⟩ := h
    obtain ⟨dx, dt, h1, h2⟩ := id hD
    obtain ⟨lg, v1, lcs, v2, v3, v4⟩ := hv.log
    obtain ⟨ls, u1, scs, u2, u3, u4⟩ := hv.listed
    refine seq_if (or_s (fun R k => test_not (test_val (call_of (args_of ⟨.ref D.x, rfl, D.x, dx, _, rfl, h1, D, y, ds, rfl, hD, hst, args_of (own_get rfl ho hv.row (args_end ⟨.str y, .str y, .str y, rfl, .str y, .str y, rfl, fun H' s' => ⟨true, rfl, k H' s'⟩⟩))⟩)))) (fun G R s k => test_not (test_val (call_of (args_of ⟨.ref D.x, rfl, D.x, dx, _, rfl, s _ _ h1, D, y, ds, rfl, hD.same s, hst.same s, fun v hv' => args_of (cb_of (args_of (own_get rfl (s _ _ ho) v1 (args_end ⟨lg, _, rfl, .inl ⟨SqL.of (s _ _ v2), fun l hl => args_end ?_⟩⟩))))⟩)))) fun G1 s1 => iteF (go_next ?_))
    · have sl := same_upd (o := .tup (lcs.map V.ref)) hl
      exact ⟨v, .ref l, logD ds, rfl, hv'.rt.tups (Same.tups sl), .tup upd_same (refs_rt v3 fun i c d e1 e2 => sl _ _ (s _ _ (v4 i c d e1 e2))), log_alk (by omega), fun H' s' => ⟨true, rfl, k H' (sl.trans s')⟩⟩
    dsimp only
    refine seq_if (or_s (fun R k => test_op ⟨.ref D.x, rfl, D.x, _, dx, _, _, rfl, s1 _ _ h1, cls_Desk T, noat_Desk_alphabet T, rfl, own_get rfl (s1 _ _ ho) hv.al ⟨rfl, _, rfl, ?_⟩⟩) (fun G R s k => test_not (test_val (call_of (args_of ⟨.ref D.x, rfl, D.x, dx, _, rfl, (s1.trans s) _ _ h1, D, rfl, hD.same (s1.trans s), ok.ok.le, fun G2 n s2 hn => args_of (cb_of (args_of ?_))⟩)))) fun G2 s2 => iteF (go_next ?_))
    · rw [show (!decide (V.str D.al = V.str D.al)) = false by rw [decide_eq_true rfl]; rfl]
      exact k G1 (Same.refl _)
    · have sa := (s1.trans s).trans s2
      unfold tLc iList
      refine own_get rfl (sa _ _ ho) u1 ⟨ls, rfl, ⟨_, SqL.of (sa _ _ u2)⟩, fun Dn hDn => ?_⟩
      have hle := ok.ok.le
      refine lc_new (walk_list (xs := scs.map V.ref)) hDn (by rw [List.length_map, u3]; exact Nat.le_trans hle (by decide)) (fun (i : Nat) _ v => ∀ w, D.ws[i]? = some w → v = V.str w.nm) (fun _ _ _ _ _ h => h) (fun G' s' => SqL.of ((sa.trans s') _ _ u2)) (fun i x9 Ga Gb Qk hi s9 hyy hkk => ?_) (fun G10 acc s10 hG10 hla hacc => ?_)
      · obtain ⟨eG, hx⟩ := hyy
        replace eG := eG.symm
        subst eG
        rw [List.getElem?_map] at hx
        obtain ⟨c, hc, rfl⟩ := Option.map_eq_some_iff.mp hx
        have hi2 := (List.getElem?_eq_some_iff.mp hc).1
        have ew := List.getElem?_eq_getElem (show i < D.ws.length by omega)
        obtain ⟨t, g1, g2⟩ := u4 i c _ hc ew
        exact ⟨wipe1 _ 5 _, ixP (j := 0) rfl ((sa.trans s9) _ _ g1) rfl (hkk _ _ (Same.refl _) fun w e => by rw [ew] at e; cases e; rfl)⟩
      · have ea : acc = (D.ws.map (·.nm)).map V.str := by
          refine List.ext_getElem? fun i => ?_
          rw [List.length_map, u3] at hla
          by_cases hi : i < acc.length
          · have e := List.getElem?_eq_getElem hi
            have ew := List.getElem?_eq_getElem (show i < D.ws.length by omega)
            rw [e, hacc i _ e _ ew, List.getElem?_map, List.getElem?_map, ew]
            rfl
          · rw [List.getElem?_eq_none (by omega), List.getElem?_eq_none (by rw [List.length_map, List.length_map]; omega)]
        subst ea
        refine args_end ⟨Dn, _, rfl, .inl ⟨SqL.of hG10, fun l hl => args_end ?_⟩⟩
        have sl := same_upd (o := .tup ((D.ws.map (·.nm)).map V.str)) hl
        have hn' : G2 n = some (.tup ((D.ws.map (·.nm)).map V.str)) := by rw [hn, List.map_map]; rfl
        exact ⟨.ref n, .ref l, strsD (D.ws.map (·.nm)), rfl, strs_rt (sl _ _ (s10 _ _ hn')), strs_rt upd_same, strs_alk (by rw [List.length_map]; omega), fun H' s' => ⟨true, rfl, k H' (s2.trans (s10.trans (sl.trans s')))⟩⟩
    dsimp only
    have s12 := s1.trans s2
    refine own_get rfl (s12 _ _ ho) u1 ⟨ls, rfl, ⟨_, SqL.of (s12 _ _ u2)⟩, ?_⟩
    refine for_it walk_list (fun i σ G => ∃ w2 w3 w4 : Option V, σ = [some (.ref D.x), some (.ref o), w2, w3, w4, none] ∧ Same H G) ⟨none, none, none, rfl, s12⟩ (fun _ _ _ _ ⟨_, _, _, _, h⟩ => SqL.of (h _ _ u2)) ?_ ?_
    · rintro i x9 σ Ga Gb hi ⟨w2, w3, w4, rfl, s9⟩ ⟨eG, hx⟩
      replace eG := eG.symm
      subst eG
      rw [List.getElem?_map] at hx
      obtain ⟨c, hc, rfl⟩ := Option.map_eq_some_iff.mp hx
      have hi2 := (List.getElem?_eq_some_iff.mp hc).1
      have ew := List.getElem?_eq_getElem (show i < D.ws.length by omega)
      obtain ⟨t, g1, g2⟩ := u4 i c _ hc ew
      generalize D.ws[i]'(by omega) = w at ew g1 g2
      have hwm := List.mem_of_getElem? ew
      refine ⟨c, _, rfl, SqT.of (s9 _ _ g1), rfl, _, _, rfl, _, _, rfl, rfl, ?_⟩
      refine asg_set ⟨.ref D.x, rfl, D.x, dx, _, rfl, s9 _ _ h1, rfl, args_of (var_of rfl (args_end ⟨D, w, y, ds, rfl, hD.same s9, hwm, ok.ok, hst.same s9, over_mono hy (by omega), fun G3 r s3 hr' => ?_⟩))⟩
      rintro σ4 rfl
      have s93 := s9.trans s3
      obtain ⟨pok, pal⟩ := (ok.ok.ok w hwm).2
      have hix := ok.ix w hwm
      have hl := marksP_len (D := w.D) (cs := y.cps.toList)
      have ly : y.cps.toList.length = y.length := Array.length_toList
      have hy2 := hy.1
      obtain ⟨ra, rfl, hra⟩ := rt_bools hr'
      refine one_if (or_s (fun R k => test_not (test_val (call_of (args_of (var_of rfl (args_of (cb_of (args_of (own_get rfl (s93 _ _ ho) hv.row (args_end ⟨_, _, rfl, lenV_str (Nat.le_trans hy.1 (by decide)), args_end ⟨.ref ra, y.length, marksP w.D y.cps.toList, rfl, hr', by omega, fun G4 s4 => ⟨true, by rw [decide_eq_true (by omega)], k G4 s4⟩⟩⟩)))))))))) (fun G4 R s4 k => test_op (cb_of (args_of (var_of rfl (args_end ⟨ra, _, rfl, .inr (SqT.of (s4 _ _ hra)), fun l hl' => ?_⟩)))) ) fun G5 s5 => iteF ?_)
      · have sl := same_upd (o := .lst ((marksP w.D y.cps.toList).map V.bl)) hl'
        have s94 := (s93.trans s4).trans sl
        refine call_of (args_of (own_get rfl (s94 _ _ ho) hv.al (args_of (var_of rfl (args_of (own_get rfl (s94 _ _ ho) hv.row (args_end ⟨D.al, t, y, w.D.l, w.D.r, w.D.m, rfl, g2.same s94, pal ▸ pok.l, pal ▸ pok.r, ?_, ?_, ?_, hy.2, by omega, fun G6 p s6 hp0 hp => ?_⟩))))))) 
        · exact menu_nodup _ hal
        · exact menu_abc _ hal
        · rw [← pal]; exact fun t h => (pok.m t h).2.1
        · have eD : (⟨D.al, ixF D.al, w.D.l, w.D.r, w.D.m⟩ : PairD) = w.D := by rw [← pal] at hix ⊢; rw [← hix]
          rw [eD] at hp
          obtain ⟨⟨b1, b2⟩, _⟩ := bls_ok (marksP w.D y.cps.toList)
          refine ⟨_, _, dp_bools (s6 _ _ upd_same), dp_bools hp, b1, b1, _, rfl, ?_⟩
          rw [b2]
          exact k G6 (sl.trans s6)
      · exact ⟨_, _, _, rfl, s93.trans s5⟩
    · rintro σ G ⟨w2, w3, w4, rfl, s9⟩
      dsimp only
      exact ret_te (c_of (q G s9))
end
end Kx
set_option Elab.async false
set_option linter.all false
set_option maxRecDepth 100000
set_option maxHeartbeats 4000000
namespace Kx
open PySem PySem.Spec PyProof.Rows L2
/-! ### the turned marks, told by the new places -/
/-- where a new place's letter stood before -/
def Dd.from : Dd → Nat → Option Nat
  | .put p _, k => if k < p then some k else if k = p then none else some (k - 1)
  | .take p _, k => some (if k < p then k else k + 1)
  | .change _ _ _, k => some k
  | .become _ _, _ => none
theorem kept_iff {d : Dd} {n i k : Nat} : (i, k) ∈ d.kept n ↔ i < n ∧ d.from k = some i := by
  cases d with
  | put p c =>
    dsimp only [Dd.kept, Dd.from]
    rw [List.mem_map]
    constructor
    · rintro ⟨j, hj, e⟩
      have hj := List.mem_range.mp hj
      injection e with e1 e2
      subst e1
      refine ⟨hj, ?_⟩
      by_cases h : p ≤ j
      · rw [if_pos h] at e2
        rw [if_neg (by omega), if_neg (by omega)]
        congr 1
        omega
      · rw [if_neg h] at e2
        rw [if_pos (by omega)]
        congr 1
        omega
    · rintro ⟨h1, h2⟩
      refine ⟨i, List.mem_range.mpr h1, ?_⟩
      by_cases a : k < p
      · rw [if_pos a] at h2
        have := Option.some.inj h2
        rw [if_neg (by omega)]
        congr 1
        omega
      · rw [if_neg a] at h2
        by_cases b : k = p
        · rw [if_pos b] at h2; cases h2
        · rw [if_neg b] at h2
          have := Option.some.inj h2
          rw [if_pos (by omega)]
          congr 1
          omega
  | take p c =>
    dsimp only [Dd.kept, Dd.from]
    rw [List.mem_map]
    constructor
    · rintro ⟨j, hj, e⟩
      obtain ⟨hj, hp⟩ := List.mem_filter.mp hj
      have hj := List.mem_range.mp hj
      have hp : j ≠ p := by simpa using hp
      injection e with e1 e2
      subst e1
      refine ⟨hj, ?_⟩
      congr 1
      by_cases h : p < j
      · rw [if_pos h] at e2
        rw [if_neg (by omega)]
        omega
      · rw [if_neg h] at e2
        rw [if_pos (by omega)]
        omega
    · rintro ⟨h1, h2⟩
      have h2 := Option.some.inj h2
      refine ⟨i, List.mem_filter.mpr ⟨List.mem_range.mpr h1, ?_⟩, ?_⟩
      · have : i ≠ p := by split at h2 <;> omega
        simpa using this
      · congr 1
        by_cases a : k < p
        · rw [if_pos a] at h2
          rw [if_neg (by omega)]
          omega
        · rw [if_neg a] at h2
          rw [if_pos (by omega)]
          omega
  | change p c e =>
    dsimp only [Dd.kept, Dd.from]
    rw [List.mem_map]
    constructor
    · rintro ⟨j, hj, e⟩
      have hj := List.mem_range.mp hj
      injection e with e1 e2
      subst e1
      exact ⟨hj, by rw [e2]⟩
    · rintro ⟨h1, h2⟩
      have h2 := Option.some.inj h2
      exact ⟨i, List.mem_range.mpr h1, by rw [h2]⟩
  | become a z =>
    dsimp only [Dd.kept, Dd.from]
    simp
theorem kept_asc {d : Dd} {n : Nat} : (d.kept n).Pairwise fun p q => p.2 < q.2 := by
  cases d with
  | put p c =>
    unfold Dd.kept
    rw [List.pairwise_map]
    refine List.Pairwise.imp (fun {a b} h => ?_) List.pairwise_lt_range
    dsimp only
    split <;> split <;> omega
  | take p c =>
    unfold Dd.kept
    rw [List.pairwise_map]
    refine List.Pairwise.imp_of_mem (fun {a b} ha hb h => ?_) (List.Pairwise.filter _ List.pairwise_lt_range)
    have ha : a ≠ p := by simpa using (List.mem_filter.mp ha).2
    have hb : b ≠ p := by simpa using (List.mem_filter.mp hb).2
    dsimp only
    split <;> split <;> omega
  | change p c e =>
    unfold Dd.kept
    rw [List.pairwise_map]
    exact List.pairwise_lt_range
  | become a z => exact .nil
def oldAt (d : Dd) (w : Wn) (y z : List Nat) (k : Nat) : Bool := match d.from k with
  | some i => !decide ((marksP w.D y)[i]? = (marksP w.D z)[k]?)
  | none => false
def dueW (d : Dd) (w : Wn) (y z : List Nat) : List NP := ((List.range z.length).filter (oldAt d w y z)).map fun k => (w.nm, k)
theorem turn_mem {d : Dd} {w : Wn} {y z : List Nat} {x : NP} (hz : ∀ i k, i < y.length → d.from k = some i → k < z.length) (hy : ∀ i k, k < z.length → d.from k = some i → i < y.length) : x ∈ turnW w y z (d.kept y.length) ↔ x ∈ dueW d w y z := by
  unfold turnW dueW
  rw [List.mem_map, List.mem_map]
  constructor
  · rintro ⟨⟨i, k⟩, h, rfl⟩
    obtain ⟨h1, h2⟩ := List.mem_filter.mp h
    obtain ⟨h3, h4⟩ := kept_iff.mp h1
    refine ⟨k, List.mem_filter.mpr ⟨List.mem_range.mpr (hz i k h3 h4), ?_⟩, rfl⟩
    unfold oldAt
    rw [h4]
    exact h2
  · rintro ⟨k, h, rfl⟩
    obtain ⟨h1, h2⟩ := List.mem_filter.mp h
    have h1 := List.mem_range.mp h1
    unfold oldAt at h2
    split at h2
    · rename_i i hi
      exact ⟨(i, k), List.mem_filter.mpr ⟨kept_iff.mpr ⟨hy i k h1 hi, hi⟩, h2⟩, rfl⟩
    · cases h2
theorem dueW_asc {d : Dd} {w : Wn} {y z : List Nat} : (dueW d w y z).Pairwise ltN := by
  unfold dueW
  rw [List.pairwise_map]
  exact List.Pairwise.imp (fun {a b} h => Or.inr ⟨rfl, h⟩) (List.Pairwise.filter _ List.pairwise_lt_range)
theorem turnW_nodup {d : Dd} {w : Wn} {y z : List Nat} {n : Nat} : (turnW w y z (d.kept n)).Nodup := by
  unfold turnW
  rw [List.nodup_iff_pairwise_ne, List.pairwise_map]
  exact List.Pairwise.imp (fun {a b} h e => by have := (Prod.mk.inj e).2; omega) (List.Pairwise.filter _ kept_asc)
/-- the law's order is the sorted one -/
theorem due_sorted {d : Dd} {ws vs : List Wn} {y z : List Nat} (hz : ∀ i k, i < y.length → d.from k = some i → k < z.length) (hy : ∀ i k, k < z.length → d.from k = some i → i < y.length) (hn : (ws.map (·.nm)).Nodup) (hp : vs.Perm ws) (ha : (vs.map (·.nm)).Pairwise fun a b => lsS a < lsS b) :
    (turnL ws y z (d.kept y.length)).mergeSort leN = vs.flatMap fun w => dueW d w y z := by
  have hasc : (vs.flatMap fun w => dueW d w y z).Pairwise ltN := by
    rw [List.pairwise_flatMap]
    refine ⟨fun w _ => dueW_asc, ?_⟩
    rw [List.pairwise_map] at ha
    refine List.Pairwise.imp (fun {a b} h p hp q hq => ?_) ha
    unfold dueW at hp hq
    obtain ⟨_, _, rfl⟩ := List.mem_map.mp hp
    obtain ⟨_, _, rfl⟩ := List.mem_map.mp hq
    exact .inl h
  refine sort_isN hasc ?_
  rw [List.perm_ext_iff_of_nodup]
  · intro x
    unfold turnL
    rw [List.mem_flatMap, List.mem_flatMap]
    constructor
    · rintro ⟨w, hw, h⟩
      exact ⟨w, hp.mem_iff.mpr hw, (turn_mem hz hy).mp h⟩
    · rintro ⟨w, hw, h⟩
      exact ⟨w, hp.mem_iff.mp hw, (turn_mem hz hy).mpr h⟩
  · unfold turnL
    rw [List.nodup_iff_pairwise_ne, List.pairwise_flatMap]
    refine ⟨fun w _ => List.nodup_iff_pairwise_ne.mp turnW_nodup, ?_⟩
    rw [List.nodup_iff_pairwise_ne, List.pairwise_map] at hn
    refine List.Pairwise.imp (fun {a b} h p hp q hq e => ?_) hn
    unfold turnW at hp hq
    obtain ⟨_, _, rfl⟩ := List.mem_map.mp hp
    obtain ⟨_, _, rfl⟩ := List.mem_map.mp hq
    exact h (Prod.mk.inj e).1
  · rw [List.nodup_iff_pairwise_ne]
    exact List.Pairwise.imp (fun {a b} h e => by rw [e] at h; exact ltN_irr _ h) hasc
/-! ### tags -/
structure TagsOk (tags : List Nat) (fr n : Nat) : Prop where
  len : tags.length = n
  nd : tags.Nodup
  lt : ∀ t ∈ tags, t < fr
def Dd.tags (tags : List Nat) (fr : Nat) : Dd → List Nat
  | .put k _ => tags.take k ++ fr :: tags.drop k
  | .take k _ => tags.take k ++ tags.drop (k + 1)
  | .change _ _ _ => tags
  | .become _ z => (List.range z.length).map fun k => fr + k
theorem nodup_parts {α : Type} {l : List α} {x : α} {p q : Nat} (hn : l.Nodup) (hq : p ≤ q) (hx : x ∉ l) : (l.take p ++ x :: l.drop q).Nodup ∧ (l.take p ++ l.drop q).Nodup := by
  have h2 : (l.take p ++ l.drop q).Nodup := by
    have hs : (l.take p ++ l.drop q).Sublist l := by
      have := (List.Sublist.refl (l.take p)).append (List.drop_sublist (q - p) (l.drop p))
      rw [List.drop_drop, show p + (q - p) = q by omega, List.take_append_drop] at this
      exact this
    exact hn.sublist hs
  refine ⟨?_, h2⟩
  rw [List.nodup_append] at h2 ⊢
  obtain ⟨a, b, c⟩ := h2
  refine ⟨a, List.nodup_cons.mpr ⟨fun h => hx (List.mem_of_mem_drop h), b⟩, fun u hu v hv => ?_⟩
  rcases List.mem_cons.mp hv with rfl | hv
  · exact fun e => hx (e ▸ List.mem_of_mem_take hu)
  · exact c u hu v hv
theorem tags_ok {tags : List Nat} {fr : Nat} {y : Str} {d : Dd} (h : TagsOk tags fr y.length) (ok : d.ok y) : TagsOk (d.tags tags fr) (fr + (d.row y.cps.toList).length + 1) (d.row y.cps.toList).length := by
  have hl := h.len
  have hf : fr ∉ tags := fun z => Nat.lt_irrefl _ (h.lt fr z)
  rw [row_len ok]
  cases d with
  | put k c =>
    have ok : k ≤ y.length := ok
    refine ⟨?_, (nodup_parts h.nd (Nat.le_refl k) hf).1, fun t ht => ?_⟩
    · show (tags.take k ++ fr :: tags.drop k).length = y.length + 1
      simp only [List.length_append, List.length_cons, List.length_take, List.length_drop]
      omega
    · show t < fr + (y.length + 1) + 1
      rcases List.mem_append.mp ht with ht | ht
      · have := h.lt t (List.mem_of_mem_take ht); omega
      · rcases List.mem_cons.mp ht with rfl | ht
        · omega
        · have := h.lt t (List.mem_of_mem_drop ht); omega
  | take k c =>
    have ok : k < y.length := ok
    refine ⟨?_, (nodup_parts h.nd (Nat.le_succ k) hf).2, fun t ht => ?_⟩
    · show (tags.take k ++ tags.drop (k + 1)).length = y.length - 1
      simp only [List.length_append, List.length_take, List.length_drop]
      omega
    · show t < fr + (y.length - 1) + 1
      rcases List.mem_append.mp ht with ht | ht
      · have := h.lt t (List.mem_of_mem_take ht); omega
      · have := h.lt t (List.mem_of_mem_drop ht); omega
  | change k c e => exact ⟨hl, h.nd, fun t ht => by have := h.lt t ht; show t < fr + y.length + 1; omega⟩
  | become a z =>
    refine ⟨by show ((List.range z.length).map _).length = z.length; rw [List.length_map, List.length_range], ?_, fun t ht => ?_⟩
    · show ((List.range z.length).map fun k => fr + k).Nodup
      rw [List.nodup_iff_pairwise_ne, List.pairwise_map]
      exact List.Pairwise.imp (fun {a b} h e => by omega) List.pairwise_lt_range
    · obtain ⟨k, hk, rfl⟩ := List.mem_map.mp ht
      have := List.mem_range.mp hk
      show fr + k < fr + z.length + 1
      omega
/-- a new place's tag, among the old ones -/
theorem tags_from {tags : List Nat} {fr : Nat} {y : Str} {d : Dd} (h : TagsOk tags fr y.length) (ok : d.ok y) {k t : Nat} (e : (d.tags tags fr)[k]? = some t) : match d.from k with
    | some i => tags[i]? = some t
    | none => fr ≤ t := by
  have hl := h.len
  cases d with
  | put p c =>
    have ok : p ≤ y.length := ok
    dsimp only [Dd.tags] at e
    dsimp only [Dd.from]
    by_cases a : k < p
    · rw [if_pos a]
      rw [List.getElem?_append_left (by rw [List.length_take]; omega), List.getElem?_take, if_pos a] at e
      exact e
    · rw [if_neg a]
      rw [List.getElem?_append_right (by rw [List.length_take]; omega), List.length_take, Nat.min_eq_left (by omega)] at e
      by_cases b : k = p
      · rw [if_pos b]
        rw [b, Nat.sub_self] at e
        exact Nat.le_of_eq (Option.some.inj e)
      · rw [if_neg b]
        obtain ⟨j, hj⟩ : ∃ j, k - p = j + 1 := ⟨k - p - 1, by omega⟩
        rw [hj, List.getElem?_cons_succ, List.getElem?_drop] at e
        dsimp only
        rw [show k - 1 = p + j by omega]
        exact e
  | take p c =>
    have ok : p < y.length := ok
    dsimp only [Dd.tags] at e
    dsimp only [Dd.from]
    by_cases a : k < p
    · rw [if_pos a]
      rw [List.getElem?_append_left (by rw [List.length_take]; omega), List.getElem?_take, if_pos a] at e
      exact e
    · rw [if_neg a]
      rw [List.getElem?_append_right (by rw [List.length_take]; omega), List.length_take, Nat.min_eq_left (by omega), List.getElem?_drop] at e
      rw [show k + 1 = p + 1 + (k - p) by omega]
      exact e
  | change p c x => exact e
  | become a z =>
    dsimp only [Dd.tags] at e
    rw [List.getElem?_map] at e
    obtain ⟨j, _, rfl⟩ := Option.map_eq_some_iff.mp e
    exact Nat.le_add_right ..
end Kx
set_option Elab.async false
set_option linter.all false
set_option maxRecDepth 100000
set_option maxHeartbeats 4000000
namespace Kx
open PySem PySem.Spec PyProof.Rows L2
abbrev keyN (nm : Str) (t : Nat) : List L2.Key := [Sum.inr nm, Sum.inl (t : Nat)]
theorem keyN_inj {a b : Str} {t u : Nat} (h : keyN a t = keyN b u) : a = b ∧ t = u := by
  injection h with h1 h2
  injection h2 with h2 _
  have e1 := Sum.inr.inj h1
  have e2 : (t : Int) = u := Sum.inl.inj h2
  exact ⟨e1, by omega⟩
/-- the marks before, by name and tag: the first j pairs whole, of the next one i places -/
structure BefAt (kvs : List (List L2.Key × V)) (ws : List Wn) (tags y : List Nat) (j i : Nat) : Prop where
  old : ∀ (q : Nat) w, q < j → ws[q]? = some w → ∀ (p t : Nat) b, tags[p]? = some t → (marksP w.D y)[p]? = some b → valV kvs (keyN w.nm t) = some (.bl b)
  cur : ∀ w, ws[j]? = some w → ∀ (p t : Nat) b, p < i → tags[p]? = some t → (marksP w.D y)[p]? = some b → valV kvs (keyN w.nm t) = some (.bl b)
  non : ∀ nm t, t ∉ tags → valV kvs (keyN nm t) = none
theorem BefAt.put {kvs : List (List L2.Key × V)} {ws : List Wn} {tags y : List Nat} {j i t : Nat} {w : Wn} {b : Bool} (h : BefAt kvs ws tags y j i) (hw : ws[j]? = some w) (ht : tags[i]? = some t) (hb : (marksP w.D y)[i]? = some b) (hn : (ws.map (·.nm)).Nodup) (hg : tags.Nodup) :
    BefAt (putK kvs (keyN w.nm t) (.bl b)) ws tags y j (i + 1) := by
  have nn : ∀ (q : Nat) w', q < j → ws[q]? = some w' → w'.nm ≠ w.nm := fun q w' hq e z => by
    have l1 := (List.getElem?_eq_some_iff.mp e).1
    have l2 := (List.getElem?_eq_some_iff.mp hw).1
    rw [List.nodup_iff_pairwise_ne, List.pairwise_map, List.pairwise_iff_getElem] at hn
    have := hn q j l1 l2 hq
    rw [(List.getElem?_eq_some_iff.mp e).2, (List.getElem?_eq_some_iff.mp hw).2] at this
    exact this z
  have nt : ∀ (p u : Nat), p ≠ i → tags[p]? = some u → u ≠ t := fun p u hp e z => by
    have l1 := (List.getElem?_eq_some_iff.mp e).1
    have l2 := (List.getElem?_eq_some_iff.mp ht).1
    have e1 := (List.getElem?_eq_some_iff.mp e).2
    have e2 := (List.getElem?_eq_some_iff.mp ht).2
    rw [List.nodup_iff_pairwise_ne, List.pairwise_iff_getElem] at hg
    rcases Nat.lt_or_gt_of_ne hp with h | h
    · have := hg p i l1 l2 h
      rw [e1, e2] at this
      exact this z
    · have := hg i p l2 l1 h
      rw [e1, e2] at this
      exact this z.symm
  refine ⟨fun q w' hq e p u b' e1 e2 => ?_, fun w' e p u b' hp e1 e2 => ?_, fun nm u hu => ?_⟩
  · rw [valV_put, if_neg fun z => nn q w' hq e (keyN_inj z).1]
    exact h.old q w' hq e p u b' e1 e2
  · rw [hw] at e
    cases e
    by_cases hpi : p = i
    · subst hpi
      rw [ht] at e1
      rw [hb] at e2
      cases e1
      cases e2
      rw [valV_put, if_pos rfl]
    · rw [valV_put, if_neg fun z => nt p u hpi e1 (keyN_inj z).2]
      exact h.cur w hw p u b' (by omega) e1 e2
  · rw [valV_put, if_neg fun z => hu (by rw [(keyN_inj z).2]; exact List.mem_of_getElem? ht)]
    exact h.non nm u hu
theorem BefAt.next {kvs : List (List L2.Key × V)} {ws : List Wn} {tags y : List Nat} {j : Nat} (h : BefAt kvs ws tags y j tags.length) : BefAt kvs ws tags y (j + 1) 0 := by
  refine ⟨fun q w hq e p t b e1 e2 => ?_, fun w _ p t b hp _ _ => absurd hp (Nat.not_lt_zero _), h.non⟩
  by_cases hj : q = j
  · subst hj
    exact h.cur w e p t b (List.getElem?_eq_some_iff.mp e1).1 e1 e2
  · exact h.old q w (by omega) e p t b e1 e2
theorem cutV_drop {xs : List V} {k : Nat} : cutV xs (some ((k : Nat) : Int)) none = xs.drop k := by
  unfold cutV
  have e1 : HT.sIx xs.length xs.length none = xs.length := rfl
  rw [HT.sIx_nat, e1]
  by_cases h : k ≤ xs.length
  · rw [Nat.min_eq_left h, List.take_of_length_le (by rw [List.length_drop]; omega)]
  · rw [Nat.min_eq_right (by omega), List.drop_of_length_le (by omega), List.drop_of_length_le (by omega), List.take_nil]
/-- xs[:k], xs[k:] of a list -/
theorem sll_take {K : PySem.W.Frag} {σ : L2.St} {G : Hp} {i : Nat} {l : Addr} {xs : List V} {k : Nat} {te : TE} {Q : VK} (e : σ[i]? = some (some (.ref l))) (hl : G l = some (.lst xs)) (ht : ∀ Q' : VK, Q' (.int (k : Nat)) G → te σ G Q') (q : ∀ p, G p = none → Q (.ref p) (upd G p (.lst (xs.take k)))) : tSl (rSlL K) (tVar i) tNoPart (tPart te) σ G Q :=
  sl_of (var_of e (nopart_of (part_of (ht _ ⟨_, rfl, l, xs, rfl, SqL.of hl, fun p hp => by rw [cutV_take]; exact q p hp⟩))))
theorem sll_drop {K : PySem.W.Frag} {σ : L2.St} {G : Hp} {i : Nat} {l : Addr} {xs : List V} {k : Nat} {te : TE} {Q : VK} (e : σ[i]? = some (some (.ref l))) (hl : G l = some (.lst xs)) (ht : ∀ Q' : VK, Q' (.int (k : Nat)) G → te σ G Q') (q : ∀ p, G p = none → Q (.ref p) (upd G p (.lst (xs.drop k)))) : tSl (rSlL K) (tVar i) (tPart te) tNoPart σ G Q :=
  sl_of (var_of e (part_of (ht _ ⟨_, rfl, nopart_of ⟨l, xs, rfl, SqL.of hl, fun p hp => by rw [cutV_drop]; exact q p hp⟩⟩)))
theorem putK_len {κ : Type} [DecidableEq κ] {kvs : List (κ × V)} {k : κ} {v u : V} (h : valV kvs k = some u) : (putK kvs k v).length = kvs.length := by
  unfold valV at h
  obtain ⟨p, hp, _⟩ := Option.map_eq_some_iff.mp h
  have ha : (kvs.any fun kv => decide (kv.1 = k)) = true := List.any_eq_true.mpr ⟨p, List.mem_of_find?_eq_some hp, List.find?_some (p := fun kv : κ × V => decide (kv.1 = k)) hp⟩
  unfold putK
  rw [if_pos ha, List.length_map]
theorem flat_len {α β : Type} {f : α → List β} {n : Nat} (h : ∀ a, (f a).length ≤ n) : ∀ l : List α, (l.flatMap f).length ≤ l.length * n
  | [] => by simp
  | a :: l => by
    rw [List.flatMap_cons, List.length_append, List.length_cons, Nat.succ_mul]
    have := flat_len h l
    have := h a
    omega
theorem dueW_len {d : Dd} {w : Wn} {y z : List Nat} : (dueW d w y z).length ≤ z.length := by
  unfold dueW
  rw [List.length_map]
  have := List.length_filter_le (oldAt d w y z) (List.range z.length)
  rwa [List.length_range] at this
/-- what was lit before, by the law's dict, and whether it turned -/
theorem bef_get {bk : List (List L2.Key × V)} {ws : List Wn} {tags : List Nat} {fr : Nat} {y : Str} {zz : List Nat} {d : Dd} {w : Wn} {qw k t : Nat} {nb : Bool} (bef : BefAt bk ws tags y.cps.toList ws.length 0) (htg : TagsOk tags fr y.length) (hok : d.ok y) (hw : ws[qw]? = some w) (ht : (d.tags tags fr)[k]? = some t) (hb : (marksP w.D zz)[k]? = some nb) :
    ∃ ob : Bool, (valV bk (keyN w.nm t)).getD (.bl nb) = .bl ob ∧ (!decide (V.bl ob = V.bl nb)) = oldAt d w y.cps.toList zz k := by
  have hf := tags_from htg hok ht
  have ly : y.cps.toList.length = y.length := Array.length_toList
  have tl := htg.len
  unfold oldAt
  cases hd : d.from k with
  | none =>
    rw [hd] at hf
    have hf : fr ≤ t := hf
    refine ⟨nb, ?_, ?_⟩
    · rw [bef.non w.nm t fun z => by have := htg.lt t z; omega]
      rfl
    · rw [decide_eq_true rfl]
      rfl
  | some i =>
    rw [hd] at hf
    have hf : tags[i]? = some t := hf
    have hi := (List.getElem?_eq_some_iff.mp hf).1
    have hm := List.getElem?_eq_getElem (show i < (marksP w.D y.cps.toList).length by rw [marksP_len]; omega)
    generalize (marksP w.D y.cps.toList)[i]'(by rw [marksP_len]; omega) = ob at hm
    refine ⟨ob, ?_, ?_⟩
    · rw [bef.old qw w (List.getElem?_eq_some_iff.mp hw).1 hw i t ob hf hm]
      rfl
    · dsimp only
      rw [hm, hb]
      congr 1
      rw [decide_eq_decide]
      constructor
      · intro e; injection e with e; rw [e]
      · intro e; rw [Option.some.inj e]
theorem perm_lift {α β : Type} {f : α → β} {m l0 : List β} (h : m.Perm l0) : ∀ {l : List α}, l0 = l.map f → ∃ l' : List α, l'.Perm l ∧ l'.map f = m := by
  induction h with
  | nil =>
    intro l e
    cases l with
    | nil => exact ⟨[], .refl _, rfl⟩
    | cons a l => cases e
  | @cons x l1 l2 _ ih =>
    intro l e
    cases l with
    | nil => cases e
    | cons a l =>
      obtain ⟨e1, e2⟩ := List.cons.inj e
      obtain ⟨l', h1, h2⟩ := ih e2
      exact ⟨a :: l', h1.cons a, by rw [List.map_cons, h2, e1]⟩
  | swap x y l1 =>
    intro l e
    cases l with
    | nil => cases e
    | cons a l =>
      cases l with
      | nil => cases (List.cons.inj e).2
      | cons b l =>
        obtain ⟨e1, e2⟩ := List.cons.inj e
        obtain ⟨e2, e3⟩ := List.cons.inj e2
        exact ⟨b :: a :: l, .swap a b l, by rw [List.map_cons, List.map_cons, e1, e2, e3]⟩
  | trans _ _ ih1 ih2 =>
    intro l e
    obtain ⟨l2, h1, h2⟩ := ih2 e
    obtain ⟨l1, h3, h4⟩ := ih1 h2.symm
    exact ⟨l1, h3.trans h1, h4⟩
section
variable {P : Program} {w : World} {K : PySem.W.Frag} {mg : Str → Option Value} {base : Heap}
/-- the line of a kept pair -/
theorem line_of {G : Hp} {al y : Str} {w : Wn} {ws : List Wn} {Q : VK} {E : XK} {t : V} (ok : WsT al ws) (hw : w ∈ ws) (hal : al ∈ menuA) (hy : over al 200 y) (ht : Rp G t (tabsD w.D.l w.D.r w.D.m)) (q : ∀ H' p, Same G H' → G p = none → H' p = some (.lst ((marksP w.D y.cps.toList).map V.bl)) → Q (.ref p) H') :
    sp_law_line [.str al, t, .str y] G Q E := by
  obtain ⟨pok, pal⟩ := (ok.ok.ok w hw).2
  have hix := ok.ix w hw
  have hy2 := hy.1
  refine ⟨al, t, y, w.D.l, w.D.r, w.D.m, rfl, ht, pal ▸ pok.l, pal ▸ pok.r, menu_nodup _ hal, menu_abc _ hal, by rw [← pal]; exact fun t h => (pok.m t h).2.1, hy.2, by omega, fun G6 p s6 hp0 hp => q G6 p s6 hp0 ?_⟩
  have eD : (⟨al, ixF al, w.D.l, w.D.r, w.D.m⟩ : PairD) = w.D := by rw [← pal] at hix ⊢; rw [← hix]
  rw [eD] at hp
  exact hp
def sp_law_carried : Sp := fun vs H Q _ => ∃ (a o c : Addr) (kvs : List (L2.Key × V)) (al y : Str) (tags : List Nat) (fr : Nat) (ds : List Dd) (ws : List Wn) (d : Dd), vs = [.ref o, .ref c] ∧ SrcAt H a ∧ H o = some (.dK kvs) ∧ OwnV (lt a H) kvs al y tags fr ds ws ∧ H c = some (.tup d.vs) ∧ d.fits al y ∧ TagsOk tags fr y.length ∧ WsT al ws ∧ al ∈ menuA ∧ over al 200 y ∧
  ∀ H' kvs' z r, (∀ b u, b ≠ o → H b = some u → H' b = some u) → H' o = some (.dK kvs') → z.cps.toList = d.row y.cps.toList → OwnV (lt a H') kvs' al z (d.tags tags fr) (fr + z.length + 1) ds ws → TurnAt H' r ((turnL ws y.cps.toList z.cps.toList (d.kept y.length)).mergeSort leN) → Q r H'
theorem ok_law_carried (T : Txt K mg) : Cal P w K mg base CX0 8 "_law_carried" ["_law_own", "_law_deed_here"] sp_law_carried := by
  obtain ⟨fd, F⟩ := F__law_carried T
  refine cal_mk F (g__law_carried T) sc__law_carried (fun _ _ _ _ _ _ us hl => match us, hl with | [_, _], _ => rfl) (fun vs H Q E h => ?_) (fun cdv A outer s H vs Q E hr h => ?_)
  · obtain ⟨a, o, c, kvs, al, y, tags, fr, ds, ws, d, rfl, _⟩ := h; rfl
  · refine ⟨_, PSs.nox (pss_cons (ps_set (i := 2) sc__law_carried.nd rfl (Or.inl rfl) (pe_dget (hu1 hr) (pv 0) pe_str (fun _ _ => rfl)))
        (pss_cons (ps_set (i := 3) sc__law_carried.nd rfl (Or.inl rfl) (pe_dget (hu1 hr) (pv 0) pe_str (fun _ _ => rfl)))
        (pss_cons (ps_set (i := 4) sc__law_carried.nd rfl (Or.inl rfl) (pe_ix ix_tup (pv 1) pe_int (fun _ _ => rfl)))
        (pss_cons (ps_set (i := 5) sc__law_carried.nd rfl (Or.inl rfl) pe_dnewT)
        (pss_cons (ps_for PassesOwn.never rfl (pi_list (pe_dget (hu1 hr) (pv 0) pe_str (fun _ _ => rfl))) (pg_tup rfl (pgs_cons (pg_name (i := 6) sc__law_carried.nd rfl (Or.inl rfl)) (pgs_cons (pg_name (i := 7) sc__law_carried.nd rfl (Or.inl rfl)) pgs_nil))) (pss_cons (ps_set (i := 8) sc__law_carried.nd rfl (Or.inl rfl) (pe_cal (ok_law_line T) (hr.mono (by decide)) pass0 (pa_cons (pe_dget (hu1 hr) (pv 0) pe_str (fun _ _ => rfl)) (pa_cons (pv 7) (pa_cons (pv 2) pa_nil)))))
        (pss_one (ps_for PassesOwn.never rfl (pi_range1 (by rfl) (fr_range T) (pa_cons (pe_callB call_len (by rfl) (fr_len T) boot_len (pa_cons (pv 2) pa_nil)) pa_nil)) (pg_name (i := 9) sc__law_carried.nd rfl (Or.inl rfl)) (pss_one (ps_dput (hu1 hr) (pv 5) (pe_tup (pa_cons (pv 6) (pa_cons (pe_ix ix_list (pv 3) (pv 9) (fun _ _ => rfl)) pa_nil))) (pe_ix ix_list (pv 8) (pv 9) (fun _ _ => rfl)) (by rfl)))))))
        (pss_cons (ps_if (pt_cmpR op_eq (pe_ix ix_tup (pv 1) pe_int (fun _ _ => rfl)) pe_str (nomark _)) (pss_cons (ps_set (i := 2) sc__law_carried.nd rfl (Or.inl rfl) (pe_op op_add_str (pe_op op_add_str (pe_slice sl_str (pv 2) po_none (po_some (pv 4))) (pe_ix ix_tup (pv 1) pe_int (fun _ _ => rfl))) (pe_slice sl_str (pv 2) (po_some (pv 4)) po_none)))
        (pss_one (ps_set (i := 3) sc__law_carried.nd rfl (Or.inl rfl) (pe_op op_cat (pe_op op_cat (pe_slice sl_list (pv 3) po_none (po_some (pv 4))) (pe_lst (pa_cons (pe_dget (hu1 hr) (pv 0) pe_str (fun _ _ => rfl)) pa_nil))) (pe_slice sl_list (pv 3) (po_some (pv 4)) po_none))))) (pss_one (ps_if (pt_cmpR op_eq (pe_ix ix_tup (pv 1) pe_int (fun _ _ => rfl)) pe_str (nomark _)) (pss_cons (ps_set (i := 2) sc__law_carried.nd rfl (Or.inl rfl) (pe_op op_add_str (pe_slice sl_str (pv 2) po_none (po_some (pv 4))) (pe_slice sl_str (pv 2) (po_some (pe_op op_add (pv 4) pe_int)) po_none)))
        (pss_one (ps_set (i := 3) sc__law_carried.nd rfl (Or.inl rfl) (pe_op op_cat (pe_slice sl_list (pv 3) po_none (po_some (pv 4))) (pe_slice sl_list (pv 3) (po_some (pe_op op_add (pv 4) pe_int)) po_none))))) (pss_one (ps_if (pt_cmpR op_eq (pe_ix ix_tup (pv 1) pe_int (fun _ _ => rfl)) pe_str (nomark _)) (pss_one (ps_set (i := 2) sc__law_carried.nd rfl (Or.inl rfl) (pe_op op_add_str (pe_op op_add_str (pe_slice sl_str (pv 2) po_none (po_some (pv 4))) (pe_ix ix_tup (pv 1) pe_int (fun _ _ => rfl))) (pe_slice sl_str (pv 2) (po_some (pe_op op_add (pv 4) pe_int)) po_none)))) (pss_cons (ps_set (i := 2) sc__law_carried.nd rfl (Or.inl rfl) (pe_ix ix_tup (pv 1) pe_int (fun _ _ => rfl)))
        (pss_one (ps_setLc (i := 3) (te := tOp (rI0 fun i j => .int (i + j)) (tDGet (tVar 0) (tC (.str "fresh"))) (tVar 9)) (own := [("_law_k", 9)]) (g := (gName 9)) (tt := tYes) rfl sc__law_carried.nd rfl rfl (sw_true rfl rfl rfl (by decide +kernel)) (pi_range1 (by rfl) (fr_range T) (pa_cons (pe_callB call_len (by rfl) (fr_len T) boot_len (pa_cons (pv 2) pa_nil)) pa_nil)) (blkOk_by (N := N__law_carried) (sc := defScope s__law_carried) (by decide +kernel)) (fun _ _ _ _ _ => (pg_name (i := 9) sc__law_carried.nd rfl (Or.inl rfl))) (fun _ _ _ _ _ => pts_nil) (fun _ _ _ _ _ => by refine pe_op (r := rI0 fun i j => .int (i + j)) ?_ (pe_dget (hu1 hr) (pv 0) pe_str (fun _ _ => rfl)) (pv 9); exact op_add)))))))))
        (pss_cons (ps_dput (hu1 hr) (pv 0) pe_str (pv 2) (by rfl))
        (pss_cons (ps_dput (hu1 hr) (pv 0) pe_str (pv 3) (by rfl))
        (pss_cons (ps_dput (hu1 hr) (pv 0) pe_str (pe_op op_add (pe_op op_add (pe_dget (hu1 hr) (pv 0) pe_str (fun _ _ => rfl)) (pe_callB call_len (by rfl) (fr_len T) boot_len (pa_cons (pv 2) pa_nil))) pe_int) (by rfl))
        (pss_cons (ps_set (i := 10) sc__law_carried.nd rfl (Or.inl rfl) pe_dnewK)
        (pss_cons (ps_for PassesOwn.never rfl (pi_list (pe_dget (hu1 hr) (pv 0) pe_str (fun _ _ => rfl))) (pg_tup rfl (pgs_cons (pg_name (i := 6) sc__law_carried.nd rfl (Or.inl rfl)) (pgs_cons (pg_name (i := 7) sc__law_carried.nd rfl (Or.inl rfl)) pgs_nil))) (pss_one (ps_dput (hu1 hr) (pv 10) (pv 6) (pe_cal (ok_law_line T) (hr.mono (by decide)) pass0 (pa_cons (pe_dget (hu1 hr) (pv 0) pe_str (fun _ _ => rfl)) (pa_cons (pv 7) (pa_cons (pv 2) pa_nil)))) (by rfl))))
        (pss_cons (ps_set (i := 11) sc__law_carried.nd rfl (Or.inl rfl) (pe_lst pa_nil))
        (pss_cons (ps_for PassesOwn.never rfl (pi_list (pe_callB (cr_sortedS (hu64 hr)) (by rfl) (fr_sorted T) b_sorted (pa_cons (pe_lc (te := tOp (rIxT K) (tVar 12) (tC (.int 0))) (own := [("_law_one", 12)]) (g := (gName 12)) (tt := tYes) rfl sc__law_carried.nd  (pi_list (pe_dget (hu1 hr) (pv 0) pe_str (fun _ _ => rfl))) (blkOk_by (N := N__law_carried) (sc := defScope s__law_carried) (by decide +kernel)) (fun _ _ _ _ _ => (pg_name (i := 12) sc__law_carried.nd rfl (Or.inl rfl))) (fun _ _ _ _ _ => pts_nil) (fun _ _ _ _ _ => by refine pe_ix (r := rIxT K) ?_ (pv 12) pe_int (fun _ _ => rfl); exact ix_tup)) pa_nil))) (pg_name (i := 6) sc__law_carried.nd rfl (Or.inl rfl)) (pss_one (ps_for PassesOwn.never rfl (pi_range1 (by rfl) (fr_range T) (pa_cons (pe_callB call_len (by rfl) (fr_len T) boot_len (pa_cons (pv 2) pa_nil)) pa_nil)) (pg_name (i := 9) sc__law_carried.nd rfl (Or.inl rfl)) (pss_one (ps_if (pt_cmpR op_ne (pe_dget2 (hu1 hr) (pv 5) (pe_tup (pa_cons (pv 6) (pa_cons (pe_ix ix_list (pv 3) (pv 9) (fun _ _ => rfl)) pa_nil))) (pe_ix ix_list (pe_dget (hu1 hr) (pv 10) (pv 6) (fun _ _ => rfl)) (pv 9) (fun _ _ => rfl)) ⟨rfl, rfl, rfl, rfl⟩) (pe_ix ix_list (pe_dget (hu1 hr) (pv 10) (pv 6) (fun _ _ => rfl)) (pv 9) (fun _ _ => rfl)) (nomark _)) (pss_one (ps_expr (pe_bm PySem.F.plainAttrs_list PySem.F.slot_list_append PySem.F.type_list_append mt_append (pv 11) (pa_cons (pe_tup (pa_cons (pv 6) (pa_cons (pv 9) pa_nil))) pa_nil)))) pss_nil)))))
        (pss_one (ps_ret (pe_callTy call_tuple_of (by rfl) (fr_tuple T) b_tuple (pa_cons (pv 11) pa_nil))))))))))))))))), ?_⟩
    obtain ⟨a, o, c, kvs, al, y, tags, fr, ds, ws, d, rfl, hs, ho, hv, hc, hf, htg, ok, hal, hy, q⟩ := h
    obtain ⟨tg, tv1, tv2⟩ := hv.tags
    obtain ⟨ls, u1, scs, u2, u3, u4⟩ := hv.listed
    have tv3 := lt_le _ _ tv2
    have u2' := lt_le _ _ u2
    have hyl := hy.1
    have hwl := ok.ok.le
    have htl := htg.len
    have ly : y.cps.toList.length = y.length := Array.length_toList
    refine asg_set (own_get rfl ho hv.row ?_)
    rintro σ1 rfl
    refine asg_set (own_get rfl ho tv1 ?_)
    rintro σ2 rfl
    obtain ⟨v0, v1, vr, hvs⟩ : ∃ v0 v1 vr, d.vs = v0 :: v1 :: vr := by cases d <;> exact ⟨_, _, _, rfl⟩
    refine asg_set (ixP (j := 1) rfl hc (by rw [hvs]; rfl) ?_)
    rintro σ3 rfl
    refine asg_set ?_
    intro B hB
    rintro σ4 rfl
    have sB := same_upd (o := .dT []) hB
    refine own_get rfl (sB _ _ ho) u1 ⟨ls, rfl, ⟨_, SqL.of (sB _ _ u2')⟩, ?_⟩
    refine for_it walk_list (fun j σ G => ∃ (w6 w7 w8 w9 : Option V) (bk : List (List L2.Key × V)), σ = [some (.ref o), some (.ref c), some (.str y), some (.ref tg), some v1, some (.ref B), w6, w7, w8, w9, none, none, none] ∧ Same H G ∧ G B = some (.dT bk) ∧ bk.length ≤ j * 200 ∧ BefAt bk ws tags y.cps.toList j 0) ⟨none, none, none, none, [], rfl, sB, upd_same, by simp, ⟨fun q w hq => absurd hq (Nat.not_lt_zero _), fun w _ p t b hp => absurd hp (Nat.not_lt_zero _), fun nm t _ => rfl⟩⟩ (fun _ _ _ _ ⟨_, _, _, _, _, _, s, _⟩ => SqL.of (s _ _ u2')) ?_ ?_
    · rintro j x9 σ Ga Gb hj ⟨w6, w7, w8, w9, bk, rfl, s9, hb, hbl, bef⟩ ⟨eG, hx⟩
      replace eG := eG.symm
      subst eG
      rw [List.getElem?_map] at hx
      obtain ⟨c9, hc9, rfl⟩ := Option.map_eq_some_iff.mp hx
      have hj2 := (List.getElem?_eq_some_iff.mp hc9).1
      have ew := List.getElem?_eq_getElem (show j < ws.length by omega)
      obtain ⟨t, g1, g2⟩ := u4 j c9 _ hc9 ew
      generalize ws[j]'(by omega) = w at ew g1 g2
      have hwm := List.mem_of_getElem? ew
      have sl9 : Same (lt a H) Ga := fun b u e => s9 _ _ (lt_le _ _ e)
      refine ⟨c9, _, rfl, SqT.of (sl9 _ _ g1), rfl, _, _, rfl, _, _, rfl, rfl, ?_⟩
      refine asg_set (call_of (args_of (own_get rfl (s9 _ _ ho) hv.al (args_of (var_of rfl (args_of (var_of rfl (args_end (line_of ok hwm hal hy (g2.same sl9) fun G2 p s2 hp0 hp => ?_)))))))))
      rintro σ8 rfl
      have hml := marksP_len (D := w.D) (cs := y.cps.toList)
      refine ⟨.str y, rfl, _, _, rfl, lenV_str (Nat.le_trans hyl (by decide)), (y.length : Nat), rfl, (by omega), (by omega), ?_⟩
      have en : ((y.length : Nat) : Int).toNat = y.length := by omega
      refine for_it walk_range (fun i σ G => ∃ (w9 : Option V) (bk : List (List L2.Key × V)), σ = [some (.ref o), some (.ref c), some (.str y), some (.ref tg), some v1, some (.ref B), some (.str w.nm), some t, some (.ref p), w9, none, none, none] ∧ Same H G ∧ G B = some (.dT bk) ∧ G p = some (.lst ((marksP w.D y.cps.toList).map V.bl)) ∧ bk.length ≤ j * 200 + i ∧ BefAt bk ws tags y.cps.toList j i) ⟨_, bk, rfl, s9.trans s2, s2 _ _ hb, hp, hbl, bef⟩ (fun _ _ _ _ _ => trivial) ?_ ?_
      · rintro i x σ G G' hi ⟨w9, bk, rfl, s3, hb3, hp3, hbl3, bef3⟩ ⟨eG, ex⟩
        replace eG := eG.symm
        subst eG
        have ex : x = V.int (i : Nat) := ex.trans (by show V.int (0 + _) = _; rw [Int.zero_add])
        subst ex
        have hi' : i < y.length := by rw [en] at hi; exact hi
        have et := List.getElem?_eq_getElem (show i < tags.length by omega)
        have eb := List.getElem?_eq_getElem (show i < (marksP w.D y.cps.toList).length by omega)
        generalize tags[i]'(by omega) = tt at et
        generalize (marksP w.D y.cps.toList)[i]'(by omega) = bb at eb
        refine op_of (var_of rfl (var_of rfl ⟨p, _, _, .bl bb, rfl, rfl, SqL.of hp3, atI_nat (by rw [List.getElem?_map, eb]; rfl), ?_⟩))
        refine var_of rfl (args_of (var_of rfl (args_of (op_of (var_of rfl (var_of rfl ⟨tg, _, _, .int (tt : Nat), rfl, rfl, SqL.of (s3 _ _ tv3), atI_nat (by rw [List.getElem?_map, et]; rfl), args_end ⟨by show 2 ≤ sizeLine; decide, fun k hk => ?_⟩⟩))))))
        have sk := same_upd (o := .tup [.str w.nm, .int (tt : Nat)]) hk
        have hj20 : j < 20 := by omega
        refine ⟨B, _, rfl, .inr ⟨bk, keyN w.nm tt, k, sk _ _ hb3, rfl, upd_same, Nat.lt_of_le_of_lt (by omega : bk.length ≤ 10000) (by decide), rfl⟩, ?_⟩
        have hB0 : H B = none := hB
        have npB : p ≠ B := fun z => by rw [z, hb3] at hp3; cases hp3
        refine ⟨_, _, rfl, same_over (s3.trans sk) hB0, upd_same, by rw [upd_ne npB]; exact sk _ _ hp3, Nat.le_trans (putK_le _ _ _) (by omega), bef3.put ew et eb ok.ok.nd htg.nd⟩
      · rintro σ G ⟨w9, bk, rfl, s3, hb3, hp3, hbl3, bef3⟩
        rw [en] at hbl3 bef3
        exact ⟨_, _, _, _, bk, rfl, s3, hb3, by rw [Nat.succ_mul]; omega, (htl ▸ bef3 : BefAt bk ws tags y.cps.toList j tags.length).next⟩
    rintro σ G1 ⟨w6, w7, w8, w9, bk, rfl, s1, hb, hbl, bef⟩
    rw [List.length_map, u3] at bef
    have hok := Dd.fits_ok hf
    have hcG := s1 _ _ hc
    have hoG := s1 _ _ ho
    have htG := s1 _ _ tv3
    have b3 : ∀ {k : Nat} {c j : Nat}, (cutS y none (some ((k : Nat) : Int))).length + (⟨#[c]⟩ : Str).length ≤ sizeLine ∧ (cutS y none (some ((k : Nat) : Int)) ++ (⟨#[c]⟩ : Str)).length + (cutS y (some ((j : Nat) : Int)) none).length ≤ sizeLine ∧ (cutS y none (some ((k : Nat) : Int))).length + (cutS y (some ((j : Nat) : Int)) none).length ≤ sizeLine := fun {k c j} => by
      have h1 := len_take (z := y) (k := k)
      have h2 := len_drop (z := y) (k := j)
      rw [len_app, len_one]
      exact ⟨Nat.le_trans (by omega : _ ≤ 2000) (by decide), Nat.le_trans (by omega : _ ≤ 2000) (by decide), Nat.le_trans (by omega : _ ≤ 2000) (by decide)⟩
    have nea : ∀ {G : Hp} {p : Addr}, Same H G → G p = none → p ≠ a := fun s e z => by
      obtain ⟨A, S, C, e2⟩ := hs
      rw [z, s _ _ e2] at e
      cases e
    dsimp only
    refine if_then (fun σ G => ∃ (z : Str) (tg' : Addr) (w9 : Option V), σ = [some (.ref o), some (.ref c), some (.str z), some (.ref tg'), some v1, some (.ref B), w6, w7, w8, w9, none, none, none] ∧ z.cps.toList = d.row y.cps.toList ∧ Same G1 G ∧ lt a G tg' = some (.lst ((d.tags tags fr).map fun k => V.int (k : Nat)))) ?_ fun rest => ?_
    case refine_2 =>
      cases d with
      | put k x =>
        cases hvs
        refine deed_is rfl hcG ?_
        rw [decide_eq_true rfl]
        refine iteT (asg_set (op_of (op_of (sl_take (K := K) rfl (by omega) (fun Q' k' => var_of rfl k') (ixP (j := 2) rfl hcG rfl ⟨_, _, rfl, rfl, (b3 (j := k)).1, sl_drop (K := K) rfl (by omega) (fun Q' k' => var_of rfl k') ⟨_, _, rfl, rfl, b3.2.1, ?_⟩⟩)))))
        rintro σ5 rfl
        refine op_of (op_of (sll_take (K := K) (k := k) rfl htG (fun Q' k' => var_of rfl k') fun q1 hq1 => ?_))
        have t1 := same_upd (o := .lst ((tags.map fun k => V.int (k : Nat)).take k)) hq1
        have e1 : upd G1 q1 (.lst ((tags.map fun k => V.int (k : Nat)).take k)) q1 = _ := upd_same
        refine args_of (own_get rfl (t1 _ _ hoG) hv.fresh (args_end ⟨by show 1 ≤ sizeLine; decide, fun q2 hq2 => ?_⟩))
        have t2 := same_upd (o := .lst [.int (fr : Nat)]) hq2
        refine ⟨q1, q2, _, _, rfl, rfl, t2 _ _ e1, upd_same, ?_, fun q3 hq3 => ?_⟩
        · rw [List.length_take, List.length_map]
          exact Nat.le_trans (by show _ + 1 ≤ 1000; omega : _ ≤ 1000) (by decide)
        have t3 := same_upd (o := .lst ((tags.map fun k => V.int (k : Nat)).take k ++ [.int (fr : Nat)])) hq3
        have t13 := t1.trans (t2.trans t3)
        have e3 : upd (upd (upd G1 q1 (.lst ((tags.map fun k => V.int (k : Nat)).take k))) q2 (.lst [.int (fr : Nat)])) q3 (.lst ((tags.map fun k => V.int (k : Nat)).take k ++ [.int (fr : Nat)])) q3 = some (.lst ((tags.map fun k => V.int (k : Nat)).take k ++ [.int (fr : Nat)])) := upd_same
        revert t13 e3
        generalize upd (upd (upd G1 q1 (.lst ((tags.map fun k => V.int (k : Nat)).take k))) q2 (.lst [.int (fr : Nat)])) q3 (.lst ((tags.map fun k => V.int (k : Nat)).take k ++ [.int (fr : Nat)])) = G4
        intro t13 e3
        refine sll_drop (K := K) (k := k) rfl (t13 _ _ htG) (fun Q' k' => var_of rfl k') fun q4 hq4 => ?_
        have t4 := same_upd (o := .lst ((tags.map fun k => V.int (k : Nat)).drop k)) hq4
        refine ⟨q3, q4, _, _, rfl, rfl, t4 _ _ e3, upd_same, ?_, fun q5 hq5 => ?_⟩
        · rw [List.length_append, List.length_take, List.length_map, List.length_drop, List.length_map]
          exact Nat.le_trans (by show _ + 1 + _ ≤ 1000; omega : _ ≤ 1000) (by decide)
        have t5 := t13.trans (t4.trans (same_upd (o := .lst ((tags.map fun k => V.int (k : Nat)).take k ++ [.int (fr : Nat)] ++ (tags.map fun k => V.int (k : Nat)).drop k)) hq5))
        refine rest _ _ ⟨_, q5, _, rfl, by rw [cps_app, cps_app, cut_take, cut_drop, List.append_assoc]; rfl, t5, lt_lst (nea (s1.trans (t13.trans t4)) hq5) ?_⟩
        rw [upd_same, List.append_assoc]
        show _ = some (HO.lst ((tags.take k ++ fr :: tags.drop k).map fun k => V.int (k : Nat)))
        rw [List.map_append, List.map_cons, List.map_take, List.map_drop]
        rfl
      | take k x =>
        cases hvs
        refine deed_is rfl hcG ?_
        rw [decide_eq_false (by decide +kernel)]
        refine iteF (one_if (deed_is rfl hcG ?_))
        rw [decide_eq_true rfl]
        refine iteT (asg_set (op_of (sl_take (K := K) rfl (by omega) (fun Q' k' => var_of rfl k') (sl_drop (K := K) (k := k + 1) rfl (by omega) (fun Q' k' => op_of (var_of rfl ⟨_, 1, rfl, rfl, k'⟩)) ⟨_, _, rfl, rfl, (b3 (c := 0)).2.2, ?_⟩))))
        rintro σ5 rfl
        refine op_of (sll_take (K := K) (k := k) rfl htG (fun Q' k' => var_of rfl k') fun q1 hq1 => ?_)
        have t1 := same_upd (o := .lst ((tags.map fun k => V.int (k : Nat)).take k)) hq1
        have e1 : upd G1 q1 (.lst ((tags.map fun k => V.int (k : Nat)).take k)) q1 = _ := upd_same
        refine sll_drop (K := K) (k := k + 1) rfl (t1 _ _ htG) (fun Q' k' => op_of (var_of rfl ⟨_, 1, rfl, rfl, k'⟩)) fun q4 hq4 => ?_
        have t4 := same_upd (o := .lst ((tags.map fun k => V.int (k : Nat)).drop (k + 1))) hq4
        refine ⟨q1, q4, _, _, rfl, rfl, t4 _ _ e1, upd_same, ?_, fun q5 hq5 => ?_⟩
        · rw [List.length_take, List.length_map, List.length_drop, List.length_map]
          exact Nat.le_trans (by omega : _ ≤ 1000) (by decide)
        have t5 := t1.trans (t4.trans (same_upd (o := .lst ((tags.map fun k => V.int (k : Nat)).take k ++ (tags.map fun k => V.int (k : Nat)).drop (k + 1))) hq5))
        refine rest _ _ ⟨_, q5, _, rfl, by rw [cps_app, cut_take, cut_drop]; rfl, t5, lt_lst (nea (s1.trans (t1.trans t4)) hq5) ?_⟩
        rw [upd_same]
        show _ = some (HO.lst ((tags.take k ++ tags.drop (k + 1)).map fun k => V.int (k : Nat)))
        rw [List.map_append, List.map_take, List.map_drop]
      | change k x e =>
        cases hvs
        refine deed_is rfl hcG ?_
        rw [decide_eq_false (by decide +kernel)]
        refine iteF (one_if (deed_is rfl hcG ?_))
        rw [decide_eq_false (by decide +kernel)]
        refine iteF (one_if (deed_is rfl hcG ?_))
        rw [decide_eq_true rfl]
        refine iteT (op_of (op_of (sl_take (K := K) rfl (by omega) (fun Q' k' => var_of rfl k') (ixP (j := 3) rfl hcG rfl ⟨_, _, rfl, rfl, (b3 (j := k)).1, sl_drop (K := K) (k := k + 1) rfl (by omega) (fun Q' k' => op_of (var_of rfl ⟨_, 1, rfl, rfl, k'⟩)) ⟨_, _, rfl, rfl, b3.2.1, ?_⟩⟩))))
        refine rest _ _ ⟨_, tg, _, rfl, by rw [cps_app, cps_app, cut_take, cut_drop, List.append_assoc]; rfl, Same.refl _, lt_same s1 _ _ tv2⟩
      | become y0 z0 =>
        cases hvs
        refine deed_is rfl hcG ?_
        rw [decide_eq_false (by decide +kernel)]
        refine iteF (one_if (deed_is rfl hcG ?_))
        rw [decide_eq_false (by decide +kernel)]
        refine iteF (one_if (deed_is rfl hcG ?_))
        rw [decide_eq_false (by decide +kernel)]
        refine iteF (asg_set (ixP (j := 2) rfl hcG rfl ?_))
        rintro σ5 rfl
        have hz0 := hf.2.1
        refine ⟨.str z0, rfl, _, _, rfl, lenV_str (Nat.le_trans hz0 (by decide)), (z0.length : Nat), rfl, (by omega), (by omega), fun Dn hDn => ?_⟩
        have en : ((z0.length : Nat) : Int).toNat = z0.length := by omega
        rw [en]
        refine lc_new (walk_range (n := z0.length)) hDn (Nat.le_trans hz0 (by decide)) (fun (i : Nat) _ v => v = V.int ((fr + i : Nat) : Int)) (fun _ _ _ _ _ h => h) (fun _ _ => trivial) (fun i x9 Ga Gb Qk hi s9 hyy hkk => ?_) (fun G10 acc s10 hG10 hla hacc => ?_)
        · obtain ⟨eG, ex⟩ := hyy
          replace eG := eG.symm
          subst eG
          have ex : x9 = V.int (i : Nat) := ex.trans (by show V.int (0 + _) = _; rw [Int.zero_add])
          subst ex
          exact ⟨wipe1 _ 9 _, op_of (own_get rfl (s9 _ _ hoG) hv.fresh (var_of rfl ⟨_, _, rfl, rfl, hkk _ _ (Same.refl _) (by show V.int _ = V.int _; congr 1)⟩))⟩
        have eacc : acc = ((List.range z0.length).map fun k => fr + k).map fun k => V.int (k : Nat) := by
          refine List.ext_getElem? fun i => ?_
          by_cases hi : i < acc.length
          · have e := List.getElem?_eq_getElem hi
            rw [e, hacc i _ e, List.getElem?_map, List.getElem?_map, List.getElem?_range (by omega)]
            rfl
          · rw [List.getElem?_eq_none (by omega), List.getElem?_eq_none (by rw [List.length_map, List.length_map, List.length_range]; omega)]
        exact rest _ _ ⟨z0, Dn, _, rfl, rfl, s10, lt_lst (nea s1 hDn) (by rw [hG10, eacc]; rfl)⟩
    rintro σ G2 ⟨z, tg', w9, rfl, hz, s2, htg'⟩
    have hbS := s2 _ _ hb
    have hoS := s2 _ _ hoG
    have hbo : B ≠ o := fun z => by rw [z, ho] at hB; cases hB
    have ltz := lt_le _ _ htg'
    have rl := row_len hok
    have lz : z.cps.toList.length = z.length := Array.length_toList
    have hzo : over al 200 z := row_over hok hy hz (by
      rw [rl]
      cases d with
      | put k x => exact hf.2.1
      | take k x => show y.length - 1 ≤ 200; omega
      | change k x e => exact hyl
      | become a0 z0 => exact hf.2.1) (by
      cases d with
      | put k x => exact hf.2.2
      | take k x => trivial
      | change k x e => exact hf.2
      | become a0 z0 => exact hf.2.2)
    have hz200 := hzo.1
    -- the own dict, three times
    refine ⟨.str z, rfl, .ref o, rfl, o, _, rfl, .inl ⟨kvs, Sum.inr "row", hoS, rfl, Nat.lt_of_le_of_lt hv.n (by decide), rfl⟩, ?_⟩
    have n1 : (putK kvs (Sum.inr "row") (V.str z)).length ≤ 11 := Nat.le_trans (putK_le _ _ _) (by have := hv.n; omega)
    refine ⟨.ref tg', rfl, .ref o, rfl, o, _, rfl, .inl ⟨_, Sum.inr "tags", upd_same, rfl, Nat.lt_of_le_of_lt n1 (by decide), rfl⟩, ?_⟩
    have n2 : (putK (putK kvs (Sum.inr "row") (V.str z)) (Sum.inr "tags") (V.ref tg')).length ≤ 12 := Nat.le_trans (putK_le _ _ _) (by omega)
    dsimp only
    have fr2 : valV (putK (putK kvs (Sum.inr "row") (V.str z)) (Sum.inr "tags") (V.ref tg')) (Sum.inr "fresh") = some (.int (fr : Nat)) := by
      rw [valV_put, if_neg (by intro e; exact absurd (Sum.inr.inj e) (by decide +kernel)), valV_put, if_neg (by intro e; exact absurd (Sum.inr.inj e) (by decide +kernel))]
      exact hv.fresh
    have kA : ∀ b u, b ≠ o → G2 b = some u → upd (upd G2 o (.dK (putK kvs (Sum.inr "row") (V.str z)))) o (.dK (putK (putK kvs (Sum.inr "row") (V.str z)) (Sum.inr "tags") (V.ref tg'))) b = some u := fun b u h e => by rw [upd_ne h, upd_ne h]; exact e
    have eA : upd (upd G2 o (.dK (putK kvs (Sum.inr "row") (V.str z)))) o (.dK (putK (putK kvs (Sum.inr "row") (V.str z)) (Sum.inr "tags") (V.ref tg'))) o = some (.dK (putK (putK kvs (Sum.inr "row") (V.str z)) (Sum.inr "tags") (V.ref tg'))) := upd_same
    revert kA eA
    generalize upd (upd G2 o (.dK (putK kvs (Sum.inr "row") (V.str z)))) o (.dK (putK (putK kvs (Sum.inr "row") (V.str z)) (Sum.inr "tags") (V.ref tg'))) = Ga
    intro kA eA
    refine op_of (op_of (own_get rfl eA fr2 (lenS rfl (by omega) ⟨_, _, rfl, rfl, c_of ⟨_, 1, rfl, rfl, ?_⟩⟩)))
    refine ⟨.ref o, rfl, o, _, rfl, .inl ⟨_, Sum.inr "fresh", eA, rfl, Nat.lt_of_le_of_lt n2 (by decide), rfl⟩, ?_⟩
    generalize hkv : putK (putK (putK kvs (Sum.inr "row") (V.str z)) (Sum.inr "tags") (V.ref tg')) (Sum.inr "fresh") (V.int ((fr : Nat) + (z.length : Nat) + 1)) = kv3
    have ov : OwnV (lt a G2) kv3 al z (d.tags tags fr) (fr + z.length + 1) ds ws := by
      have ne : ∀ {x y : Str}, x ≠ y → ¬ ((Sum.inr x : L2.Key) = Sum.inr y) := fun h e => h (Sum.inr.inj e)
      have hv' := hv.same (lt_same (a := a) (s1.trans s2))
      subst hkv
      refine ⟨?_, ?_, ⟨tg', ?_, htg'⟩, ?_, ?_, ?_, ?_⟩
      · rw [valV_put, if_neg (ne (by decide +kernel)), valV_put, if_neg (ne (by decide +kernel)), valV_put, if_neg (ne (by decide +kernel))]; exact hv'.al
      · rw [valV_put, if_neg (ne (by decide +kernel)), valV_put, if_neg (ne (by decide +kernel)), valV_put, if_pos rfl]
      · rw [valV_put, if_neg (ne (by decide +kernel)), valV_put, if_pos rfl]
      · rw [valV_put, if_pos rfl]; rfl
      · rw [valV_put, if_neg (ne (by decide +kernel)), valV_put, if_neg (ne (by decide +kernel)), valV_put, if_neg (ne (by decide +kernel))]; exact hv'.log
      · rw [valV_put, if_neg (ne (by decide +kernel)), valV_put, if_neg (ne (by decide +kernel)), valV_put, if_neg (ne (by decide +kernel))]; exact hv'.listed
      · rw [putK_len fr2]
        have t2 : valV (putK kvs (Sum.inr "row") (V.str z)) (Sum.inr "tags") = some (.ref tg) := by rw [valV_put, if_neg (ne (by decide +kernel))]; exact tv1
        rw [putK_len t2, putK_len hv'.row]
        exact hv'.n
    have kB : ∀ b u, b ≠ o → G2 b = some u → upd Ga o (.dK kv3) b = some u := fun b u h e => by rw [upd_ne h]; exact kA b u h e
    have eB : upd Ga o (.dK kv3) o = some (.dK kv3) := upd_same
    revert kB eB
    generalize upd Ga o (.dK kv3) = Gb
    intro kB eB
    have lB : Same (lt a G2) (lt a Gb) := lt_mk fun b u _ hu e => kB b u (fun z => by rw [z, hoS] at e; cases e; rcases hu with ⟨xs, h⟩ | ⟨xs, h⟩ <;> cases h) e
    have ov := ov.same lB
    obtain ⟨ls3, x1, scs3, x2, x3, x4⟩ := ov.listed
    have x2' := lt_le _ _ x2
    have sub : ∀ {G : Hp}, Same Gb G → Same (lt a Gb) G := fun s b u e => s _ _ (lt_le _ _ e)
    dsimp only
    refine asg_set ?_
    intro Ln hLn
    rintro σ10 rfl
    have sLn := same_upd (o := .dK []) hLn
    refine own_get rfl (sLn _ _ eB) x1 ⟨ls3, rfl, ⟨_, SqL.of (sLn _ _ x2')⟩, ?_⟩
    refine for_it walk_list (fun j σ G => ∃ (w6 w7 : Option V) (lk : List (L2.Key × V)), σ = [some (.ref o), some (.ref c), some (.str z), some (.ref tg'), some v1, some (.ref B), w6, w7, w8, w9, some (.ref Ln), none, none] ∧ Same Gb G ∧ G Ln = some (.dK lk) ∧ lk.length ≤ j ∧ ∀ (q : Nat) w, q < j → ws[q]? = some w → ∃ p, valV lk (Sum.inr w.nm) = some (.ref p) ∧ G p = some (.lst ((marksP w.D z.cps.toList).map V.bl))) ⟨_, _, [], rfl, sLn, upd_same, Nat.le_refl _, fun q w hq => absurd hq (Nat.not_lt_zero _)⟩ (fun _ _ _ _ ⟨_, _, _, _, s, _⟩ => SqL.of (s _ _ x2')) ?_ ?_
    · rintro j x9 σ G3 G4 hj ⟨w6, w7, lk, rfl, s3, hl3, hll, hlk⟩ ⟨eG, hx⟩
      replace eG := eG.symm
      subst eG
      rw [List.getElem?_map] at hx
      obtain ⟨c9, hc9, rfl⟩ := Option.map_eq_some_iff.mp hx
      have hj2 := (List.getElem?_eq_some_iff.mp hc9).1
      have ew := List.getElem?_eq_getElem (show j < ws.length by omega)
      obtain ⟨t, g1, g2⟩ := x4 j c9 _ hc9 ew
      generalize ws[j]'(by omega) = w at ew g1 g2
      have hwm := List.mem_of_getElem? ew
      refine ⟨c9, _, rfl, SqT.of (sub s3 _ _ g1), rfl, _, _, rfl, _, _, rfl, rfl, ?_⟩
      refine call_of (args_of (own_get rfl (s3 _ _ eB) ov.al (args_of (var_of rfl (args_of (var_of rfl (args_end (line_of ok hwm hal hzo (g2.same (sub s3)) fun G5 p s5 hp0 hp => ?_))))))))
      refine ⟨.ref Ln, rfl, .str w.nm, rfl, Ln, _, rfl, .inl ⟨lk, Sum.inr w.nm, s5 _ _ hl3, rfl, Nat.lt_of_le_of_lt (by omega : lk.length ≤ 100) (by decide), rfl⟩, ?_⟩
      have npL : p ≠ Ln := fun z => by rw [z, hl3] at hp0; cases hp0
      refine ⟨_, _, _, rfl, same_over (s3.trans s5) hLn, upd_same, Nat.le_trans (putK_le _ _ _) (by omega), fun q w' hq e => ?_⟩
      by_cases hqj : q = j
      · subst hqj
        rw [ew] at e
        cases e
        exact ⟨p, by rw [valV_put, if_pos rfl], by rw [upd_ne npL]; exact hp⟩
      · obtain ⟨p', h1, h2⟩ := hlk q w' (by omega) e
        have hnn : w'.nm ≠ w.nm := fun zz => by
          have l1 := (List.getElem?_eq_some_iff.mp e).1
          have l2 := (List.getElem?_eq_some_iff.mp ew).1
          have hn := ok.ok.nd
          rw [List.nodup_iff_pairwise_ne, List.pairwise_map, List.pairwise_iff_getElem] at hn
          have := hn q j l1 l2 (by omega)
          rw [(List.getElem?_eq_some_iff.mp e).2, (List.getElem?_eq_some_iff.mp ew).2] at this
          exact this zz
        refine ⟨p', by rw [valV_put, if_neg fun zz => hnn (Sum.inr.inj zz)]; exact h1, ?_⟩
        rw [upd_ne fun zz => by rw [zz, hl3] at h2; cases h2]
        exact s5 _ _ h2
    rintro σ G5 ⟨w6, w7, lk, rfl, s5, hl5, hll, hlk⟩
    rw [List.length_map, x3] at hlk
    dsimp only
    refine asg_set ?_
    refine ⟨by show 0 ≤ sizeLine; decide, fun Du hDu => ?_⟩
    rintro σ11 rfl
    have sDu := same_upd (o := .lst []) hDu
    have s55 := s5.trans sDu
    refine cb_of (args_of ?_)
    unfold tLc iList
    refine own_get rfl (s55 _ _ eB) x1 ⟨ls3, rfl, ⟨_, SqL.of (s55 _ _ x2')⟩, fun Nm hNm => ?_⟩
    refine lc_new (walk_list (xs := scs3.map V.ref)) hNm (by rw [List.length_map, x3]; exact Nat.le_trans hwl (by decide)) (fun (i : Nat) _ v => ∀ w, ws[i]? = some w → v = V.str w.nm) (fun _ _ _ _ _ h => h) (fun G' s' => SqL.of ((s55.trans s') _ _ x2')) (fun i x9 G6 G7 Qk hi s9 hyy hkk => ?_) (fun G6 acc s6 hG6 hla hacc => ?_)
    · obtain ⟨eG, hx⟩ := hyy
      replace eG := eG.symm
      subst eG
      rw [List.getElem?_map] at hx
      obtain ⟨c9, hc9, rfl⟩ := Option.map_eq_some_iff.mp hx
      have hi2 := (List.getElem?_eq_some_iff.mp hc9).1
      have ew := List.getElem?_eq_getElem (show i < ws.length by omega)
      obtain ⟨t, g1, g2⟩ := x4 i c9 _ hc9 ew
      exact ⟨wipe1 _ 12 _, ixP (j := 0) rfl (sub (s55.trans s9) _ _ g1) rfl (hkk _ _ (Same.refl _) fun w e => by rw [ew] at e; cases e; rfl)⟩
    have ea : acc = (ws.map (·.nm)).map V.str := by
      refine List.ext_getElem? fun i => ?_
      rw [List.length_map, x3] at hla
      by_cases hi : i < acc.length
      · have e := List.getElem?_eq_getElem hi
        have ew := List.getElem?_eq_getElem (show i < ws.length by omega)
        rw [e, hacc i _ e _ ew, List.getElem?_map, List.getElem?_map, ew]
        rfl
      · rw [List.getElem?_eq_none (by omega), List.getElem?_eq_none (by rw [List.length_map, List.length_map]; omega)]
    subst ea
    refine args_end ⟨Nm, _, rfl, SqL.of hG6, by rw [List.length_map]; omega, fun Sn hSn => ?_⟩
    obtain ⟨vs, vp, vm⟩ := perm_lift (f := fun w : Wn => w.nm) (List.mergeSort_perm (ws.map (·.nm)) leS) rfl
    have vasc : (vs.map (·.nm)).Pairwise fun a b => lsS a < lsS b := by rw [vm]; exact sortS_asc ok.ok.nd
    have vl : vs.length = ws.length := vp.length_eq
    rw [← vm]
    have sSn := same_upd (o := .lst ((vs.map (·.nm)).map V.str)) hSn
    have s7 := s55.trans (s6.trans sSn)
    have eDu := sSn _ _ (s6 _ _ (upd_same (H := G5) (a := Du) (o := .lst [])))
    have hl7 := sSn _ _ (s6 _ _ (sDu _ _ hl5))
    have hDu0 : Gb Du = none := none_of s5 hDu
    refine ⟨Sn, rfl, ⟨_, SqL.of upd_same⟩, ?_⟩
    have eSn : upd G6 Sn (.lst ((vs.map (·.nm)).map V.str)) Sn = some (.lst ((vs.map (·.nm)).map V.str)) := upd_same
    have nSD : Sn ≠ Du := fun z => by rw [z, s6 _ _ (upd_same (H := G5) (a := Du) (o := .lst []))] at hSn; cases hSn
    have nLD : Ln ≠ Du := fun z => by rw [z, hDu] at hl5; cases hl5
    have k7 : ∀ b u, G5 b = some u → upd G6 Sn (.lst ((vs.map (·.nm)).map V.str)) b = some u := fun b u e => sSn _ _ (s6 _ _ (sDu _ _ e))
    revert s7 eDu hl7 eSn k7
    generalize upd G6 Sn (.lst ((vs.map (·.nm)).map V.str)) = G8
    intro s7 eDu hl7 eSn k7
    refine for_it walk_list (fun j σ G => ∃ w6 w9' : Option V, σ = [some (.ref o), some (.ref c), some (.str z), some (.ref tg'), some v1, some (.ref B), w6, w7, w8, w9', some (.ref Ln), some (.ref Du), none] ∧ (∀ b u, b ≠ Du → G8 b = some u → G b = some u) ∧ NPAt G Du ((vs.take j).flatMap fun w => dueW d w y.cps.toList z.cps.toList)) ⟨_, _, rfl, fun b u _ e => e, ⟨[], eDu, rfl, fun i b p e => by simp at e⟩⟩ (fun _ _ _ _ ⟨_, _, _, s, _⟩ => SqL.of (s _ _ nSD eSn)) ?_ ?_
    · rintro j x9 σ G9 G9' hj ⟨w6, w9', rfl, s9, hn9⟩ ⟨eG, hx⟩
      replace eG := eG.symm
      subst eG
      rw [List.getElem?_map, List.getElem?_map] at hx
      obtain ⟨nm, hnm, rfl⟩ := Option.map_eq_some_iff.mp hx
      obtain ⟨w, hw, rfl⟩ := Option.map_eq_some_iff.mp hnm
      have hwm : w ∈ ws := vp.mem_iff.mp (List.mem_of_getElem? hw)
      obtain ⟨qw, hqw⟩ := List.mem_iff_getElem?.mp hwm
      obtain ⟨pm, pm1, pm2⟩ := hlk qw w (List.getElem?_eq_some_iff.mp hqw).1 hqw
      have npD : pm ≠ Du := fun z => by rw [z, hDu] at pm2; cases pm2
      have fG : ∀ {G : Hp} {b : Addr} {u : HO}, (∀ b u, b ≠ Du → G8 b = some u → G b = some u) → Gb b = some u → G b = some u := fun {G b u} h e => h b u (fun z => by rw [z, hDu0] at e; cases e) (s7 _ _ e)
      have eBb : Gb B = some (.dT bk) := kB B _ hbo hbS
      have etg : Gb tg' = some (.lst ((d.tags tags fr).map fun k => V.int (k : Nat))) := lt_le _ _ (lB _ _ htg')
      have pm8 := k7 _ _ pm2
      have hpre : ((vs.take j).flatMap fun w => dueW d w y.cps.toList z.cps.toList).length ≤ 20 * 200 := by
        refine Nat.le_trans (flat_len (n := 200) (fun w => Nat.le_trans dueW_len (by omega)) _) ?_
        rw [List.length_take]
        exact Nat.mul_le_mul_right _ (by omega)
      have ntl := (tags_ok htg hok).len
      rw [← hz, lz] at ntl
      have nml := marksP_len (D := w.D) (cs := z.cps.toList)
      refine ⟨.str z, rfl, _, _, rfl, lenV_str (Nat.le_trans hz200 (by decide)), (z.length : Nat), rfl, (by omega), (by omega), ?_⟩
      have en : ((z.length : Nat) : Int).toNat = z.length := by omega
      refine for_it walk_range (fun k σ G => ∃ w9' : Option V, σ = [some (.ref o), some (.ref c), some (.str z), some (.ref tg'), some v1, some (.ref B), some (.str w.nm), w7, w8, w9', some (.ref Ln), some (.ref Du), none] ∧ (∀ b u, b ≠ Du → G8 b = some u → G b = some u) ∧ NPAt G Du (((vs.take j).flatMap fun w => dueW d w y.cps.toList z.cps.toList) ++ ((List.range k).filter (oldAt d w y.cps.toList z.cps.toList)).map fun k => (w.nm, k))) ⟨_, rfl, s9, by simpa using hn9⟩ (fun _ _ _ _ _ => trivial) ?_ ?_
      · rintro k x σ G G' hk ⟨w9', rfl, sG, hnG⟩ ⟨eG, ex⟩
        replace eG := eG.symm
        subst eG
        have ex : x = V.int (k : Nat) := ex.trans (by show V.int (0 + _) = _; rw [Int.zero_add])
        subst ex
        have hk' : k < z.length := by rw [en] at hk; exact hk
        have et := List.getElem?_eq_getElem (show k < (d.tags tags fr).length by omega)
        have eb := List.getElem?_eq_getElem (show k < (marksP w.D z.cps.toList).length by omega)
        generalize (d.tags tags fr)[k]'(by omega) = tt at et
        generalize (marksP w.D z.cps.toList)[k]'(by omega) = nb at eb
        obtain ⟨ob, hob, hold⟩ := bef_get bef htg hok hqw et eb
        refine one_if (test_op ?_)
        refine ⟨.ref B, rfl, B, rfl, ?_, ?_⟩
        · exact .inr ⟨bk, .inl (fG sG eBb)⟩
        refine args_of (var_of rfl (args_of (op_of (var_of rfl (var_of rfl ⟨tg', _, _, .int (tt : Nat), rfl, rfl, SqL.of (fG sG etg), atI_nat (by rw [List.getElem?_map, et]; rfl), args_end ⟨by show 2 ≤ sizeLine; decide, fun kk hkk => ?_⟩⟩)))))
        have sk := same_upd (o := .tup [.str w.nm, .int (tt : Nat)]) hkk
        have ekk : upd G kk (.tup [.str w.nm, .int (tt : Nat)]) kk = some (.tup [.str w.nm, .int (tt : Nat)]) := upd_same
        have sGk : ∀ b u, b ≠ Du → G8 b = some u → upd G kk (.tup [.str w.nm, .int (tt : Nat)]) b = some u := fun b u h e => sk _ _ (sG b u h e)
        have hnk := hnG.same sk
        revert sGk hnk ekk
        generalize upd G kk (.tup [.str w.nm, .int (tt : Nat)]) = G'
        intro ekk sGk hnk
        have eLn := sGk Ln _ nLD hl7
        have epm := sGk pm _ npD pm8
        refine op_of ⟨.ref Ln, rfl, .str w.nm, rfl, Ln, .ref pm, rfl, .inl ⟨lk, Sum.inr w.nm, .inl eLn, rfl, pm1.symm⟩, var_of rfl ⟨pm, _, _, .bl nb, rfl, rfl, SqL.of epm, atI_nat (by rw [List.getElem?_map, eb]; rfl), ?_⟩⟩
        refine ⟨_, .inr ⟨bk, keyN w.nm tt, kk, .inl (fG sGk eBb), rfl, ekk, rfl⟩, ?_⟩
        rw [hob]
        refine op_of ⟨.ref Ln, rfl, .str w.nm, rfl, Ln, .ref pm, rfl, .inl ⟨lk, Sum.inr w.nm, .inl eLn, rfl, pm1.symm⟩, var_of rfl ⟨pm, _, _, .bl nb, rfl, rfl, SqL.of epm, atI_nat (by rw [List.getElem?_map, eb]; rfl), ?_⟩⟩
        refine ⟨rfl, _, rfl, ?_⟩
        rw [hold]
        refine or_ite (fun hb => ?_) fun hb => ?_
        · obtain ⟨bs, hDl, hbs, _⟩ := id hnk
          refine ⟨.ref Du, rfl, .inl ⟨rfl, _, SqL.of hDl⟩, args_of (args_of (var_of rfl (args_of (var_of rfl (args_end ⟨by show 2 ≤ sizeLine; decide, fun tp htp => args_end ?_⟩)))))⟩
          have sp := same_upd (o := .tup [.str w.nm, .int (k : Nat)]) htp
          obtain ⟨xs, y1, y2, y3⟩ := (hnk.same sp).push (p := (w.nm, k)) upd_same
          refine ⟨Du, xs, _, rfl, rfl, y1, ?_, _, rfl, fun b u h e => by rw [upd_ne h]; exact sp _ _ (sGk b u h e), ?_⟩
          · rw [y2, List.length_append, List.length_map]
            have := List.length_filter_le (oldAt d w y.cps.toList z.cps.toList) (List.range k)
            rw [List.length_range] at this
            exact Nat.lt_of_le_of_lt (by omega : _ ≤ 5000) (by decide)
          · rw [List.range_succ, List.filter_append, List.map_append, ← List.append_assoc, show [k].filter (oldAt d w y.cps.toList z.cps.toList) = [k] by rw [List.filter_cons, hb]; rfl]
            exact y3
        · refine ⟨_, rfl, sGk, ?_⟩
          rw [List.range_succ, List.filter_append, List.map_append, ← List.append_assoc, show [k].filter (oldAt d w y.cps.toList z.cps.toList) = [] by rw [List.filter_cons, hb]; rfl, List.map_nil, List.append_nil]
          exact hnk
      · rintro σ G ⟨w9', rfl, sG, hnG⟩
        rw [en] at hnG
        refine ⟨_, _, rfl, sG, ?_⟩
        rw [take_sn hw, List.flatMap_append, List.flatMap_cons, List.flatMap_nil, List.append_nil]
        unfold dueW at hnG ⊢
        rw [lz] at hnG ⊢
        exact hnG
    · rintro σ G9 ⟨w6, w9', rfl, s9, hn9⟩
      have e8 : ((vs.map (·.nm)).map V.str).length = vs.length := by rw [List.length_map, List.length_map]
      rw [e8, List.take_length] at hn9
      have hz1 : ∀ i k, i < y.cps.toList.length → d.from k = some i → k < z.cps.toList.length := fun i k h1 h2 => by
        have := (kept_ok hok (i, k) (kept_iff.mpr ⟨by omega, h2⟩)).2
        rw [hz]
        exact this
      have hz2 : ∀ i k, k < z.cps.toList.length → d.from k = some i → i < y.cps.toList.length := fun i k h1 h2 => by
        have ntl := (tags_ok htg hok).len
        rw [← hz] at ntl
        have et := List.getElem?_eq_getElem (show k < (d.tags tags fr).length by omega)
        have hf := tags_from htg hok et
        rw [h2] at hf
        have := (List.getElem?_eq_some_iff.mp hf).1
        omega
      have hdue := due_sorted hz1 hz2 ok.ok.nd vp vasc
      rw [ly] at hdue
      obtain ⟨bs, hDl, hbs, hbt⟩ := hn9
      dsimp only
      refine ret_te (cb_of (args_of (var_of rfl (args_end ⟨Du, _, rfl, .inl ⟨SqL.of hDl, fun r hr' => ?_⟩⟩))))
      have sr := same_upd (o := .tup (bs.map V.ref)) hr'
      have all : ∀ b u, Gb b = some u → upd G9 r (.tup (bs.map V.ref)) b = some u := fun b u e => sr _ _ (s9 b u (fun z => by rw [z, hDu0] at e; cases e) (s7 _ _ e))
      refine q _ kv3 z (.ref r) (fun b u h e => all b u (kB b u h (s2 _ _ (s1 _ _ e)))) (all _ _ eB) hz (ov.same (lt_mk fun b u _ _ e => all b u e)) ?_
      rw [hdue]
      exact ⟨r, bs, rfl, upd_same, hbs, fun i b p e1 e2 => sr _ _ (hbt i b p e1 e2)⟩
end
end Kx
set_option Elab.async false
set_option linter.all false
set_option maxRecDepth 100000
set_option maxHeartbeats 4000000
namespace Kx
open PySem PySem.Spec PyProof.Rows L2
/-! ### defs that are passed the handled exception, where no repr is under way -/
structure FnHG (P : Program) (w : World) (K : PySem.W.Frag) (mg : Str → Option Value) (base : Heap) (CX : CXT) (k : Nat) (f : Addr) (fd : FuncData) (ps : List Str) (sp : Addr × Obj → Sp) : Prop where
  len : ∀ p vs H Q E, sp p vs H Q E → vs.length = ps.length
  run : ∀ (A : Around) (outer : List Env) (s : Shared) (H : Hp) (args : Args) (us : List Value) (vs : List V) (Q : VK) (E : XK) (p : Addr × Obj), A.guards = some [] → L2H.RoomH k A → L2H.Hot1 A p → L2H.PinOk outer H s p → Env0 P w K mg base A outer s H →
    BindsTo s fd args (ps.zip us) → Vals vs us → sp p vs H Q E → codeAny (model P w) A (.call (.ref f) args) (CR CX outer P w H s Q E) s
theorem fnHG_mk {P : Program} {w : World} {K : PySem.W.Frag} {mg : Str → Option Value} {base : Heap} {CX : CXT} {x q : Str} {st : Stmt} {f : Addr} {fd : FuncData} {N ps : List Str} {k : Nat} {sp : Addr × Obj → Sp} (F : FnP K x q st f fd) (S : FnScope N ps (defScope st))
    (len : ∀ p vs H Q E, sp p vs H Q E → vs.length = ps.length)
    (hbody : ∀ (cdv : Value) (A : Around) (outer : List Env) (s : Shared) (H : Hp) (vs : List V) (Q : VK) (E : XK) (p : Addr × Obj), A.guards = some [] → L2H.Hot1 A p → L2H.RoomH k (A.deeper (envOfC q (defScope st) s.heap.objs.size f cdv)) → sp p vs H Q E →
      ∃ t, PSs (L2H.cxH CX P w K mg base N q (defScope st) f cdv A outer s H E p) (defBody st) t ∧ t { nx := fun _ H' => Q .non H', rt := Q } (start N vs) H) : FnHG P w K mg base CX (k + 1) f fd ps sp := by
  obtain ⟨oc, od, dV, kV, doc, pm, an, cdv, ct, osl, rfl, lk, hcd, _, _⟩ := F.ex
  refine ⟨len, fun A outer s H args us vs Q E p hg hr hot hpin e0 hb r hsp => ?_⟩
  have hl := len _ _ _ _ _ hsp
  have up : ∀ b o, base.get? b = some o → s.heap.get? b = some o := fun b o e => (e0.bs b o e).1
  have kinds : ∀ y ∈ ps.zip us, (defScope st).names.lookup y.1 = some .local ∨ ((defScope st).names.lookup y.1 = some .cell ∧ ((cellsFrom (s.heap.objs.size + 1) (defScope st).names []).lookup y.1).isSome = true) := by
    rintro ⟨n, v⟩ hy
    rcases S.par n (List.of_mem_zip hy).1 with q | q
    · exact .inl q
    · exact .inr ⟨q, PySem.W.cellsFrom_some _ _ _ (.inl q)⟩
  refine codeAny_call_function hr.depth (e0.mod.kin.keeps up _ _ lk) rfl S.co S.gen rfl (PySem.W.codeRec_of (e0.mod.kin.keeps up) hcd) (hb _ _ _ _ ?_)
  refine wpAny_newFunctionEnv_cells S.kind kinds fun env he s1 x => ?_
  subst he
  refine ⟨(e0.mod.nolimit.keeps up).keeps x.toInCall.keep, codeAny_func ?_⟩
  obtain ⟨t, ht, hq⟩ := hbody cdv A outer s H vs Q E p hg hot (hr.deeper _) hsp
  have I : Inv (L2H.cxH CX P w K mg base N q (defScope st) f cdv A outer s H E p) [] (start N vs) H s1 := L2H.inv_startH S hpin e0 hl r x
  refine wpAny_mono (ht.run [] s1 (start N vs) H _ I hq) (fun fl s' hs => ?_) fun _ _ hs => hs
  cases fl with
  | ret u =>
    obtain ⟨v, σ', H', J, rv, q⟩ := hs
    exact ⟨v, H', J.os, J.bare, J.base, J.hok, rv, q⟩
  | next =>
    obtain ⟨σ', H', J, q⟩ := hs
    exact ⟨V.non, H', J.os, J.bare, J.base, J.hok, rfl, q⟩
  | brk => exact False.elim hs.choose_spec.choose_spec.2
  | cont => exact False.elim hs.choose_spec.choose_spec.2
/-- f(e, ..) in the suite: p the exception that is handled -/
theorem pe_callHG {X : Cx} {CX : CXT} {k : Nat} {f : Addr} {fd : FuncData} {ps : List Str} {sp : Addr × Obj → Sp} {E : XK} {x : Str} {q pos : Pos} {e : Expr} {es : List Expr} {t : TA} {p : Addr × Obj} (F : FnHG X.prog X.w X.K X.mg X.base CX k f fd ps sp) (hG : X.A.guards = some [])
    (hr : L2H.RoomH k X.A) (hot : L2H.Hot1 X.A p) (hp : p ∈ X.pn) (hg : Gl X x) (hm : X.mg x = some (.ref f)) (hk : PySem.W.keepIn X.K (.ref f) = true) (hb : Binds X.K fd ps []) (hx : Passes CX X E) (ha : PA X (e :: es) t) (hdb : (x == ("__debug__" : Str)) = false := by decide)
    (he : starEach (e :: es) X.env = (false, eval e X.env) :: starEach es X.env := by rfl) (hpl : (backTo pos (starEach es X.env)).any (·.1) = false := by rfl) : PE X (.Call (.Name x q) (e :: es) [] pos) (fun σ H Q => t σ H fun vs H1 => sp p vs H1 Q E) := by
  constructor
  intro pins s σ H Q I h
  refine wpAny_Call_Name_kw (ld_glob I hg hm ?_ hdb)
  refine PySem.W.callWith_K (h₀ := X.base) I.ok.mod.kin hk (thn (ha.run pos pins s σ H _ I h) fun us s1 hh => ?_) he hpl
  obtain ⟨vs, H1, I1, r, h1⟩ := hh
  refine ⟨I1.kIn, ?_⟩
  have hl : (us ++ []).length = ps.length := by rw [List.append_nil, ← r.length]; exact F.len _ _ _ _ _ h1
  have b := hb s1 us I1.kIn hl
  rw [List.append_nil] at b
  have P1 := I1.pin p (List.mem_append_left _ hp)
  have hpin : L2H.PinOk X.stack H1 s1 p := ⟨P1.1, P1.2.1, fun hm => (List.mem_cons.mp (I1.stkSub p.1 hm)).elim P1.2.2.1 P1.2.2.2.1, P1.2.2.2.2⟩
  refine wpAny_call (codeAny_mono (F.run X.A X.stack s1 H1 ⟨us, []⟩ us vs Q E p hG hr hot hpin I1.env0 b r h1) fun r s' hq => ?_)
  cases r with
  | error er => exact hx pins σ H1 s1 er s' I1 hq
  | ok fl =>
    cases fl with
    | ret u => exact I1.after hq
    | _ => exact False.elim hq
/-! ### isinstance(e, ValueError) of a handled exception -/
section
variable {P : Program} {w : World} {K : PySem.W.Frag} {mg : Str → Option Value} {base : Heap}
theorem ok_law_is_numberH (T : Txt K mg) {f : Addr} {fd : FuncData} (F : FnP K "_law_is_number" "_law_is_number" s__law_is_number f fd) : FnHG P w K mg base CX0 1 f fd ["_law_thing", "_law_low", "_law_high"] (fun _ => sp_law_is_number K) := by
  refine fnHG_mk F sc__law_is_number (fun p vs H Q E h => ?_) (fun cdv A outer s H vs Q E p hG hot hr h => ?_)
  · obtain ⟨v, lo, hi, a, rfl, _⟩ := h; rfl
  · refine ⟨_, PSs.nox (pss_one (ps_ret (pe_and (pe_callB call_isB (by rfl) (fr_isinstance T) b_isinstance (pa_cons (pv 0) (pa_cons (pe_ty (fr_int T) b_int) pa_nil)))
      (pe_and (pe_not (pe_callB call_isB (by rfl) (fr_isinstance T) b_isinstance (pa_cons (pv 0) (pa_cons (pe_ty (fr_bool T) b_bool) pa_nil))))
      (pe_one (pe_chain op_le op_le (pv 1) (pv 0) (pv 2))))))), ?_⟩
    obtain ⟨v, lo, hi, a, rfl, ko, q⟩ := h
    refine ⟨v, rfl, v, "int", a, rfl, ko, k_int a, _, rfl, ?_⟩
    cases hb : a.is "int" with
    | false =>
      refine iteF ?_
      have : numV lo hi v = false := by
        cases v <;> first | rfl | (have := ko_notint ko; subst this; exact Bool.noConfusion hb)
      rw [this] at q; exact q
    | true =>
      refine iteT ⟨v, rfl, v, "bool", a, rfl, ko, k_bool a, _, rfl, _, rfl, ?_⟩
      cases hb2 : a.is "bool" with
      | true =>
        refine iteF ?_
        have ha : a = .bl := by cases a <;> first | rfl | (exact Bool.noConfusion hb2)
        subst ha
        have : numV lo hi v = false := by
          cases v <;> first | rfl | (have := ko_notint ko; cases this)
        rw [this] at q; exact q
      | false =>
        refine iteT ?_
        have ha : a = .int := by cases a <;> first | rfl | (exact Bool.noConfusion hb) | (exact Bool.noConfusion hb2)
        subst ha
        obtain ⟨i, rfl⟩ := ko_int ko
        refine ⟨.int lo, rfl, .int i, rfl, lo, i, rfl, rfl, _, rfl, ?_⟩
        have e : numV lo hi (.int i) = (decide (lo ≤ i) && decide (i ≤ hi)) := rfl
        rw [e] at q
        cases hc : decide (lo ≤ i) with
        | false => rw [hc] at q; exact iteF q
        | true =>
          rw [hc] at q
          exact iteT ⟨.int hi, rfl, i, hi, rfl, rfl, q⟩
end
end Kx
set_option Elab.async false
set_option linter.all false
set_option maxRecDepth 100000
set_option maxHeartbeats 4000000
namespace Kx
open PySem PySem.Spec PyProof.Rows L2
/-- an error as it is due: its class, its field, what the law calls it, what stands in it -/
inductive Rk (H : Hp) : Str → Str → Str → V → Prop
  | place {v : V} {d : PyData} (r : Rp H v d) (ok : ReprOk d) : Rk H "BadPlace" "thing" "place" v
  | letter {v : V} {d : PyData} (r : Rp H v d) (ok : ReprOk d) : Rk H "BadLetter" "thing" "letter" v
  | row (k : Int) : Rk H "BadRow" "at" "row" (.int k)
  | long (k : Int) : Rk H "TooLong" "number" "long" (.int k)
theorem Rk.same {H H' : Hp} {x f k : Str} {v : V} (h : Rk H x f k v) (s : Same H H') : Rk H' x f k v := by
  cases h with
  | place r ok => exact .place (r.same s) ok
  | letter r ok => exact .letter (r.same s) ok
  | row k => exact .row k
  | long k => exact .long k
theorem Rk.told {H : Hp} {x f k : Str} {v : V} (h : Rk H x f k v) : x ∈ toldl := by cases h <;> decide +kernel
theorem Rk.said {K : PySem.W.Frag} {mg : Str → Option Value} (T : Txt K mg) {H : Hp} {x f k : Str} {v : V} (h : Rk H x f k v) : PySem.W.exmOne K (.ref (He.ga K x)) (.ref (He.ga K "SaidError")) = some true := by
  cases h with
  | place r ok => exact said_of T 3
  | letter r ok => exact said_of T 4
  | row k => exact said_of T 1
  | long k => exact said_of T 2
def tRefu (K : PySem.W.Frag) (a : Addr) (cls : Value) (d : Option Addr) : TS := fun D σ H => ∃ (x f k : Str) (dd : Addr) (v : V), cls = .ref (He.ga K x) ∧ d = some dd ∧ H dd = some (.xd [(f, v)]) ∧ Rk H x f k v ∧ σ[2]? = some (some (.str k)) ∧ σ[3]? = some (some v) ∧ σ[4]? = some (some (.ref a)) ∧ D.rt (.bl true) H
theorem psS_any {X : Cx} {b : List Stmt} {t' : TS} (h : ∀ D σ H, t' D σ H → ∃ t, PSs X b t ∧ t D σ H) : PSs X b t' := ⟨fun pins s σ H D I h' => by
  obtain ⟨t, ht, q⟩ := h D σ H h'
  exact ht.run pins s σ H D I q⟩
section
variable {K : PySem.W.Frag} {a : Addr} {dd : Addr} {x y f : Str} {σ : L2.St} {H : Hp} {fs : List (Str × V)}
theorem is_ask {Q : VK} (EF : ErrF K x) (h4 : σ[4]? = some (some (.ref a))) (hd : H dd = some (.xd fs)) (hy : y ∈ askedl) (h : Q (.bl (isErr x y)) H) : tCB (rIsM K (He.ga K x) a (some dd)) (tCons (tVar 4) (tCons (tC (.ref (He.ga K y))) tNil)) σ H Q :=
  ⟨.ref a, h4, He.ga K y, dd, fs, isErr x y, rfl, rfl, hd, EF.kit _ hy, h⟩
theorem kind_is {σ : L2.St} {G : Hp} {k z : Str} {R : Bool → Hp → Prop} (e : σ[2]? = some (some (.str k))) (q : R (decide (k = z)) G) : tTest (tOp rEq (tVar 2) (tC (.str z))) σ G R := word_is e q
theorem xf_of {Q : VK} {v : V} (h4 : σ[4]? = some (some (.ref a))) (hd : H dd = some (.xd [(f, v)])) (q : Q v H) : tXf a (.ref (He.ga K x)) (some dd) (He.ga K x) f (tVar 4) σ H Q :=
  ⟨.ref a, h4, rfl, rfl, dd, _, v, rfl, hd, (by show List.lookup f [(f, v)] = some v; rw [List.lookup_cons]; simp), q⟩
end
section
variable {P : Program} {w : World} {K : PySem.W.Frag} {mg : Str → Option Value} {base : Heap}
def sp_law_refused (K : PySem.W.Frag) : Sp := fun vs H Q _ => ∃ (v0 v1 v : V) (x f k : Str), vs = [v0, v1, .str k, v] ∧ Rk H x f k v ∧ (∀ (Q2 : VK) (E2 : XK), errAt (He.ga K x) f v H E2 → sp_law_do K [v0, v1] H Q2 E2) ∧ ∀ H', Same H H' → Q (.bl true) H'
theorem ok_law_refused (T : Txt K mg) : CalG P w K mg base CX0 9 "_law_refused" ["_law_desk_here", "_law_deed_here", "_law_kind", "_law_thing"] (sp_law_refused K) := by
  obtain ⟨fd, F⟩ := F__law_refused T
  obtain ⟨⟨fdP, FP, bP⟩, _, kP⟩ := ok_law_do (P := P) (w := w) (base := base) T
  obtain ⟨fdN, FN⟩ := F__law_is_number T
  have FE := ok_law_is_numberH (P := P) (w := w) (base := base) T FN
  have bN : Binds K fdN ["_law_thing", "_law_low", "_law_high"] [] := FN.bindsN fun _ _ _ _ _ _ us hl => match us, hl with | [_, _, _], _ => rfl
  refine calG_mk F (g__law_refused T) sc__law_refused (fun _ _ _ _ _ _ us hl => match us, hl with | [_, _, _, _], _ => rfl) (fun vs H Q E h => ?_) (fun cdv A0 outer s H vs Q E hG hr h => ?_)
  · obtain ⟨v0, v1, v, x, f, k, rfl, _⟩ := h; rfl
  · have hu : A0.units + 3 + 64 < cLine := by have := hr.un; have e : (A0.deeper (envOfC "_law_refused" (defScope s__law_refused) s.heap.objs.size (He.ga K "_law_refused") cdv)).units = A0.units + 3 := rfl; omega
    refine ⟨_, PSs.nox (pss_cons (L2N.ps_try_as (i := 4) (c := .ref (He.ga K "SaidError")) (ts := tRefu K) (Wout := fun _ _ _ _ => False) rfl rfl sc__law_refused.nd rfl rfl ⟨by rfl, by decide, .inl (g_SaidError T)⟩ takes_no
      (fun W pn xe tk po => (pss_one (ps_expr (pe_callS (E := fun σ cls d H => W cls d σ H) FP (hr.mono (by decide)) (by rfl) (g__law_do T) kP bP (passAtN tk) (pa_cons (pv 0) (pa_cons (pv 1) pa_nil))))))
      (fun a oe cls d pn hz hf => ?_)) (pss_one (ps_ret pe_bl))), ?_⟩
    · refine psS_any fun D σ H h' => ?_
      obtain ⟨x, f, k, dd, v, rfl, rfl, hdd, rk, e2, e3, e4, q⟩ := h'
      have hm := rk.told
      have EF := errF T hm
      obtain ⟨us, hus⟩ := id hf
      refine ⟨_, ((pss_cons (ps_if (pt_val (pe_callB (r := rIsM K (He.ga K x) a (some dd)) (call_isM EF.xf EF.cl EF.cc (objF T).1 (objF T).2 EF.mo (List.mem_cons_self ..) ⟨hz.1, hz.2.1⟩ hf) (by rfl) (fr_isinstance T) b_isinstance (pa_cons (pv 4) (pa_cons (pe_glob (v := .ref (He.ga K "WrongItem")) (by rfl) (g_WrongItem T) rfl) pa_nil)))) (pss_one (ps_ret pe_bl)) pss_nil)
        (pss_cons (ps_if (pt_cmpR op_eq (pv 2) pe_str (nomark _)) (pss_one (ps_ret (pe_and (pe_callB (r := rIsM K (He.ga K x) a (some dd)) (call_isM EF.xf EF.cl EF.cc (objF T).1 (objF T).2 EF.mo (List.mem_cons_self ..) ⟨hz.1, hz.2.1⟩ hf) (by rfl) (fr_isinstance T) b_isinstance (pa_cons (pv 4) (pa_cons (pe_glob (v := .ref (He.ga K "BadPlace")) (by rfl) (g_BadPlace T) rfl) pa_nil))) (pe_and (pe_not (pe_callB (r := rIsM K (He.ga K x) a (some dd)) (call_isM EF.xf EF.cl EF.cc (objF T).1 (objF T).2 EF.mo (List.mem_cons_self ..) ⟨hz.1, hz.2.1⟩ hf) (by rfl) (fr_isinstance T) b_isinstance (pa_cons (pv 4) (pa_cons (pe_glob (v := .ref (He.ga K "BadLetter")) (by rfl) (g_BadLetter T) rfl) pa_nil)))) (pe_and (pe_callB (r := rIsM K (He.ga K x) a (some dd)) (call_isM EF.xf EF.cl EF.cc (objF T).1 (objF T).2 EF.mo (List.mem_cons_self ..) ⟨hz.1, hz.2.1⟩ hf) (by rfl) (fr_isinstance T) b_isinstance (pa_cons (pv 4) (pa_cons (pe_glob (v := .ref (He.ga K "WrongThing")) (by rfl) (g_WrongThing T) rfl) pa_nil))) (pe_one (pe_cmpR op_eq (pe_callB (call_repr hG hu) (by rfl) (fr_repr T) b_repr (pa_cons (pe_xfM (C := He.ga K x) EF.xf (EF.fld "thing" (by simp)) (List.mem_cons_self ..) ⟨hz.1, hz.2.1⟩ hf (pv 4)) pa_nil)) (pe_callB (call_repr hG hu) (by rfl) (fr_repr T) b_repr (pa_cons (pv 3) pa_nil)) (nomark _)))))))) pss_nil)
        (pss_cons (ps_if (pt_cmpR op_eq (pv 2) pe_str (nomark _)) (pss_one (ps_ret (pe_and (pe_callB (r := rIsM K (He.ga K x) a (some dd)) (call_isM EF.xf EF.cl EF.cc (objF T).1 (objF T).2 EF.mo (List.mem_cons_self ..) ⟨hz.1, hz.2.1⟩ hf) (by rfl) (fr_isinstance T) b_isinstance (pa_cons (pv 4) (pa_cons (pe_glob (v := .ref (He.ga K "BadLetter")) (by rfl) (g_BadLetter T) rfl) pa_nil))) (pe_and (pe_not (pe_callB (r := rIsM K (He.ga K x) a (some dd)) (call_isM EF.xf EF.cl EF.cc (objF T).1 (objF T).2 EF.mo (List.mem_cons_self ..) ⟨hz.1, hz.2.1⟩ hf) (by rfl) (fr_isinstance T) b_isinstance (pa_cons (pv 4) (pa_cons (pe_glob (v := .ref (He.ga K "BadPlace")) (by rfl) (g_BadPlace T) rfl) pa_nil)))) (pe_and (pe_callB (r := rIsM K (He.ga K x) a (some dd)) (call_isM EF.xf EF.cl EF.cc (objF T).1 (objF T).2 EF.mo (List.mem_cons_self ..) ⟨hz.1, hz.2.1⟩ hf) (by rfl) (fr_isinstance T) b_isinstance (pa_cons (pv 4) (pa_cons (pe_glob (v := .ref (He.ga K "WrongThing")) (by rfl) (g_WrongThing T) rfl) pa_nil))) (pe_one (pe_cmpR op_eq (pe_callB (call_repr hG hu) (by rfl) (fr_repr T) b_repr (pa_cons (pe_xfM (C := He.ga K x) EF.xf (EF.fld "thing" (by simp)) (List.mem_cons_self ..) ⟨hz.1, hz.2.1⟩ hf (pv 4)) pa_nil)) (pe_callB (call_repr hG hu) (by rfl) (fr_repr T) b_repr (pa_cons (pv 3) pa_nil)) (nomark _)))))))) pss_nil)
        (pss_cons (ps_if (pt_cmpR op_eq (pv 2) pe_str (nomark _)) (pss_one (ps_ret (pe_and (pe_callB (r := rIsM K (He.ga K x) a (some dd)) (call_isM EF.xf EF.cl EF.cc (objF T).1 (objF T).2 EF.mo (List.mem_cons_self ..) ⟨hz.1, hz.2.1⟩ hf) (by rfl) (fr_isinstance T) b_isinstance (pa_cons (pv 4) (pa_cons (pe_glob (v := .ref (He.ga K "BadRow")) (by rfl) (g_BadRow T) rfl) pa_nil))) (pe_and (pe_not (pe_callB (r := rIsM K (He.ga K x) a (some dd)) (call_isM EF.xf EF.cl EF.cc (objF T).1 (objF T).2 EF.mo (List.mem_cons_self ..) ⟨hz.1, hz.2.1⟩ hf) (by rfl) (fr_isinstance T) b_isinstance (pa_cons (pv 4) (pa_cons (pe_glob (v := .ref (He.ga K "WrongThing")) (by rfl) (g_WrongThing T) rfl) pa_nil)))) (pe_one (pe_callHG (p := (a, oe)) (E := E0) FE hG ⟨(hr.mono (by decide : 1 ≤ 8)).dp, (hr.mono (by decide : 1 ≤ 8)).un⟩ ⟨rfl, us, hus, hz.2.2 us hus⟩ (List.mem_cons_self ..) (by rfl) (g__law_is_number T) FN.kp bN (fun _ _ _ _ _ _ _ z => z.elim) (pa_cons (pe_xfM (C := He.ga K x) EF.xf (EF.fld "at" (by simp)) (List.mem_cons_self ..) ⟨hz.1, hz.2.1⟩ hf (pv 4)) (pa_cons (pv 3) (pa_cons (pv 3) pa_nil))))))))) pss_nil)
        (pss_one (ps_ret (pe_and (pe_callB (r := rIsM K (He.ga K x) a (some dd)) (call_isM EF.xf EF.cl EF.cc (objF T).1 (objF T).2 EF.mo (List.mem_cons_self ..) ⟨hz.1, hz.2.1⟩ hf) (by rfl) (fr_isinstance T) b_isinstance (pa_cons (pv 4) (pa_cons (pe_glob (v := .ref (He.ga K "TooLong")) (by rfl) (g_TooLong T) rfl) pa_nil))) (pe_and (pe_not (pe_callB (r := rIsM K (He.ga K x) a (some dd)) (call_isM EF.xf EF.cl EF.cc (objF T).1 (objF T).2 EF.mo (List.mem_cons_self ..) ⟨hz.1, hz.2.1⟩ hf) (by rfl) (fr_isinstance T) b_isinstance (pa_cons (pv 4) (pa_cons (pe_glob (v := .ref (He.ga K "WrongThing")) (by rfl) (g_WrongThing T) rfl) pa_nil)))) (pe_one (pe_callHG (p := (a, oe)) (E := E0) FE hG ⟨(hr.mono (by decide : 1 ≤ 8)).dp, (hr.mono (by decide : 1 ≤ 8)).un⟩ ⟨rfl, us, hus, hz.2.2 us hus⟩ (List.mem_cons_self ..) (by rfl) (g__law_is_number T) FN.kp bN (fun _ _ _ _ _ _ _ z => z.elim) (pa_cons (pe_xfM (C := He.ga K x) EF.xf (EF.fld "number" (by simp)) (List.mem_cons_self ..) ⟨hz.1, hz.2.1⟩ hf (pv 4)) (pa_cons (pv 3) (pa_cons (pv 3) pa_nil)))))))))))))), ?_⟩
      cases rk with
      | place r ok =>
        refine seq_if (test_val (is_ask EF e4 hdd (by decide +kernel) ⟨_, rfl, ?_⟩))
        rw [show isErr "BadPlace" "WrongItem" = false by decide +kernel]
        refine iteF (go_next ?_)
        dsimp only
        refine seq_if (kind_is e2 ?_)
        rw [decide_eq_true rfl]
        refine iteT (ret_te (is_ask EF e4 hdd (by decide +kernel) ⟨_, rfl, ?_⟩))
        rw [show isErr "BadPlace" "BadPlace" = true by decide +kernel]
        refine iteT (is_ask EF e4 hdd (by decide +kernel) ⟨_, rfl, _, rfl, ?_⟩)
        rw [show isErr "BadPlace" "BadLetter" = false by decide +kernel]
        refine iteT (is_ask EF e4 hdd (by decide +kernel) ⟨_, rfl, ?_⟩)
        rw [show isErr "BadPlace" "WrongThing" = true by decide +kernel]
        refine iteT (op_of (cb_of (args_of (xf_of e4 hdd (args_end ⟨v, _, rfl, r.dp ok.nd, ok.sh, ok.nd, ok.dp, ok.sz, cb_of (args_of (var_of e3 (args_end ⟨v, _, rfl, r.dp ok.nd, ok.sh, ok.nd, ok.dp, ok.sz, rfl, ?_⟩)))⟩)))))
        rw [decide_eq_true rfl]
        exact q
      | letter r ok =>
        refine seq_if (test_val (is_ask EF e4 hdd (by decide +kernel) ⟨_, rfl, ?_⟩))
        rw [show isErr "BadLetter" "WrongItem" = false by decide +kernel]
        refine iteF (go_next ?_)
        dsimp only
        refine seq_if (kind_is e2 ?_)
        rw [decide_eq_false (by decide +kernel)]
        refine iteF (go_next ?_)
        dsimp only
        refine seq_if (kind_is e2 ?_)
        rw [decide_eq_true rfl]
        refine iteT (ret_te (is_ask EF e4 hdd (by decide +kernel) ⟨_, rfl, ?_⟩))
        rw [show isErr "BadLetter" "BadLetter" = true by decide +kernel]
        refine iteT (is_ask EF e4 hdd (by decide +kernel) ⟨_, rfl, _, rfl, ?_⟩)
        rw [show isErr "BadLetter" "BadPlace" = false by decide +kernel]
        refine iteT (is_ask EF e4 hdd (by decide +kernel) ⟨_, rfl, ?_⟩)
        rw [show isErr "BadLetter" "WrongThing" = true by decide +kernel]
        refine iteT (op_of (cb_of (args_of (xf_of e4 hdd (args_end ⟨v, _, rfl, r.dp ok.nd, ok.sh, ok.nd, ok.dp, ok.sz, cb_of (args_of (var_of e3 (args_end ⟨v, _, rfl, r.dp ok.nd, ok.sh, ok.nd, ok.dp, ok.sz, rfl, ?_⟩)))⟩)))))
        rw [decide_eq_true rfl]
        exact q
      | row k =>
        refine seq_if (test_val (is_ask EF e4 hdd (by decide +kernel) ⟨_, rfl, ?_⟩))
        rw [show isErr "BadRow" "WrongItem" = false by decide +kernel]
        refine iteF (go_next ?_)
        dsimp only
        refine seq_if (kind_is e2 ?_)
        rw [decide_eq_false (by decide +kernel)]
        refine iteF (go_next ?_)
        dsimp only
        refine seq_if (kind_is e2 ?_)
        rw [decide_eq_false (by decide +kernel)]
        refine iteF (go_next ?_)
        dsimp only
        refine seq_if (kind_is e2 ?_)
        rw [decide_eq_true rfl]
        refine iteT (ret_te (is_ask EF e4 hdd (by decide +kernel) ⟨_, rfl, ?_⟩))
        rw [show isErr "BadRow" "BadRow" = true by decide +kernel]
        refine iteT (is_ask EF e4 hdd (by decide +kernel) ⟨_, rfl, _, rfl, ?_⟩)
        rw [show isErr "BadRow" "WrongThing" = false by decide +kernel]
        refine iteT (args_of (xf_of e4 hdd (args_of (var_of e3 (args_of (var_of e3 (args_end ⟨.int k, k, k, .int, rfl, .base (.int k), ?_⟩)))))))
        rw [show numV k k (.int k) = true by show (decide (k ≤ k) && decide (k ≤ k)) = true; rw [decide_eq_true (Int.le_refl k)]; rfl]
        exact q
      | long k =>
        refine seq_if (test_val (is_ask EF e4 hdd (by decide +kernel) ⟨_, rfl, ?_⟩))
        rw [show isErr "TooLong" "WrongItem" = false by decide +kernel]
        refine iteF (go_next ?_)
        dsimp only
        refine seq_if (kind_is e2 ?_)
        rw [decide_eq_false (by decide +kernel)]
        refine iteF (go_next ?_)
        dsimp only
        refine seq_if (kind_is e2 ?_)
        rw [decide_eq_false (by decide +kernel)]
        refine iteF (go_next ?_)
        dsimp only
        refine seq_if (kind_is e2 ?_)
        rw [decide_eq_false (by decide +kernel)]
        refine iteF (go_next ?_)
        dsimp only
        refine (ret_te (is_ask EF e4 hdd (by decide +kernel) ⟨_, rfl, ?_⟩))
        rw [show isErr "TooLong" "TooLong" = true by decide +kernel]
        refine iteT (is_ask EF e4 hdd (by decide +kernel) ⟨_, rfl, _, rfl, ?_⟩)
        rw [show isErr "TooLong" "WrongThing" = false by decide +kernel]
        refine iteT (args_of (xf_of e4 hdd (args_of (var_of e3 (args_of (var_of e3 (args_end ⟨.int k, k, k, .int, rfl, .base (.int k), ?_⟩)))))))
        rw [show numV k k (.int k) = true by show (decide (k ≤ k) && decide (k ≤ k)) = true; rw [decide_eq_true (Int.le_refl k)]; rfl]
        exact q
    · obtain ⟨v0, v1, v, x, f, k, rfl, rk, hdo, q⟩ := h
      refine ⟨v0, rfl, v1, rfl, hdo _ _ fun H' sH dx hx => ?_⟩
      exact ⟨true, rk.said T, fun _ a2 _ => ⟨x, f, k, dx, v, rfl, rfl, upd_same, (rk.same sH).same (same_upd hx), rfl, rfl, rfl, q _ (sH.trans (same_upd hx))⟩, fun h => by cases h⟩
end
end Kx
set_option Elab.async false
set_option linter.all false
set_option maxRecDepth 100000
set_option maxHeartbeats 4000000
namespace Kx
open PySem PySem.Spec PyProof.Rows L2
theorem b_max : bootBuiltins "max" = some (.builtin "max") := by decide +kernel
/-- a deed that a desk at this row refuses, and what it says of it -/
inductive Bad (H : Hp) (al y : Str) (c : Addr) : Str → Str → V → Prop
  | putP {va vb : V} {da db : PyData} (h : H c = some (.tup [.str "put", va, vb])) (ra : Rp H va da) (rb : Rp H vb db) (sb : smallT db) (e : belowD ((y.length + 1 : Nat)) da = false) : Bad H al y c "BadPlace" "thing" va
  | putL {va vb : V} {da db : PyData} (h : H c = some (.tup [.str "put", va, vb])) (ra : Rp H va da) (rb : Rp H vb db) (sb : smallT db) (e : belowD ((y.length + 1 : Nat)) da = true) (g : letterL al.cps.toList db = false) : Bad H al y c "BadLetter" "thing" vb
  | putN {va vb : V} {da db : PyData} (h : H c = some (.tup [.str "put", va, vb])) (ra : Rp H va da) (rb : Rp H vb db) (sb : smallT db) (e : belowD ((y.length + 1 : Nat)) da = true) (g : letterL al.cps.toList db = true) (n : y.length = 200) : Bad H al y c "TooLong" "number" (.int 201)
  | takeP {va : V} {da : PyData} (h : H c = some (.tup [.str "take", va])) (ra : Rp H va da) (e : belowD y.length da = false) : Bad H al y c "BadPlace" "thing" va
  | changeP {va vb : V} {da db : PyData} (h : H c = some (.tup [.str "change", va, vb])) (ra : Rp H va da) (rb : Rp H vb db) (sb : smallT db) (e : belowD y.length da = false) : Bad H al y c "BadPlace" "thing" va
  | changeL {va vb : V} {da db : PyData} (h : H c = some (.tup [.str "change", va, vb])) (ra : Rp H va da) (rb : Rp H vb db) (sb : smallT db) (e : belowD y.length da = true) (g : letterL al.cps.toList db = false) : Bad H al y c "BadLetter" "thing" vb
  | row {v : V} {d : PyData} {k : Int} (h : H c = some (.tup [.str "become", v])) (r : Rp H v d) (s : smallT d) (e : wrongL al.cps.toList d = some k) : Bad H al y c "BadRow" "at" (.int k)
theorem Bad.refuses {K : PySem.W.Frag} {H : Hp} {D : DkD} {y : Str} {ds : List Dd} {c : Addr} {x f : Str} {v : V} (pre : DkPre K H D y ds) (b : Bad H D.al y c x f v) (Q2 : VK) (E2 : XK) (e : errAt (He.ga K x) f v H E2) : sp_law_do K [.ref D.x, .ref c] H Q2 E2 := by
  refine ⟨D, c, rfl, pre.dk.same (del_le D.k), ?_⟩
  cases b with
  | putP h ra rb sb g => exact .inl ⟨_, _, h, D, y, ds, _, _, _, _, rfl, pre, ra, rb, sb, fun _ => e, fun z => by rw [g] at z; cases z⟩
  | putL h ra rb sb g g2 => exact .inl ⟨_, _, h, D, y, ds, _, _, _, _, rfl, pre, ra, rb, sb, fun z => (by rw [g] at z; cases z), fun _ => ⟨fun _ => e, fun z => by rw [g2] at z; cases z⟩⟩
  | putN h ra rb sb g g2 n => exact .inl ⟨_, _, h, D, y, ds, _, _, _, _, rfl, pre, ra, rb, sb, fun z => (by rw [g] at z; cases z), fun _ => ⟨fun z => (by rw [g2] at z; cases z), fun _ => ⟨fun _ => (by rw [n]; exact e), fun z => by omega⟩⟩⟩
  | takeP h ra g => exact .inr (.inl ⟨_, h, D, y, ds, _, _, rfl, pre, ra, fun _ => e, fun z => by rw [g] at z; cases z⟩)
  | changeP h ra rb sb g => exact .inr (.inr (.inl ⟨_, _, h, D, y, ds, _, _, _, _, rfl, pre, ra, rb, sb, fun _ => e, fun z => by rw [g] at z; cases z⟩))
  | changeL h ra rb sb g g2 => exact .inr (.inr (.inl ⟨_, _, h, D, y, ds, _, _, _, _, rfl, pre, ra, rb, sb, fun z => (by rw [g] at z; cases z), fun _ => ⟨fun _ => e, fun z => by rw [g2] at z; cases z⟩⟩))
  | row h r s g => exact .inr (.inr (.inr ⟨_, h, D, y, ds, _, _, rfl, pre, r, s, fun k z => (by rw [g] at z; cases z; exact e), fun z => by rw [g] at z; cases z⟩))
theorem Bad.same {H H' : Hp} {al y : Str} {c : Addr} {x f : Str} {v : V} (b : Bad H al y c x f v) (s : Same H H') : Bad H' al y c x f v := by
  cases b with
  | putP h ra rb sb g => exact .putP (s _ _ h) (ra.same s) (rb.same s) sb g
  | putL h ra rb sb g g2 => exact .putL (s _ _ h) (ra.same s) (rb.same s) sb g g2
  | putN h ra rb sb g g2 n => exact .putN (s _ _ h) (ra.same s) (rb.same s) sb g g2 n
  | takeP h ra g => exact .takeP (s _ _ h) (ra.same s) g
  | changeP h ra rb sb g => exact .changeP (s _ _ h) (ra.same s) (rb.same s) sb g
  | changeL h ra rb sb g g2 => exact .changeL (s _ _ h) (ra.same s) (rb.same s) sb g g2
  | row h r s' g => exact .row (s _ _ h) (r.same s) s' g
def reprB (d : PyData) : Bool := d.showable && (!d.hasDict && (decide (d.depth ≤ 60) && decide (d.shown.length ≤ 1000)))
theorem reprB_ok {d : PyData} (h : reprB d = true) : ReprOk d := by
  unfold reprB at h
  simp only [Bool.and_eq_true, decide_eq_true_eq, Bool.not_eq_true'] at h
  exact ⟨h.1, h.2.1, h.2.2.1, .inr (Nat.le_trans h.2.2.2 (by decide))⟩
def wrongs (al : Str) (c : Nat) : List PyData := [.str "", .str "z", .none, .int 0, .str (Txt.mul ⟨#[c]⟩ (2 : Nat)), .str (if 1 < al.length then al else "aa")]
theorem wrongs_ok : ∀ al ∈ menuA, ∀ c, al.cps.toList[0]? = some c → ∀ d ∈ wrongs al c, letterL al.cps.toList d = false ∧ ReprOk d ∧ smallT d := by
  have h : ∀ al ∈ menuA, ∀ c ∈ al.cps.toList[0]?, ∀ d ∈ wrongs al c, letterL al.cps.toList d = false ∧ reprB d = true ∧ (match d with | .str z => decide (z.length ≤ 1000) | _ => true) = true := by decide +kernel
  intro al hal c hc d hd
  obtain ⟨h1, h2, h3⟩ := h al hal c hc d hd
  refine ⟨h1, reprB_ok h2, fun z e => ?_⟩
  rw [e] at h3
  exact Nat.le_trans (of_decide_eq_true h3) (by decide)
def offD (n : Nat) : List PyData := [.int (-1), .int (n : Nat), .bool true, .none, .str "0"]
def offV (n : Nat) : List V := [.int (-1), .int (n : Nat), .bl true, .non, .str "0"]
theorem off_rp {H : Hp} (n : Nat) : RpL H (offV n) (offD n) := .cons (.int _) (.cons (.int _) (.cons (.bl _) (.cons .non (.cons (.str _) .nil))))
theorem off_ok {n : Nat} (hn : n ≤ 1000) : ∀ d ∈ offD n, belowD n d = false ∧ ReprOk d ∧ smallT d := by
  have h0 : ∀ d ∈ ([.bool true, .none, .str "0"] : List PyData), reprB d = true := by decide +kernel
  intro d hd
  simp only [offD, List.mem_cons, List.not_mem_nil, or_false] at hd
  rcases hd with rfl | rfl | rfl | rfl | rfl
  · exact ⟨rfl, reprOk_int ⟨by omega, by omega⟩, fun z e => by cases e⟩
  · refine ⟨?_, reprOk_int ⟨by omega, by omega⟩, fun z e => by cases e⟩
    show (decide ((0 : Int) ≤ (n : Nat)) && decide (((n : Nat) : Int) < (n : Nat))) = false
    rw [decide_eq_false (show ¬ ((n : Nat) : Int) < (n : Nat) by omega), Bool.and_false]
  · exact ⟨rfl, reprB_ok (h0 _ (by simp)), fun z e => by cases e⟩
  · exact ⟨rfl, reprB_ok (h0 _ (by simp)), fun z e => by cases e⟩
  · exact ⟨rfl, reprB_ok (h0 _ (by simp)), fun z e => by cases e; decide⟩
theorem below_of {n k : Nat} (h : k < n) : belowD n (.int (k : Nat)) = true := by
  show (decide ((0 : Int) ≤ (k : Nat)) && decide (((k : Nat) : Int) < (n : Nat))) = true
  rw [decide_eq_true (by omega), decide_eq_true (by omega)]
  rfl
def strangeL : List Nat := [105, 65, 32]
theorem strange_at : ∀ k, k < 3 → ∃ c, c ∈ strangeL ∧ [V.str "i", V.str "A", V.str " "][k]? = some (V.str ⟨#[c]⟩) := by
  intro k hk
  match k, hk with
  | 0, _ => exact ⟨105, by decide, rfl⟩
  | 1, _ => exact ⟨65, by decide, rfl⟩
  | 2, _ => exact ⟨32, by decide, rfl⟩
theorem strange_menu : ∀ al ∈ menuA, ∀ c ∈ strangeL, c ∉ al.cps.toList := by decide +kernel
theorem strange_row {al r z : Str} {k c : Nat} (hr : over al 9 r) (hk : k ≤ r.length) (hc : c ∉ al.cps.toList) (hz : z.cps.toList = r.cps.toList.take k ++ c :: r.cps.toList.drop k) : wrongL al.cps.toList (.str z) = some ((k : Nat) : Int) ∧ z.length ≤ 10 := by
  have lr : r.cps.toList.length = r.length := Array.length_toList
  have lz : z.cps.toList.length = z.length := Array.length_toList
  have r9 := hr.1
  have hl : z.length = r.length + 1 := by rw [← lz, hz, ← lr]; simp only [List.length_append, List.length_cons, List.length_take, List.length_drop]; omega
  refine ⟨?_, by omega⟩
  show (if z.length ≤ 200 then firstNot al.cps.toList z.cps.toList 0 else some (-1)) = _
  rw [if_pos (by omega)]
  have := firstNot_at (al := al.cps.toList) (cs := z.cps.toList) (k := 0) (i := k) (c := c) (by rw [hz, List.getElem?_append_right (by rw [List.length_take]; omega), List.length_take, Nat.min_eq_left (by omega), Nat.sub_self]; rfl) (fun j x hj e => by
    rw [hz, List.getElem?_append_left (by rw [List.length_take]; omega), List.getElem?_take, if_pos hj] at e
    exact hr.2 x (List.mem_of_getElem? e)) hc
  rw [this, Nat.zero_add]
def wrongV (al : Str) (c : Nat) : List V := [.str "", .str "z", .non, .int 0, .str (Txt.mul ⟨#[c]⟩ (2 : Nat)), .str (if 1 < al.length then al else "aa")]
theorem wrong_rp {H : Hp} (al : Str) (c : Nat) : RpL H (wrongV al c) (wrongs al c) := .cons (.str _) (.cons (.str _) (.cons .non (.cons (.int _) (.cons (.str _) (.cons (.str _) .nil)))))
/-- an item of a list of plain things -/
theorem plain_at {xs : List V} {ds : List PyData} (h : ∀ H : Hp, RpL H xs ds) {i n : Nat} (hn : xs.length = n) (hi : i < n) : ∃ v d, xs[i]? = some v ∧ d ∈ ds ∧ ∀ H : Hp, Rp H v d := by
  have e := List.getElem?_eq_getElem (show i < xs.length by omega)
  obtain ⟨d, hd, _⟩ := (h fun _ => none).get e
  refine ⟨_, d, e, List.mem_of_getElem? hd, fun H => ?_⟩
  obtain ⟨d', hd', r⟩ := (h H).get e
  rw [hd] at hd'
  cases hd'
  exact r
/-- return ((..), "kind", thing) -/
theorem tell {ta : TA} {tv : TE} {D : Ends} {σ : L2.St} {G : Hp} {xs : List V} {k : Str} {v : V} (hta : ∀ Q' : List V → Hp → Prop, Q' xs G → ta σ G Q') (htv : ∀ (G' : Hp) (Q' : VK), Q' v G' → tv σ G' Q') (hl : xs.length ≤ 5) (q : ∀ c t G', Same G G' → G' c = some (.tup xs) → G' t = some (.tup [.ref c, .str k, v]) → D.rt (.ref t) G') :
    tRet (tTup (tCons (tTup ta) (tCons (tC (.str k)) (tCons tv tNil)))) D σ G :=
  ret_te (args_of (hta _ ⟨Nat.le_trans hl (by decide), fun c hc => args_of (c_of (args_of (htv _ _ (args_end ⟨by show 3 ≤ sizeLine; decide, fun t ht => q c t _ ((same_upd hc).trans (same_upd ht)) (same_upd ht _ _ upd_same) upd_same⟩))))⟩))
section
variable {P : Program} {w : World} {K : PySem.W.Frag} {mg : Str → Option Value} {base : Heap}
def sp_law_bad_deed : Sp := fun vs H Q _ => ∃ (a o : Addr) (kvs : List (L2.Key × V)) (y al : Str), vs = [.ref a, .ref o] ∧ SrcAt H a ∧ H o = some (.dK kvs) ∧ valV kvs (Sum.inr "row") = some (.str y) ∧ valV kvs (Sum.inr "alphabet") = some (.str al) ∧ al ∈ menuA ∧ over al 200 y ∧
  ∀ H' t c x f k v, Fra a H H' → H' t = some (.tup [.ref c, .str k, v]) → Rk H' x f k v → Bad H' al y c x f v → Q (.ref t) H'
theorem ok_law_bad_deed (T : Txt K mg) : Cal P w K mg base CX0 4 "_law_bad_deed" ["_law_source_here", "_law_own"] sp_law_bad_deed := by
  obtain ⟨fd, F⟩ := F__law_bad_deed T
  refine cal_mk F (g__law_bad_deed T) sc__law_bad_deed (fun _ _ _ _ _ _ us hl => match us, hl with | [_, _], _ => rfl) (fun vs H Q E h => ?_) (fun cdv A outer s H vs Q E hr h => ?_)
  · obtain ⟨a, o, kvs, y, al, rfl, _⟩ := h; rfl
  · refine ⟨_, PSs.nox (pss_cons (ps_set (i := 2) sc__law_bad_deed.nd rfl (Or.inl rfl) (pe_dget (hu1 hr) (pv 1) pe_str (fun _ _ => rfl)))
        (pss_cons (ps_set (i := 3) sc__law_bad_deed.nd rfl (Or.inl rfl) (pe_callB call_len (by rfl) (fr_len T) boot_len (pa_cons (pe_dget (hu1 hr) (pv 1) pe_str (fun _ _ => rfl)) pa_nil)))
        (pss_cons (ps_set (i := 4) sc__law_bad_deed.nd rfl (Or.inl rfl) (pe_ix ix_str (pv 2) (pe_cal (ok_law_pick T) (hr.mono (by decide)) pass0 (pa_cons (pv 0) (pa_cons (pe_callB call_len (by rfl) (fr_len T) boot_len (pa_cons (pv 2) pa_nil)) pa_nil))) (fun _ _ => rfl)))
        (pss_cons (ps_set (i := 5) sc__law_bad_deed.nd rfl (Or.inl rfl) (pe_cal (ok_law_place T) (hr.mono (by decide)) pass0 (pa_cons (pv 0) (pa_cons (pe_callB (call_max2 rfl) (by rfl) (fr_max T) b_max (pa_cons pe_int (pa_cons (pv 3) pa_nil))) pa_nil))))
        (pss_cons (ps_set (i := 6) sc__law_bad_deed.nd rfl (Or.inl rfl) (pe_ix ix_list (pe_lst (pa_cons pe_str (pa_cons pe_str (pa_cons pe_non (pa_cons pe_int (pa_cons (pe_op op_repE (pe_ix ix_str (pv 2) pe_int (fun _ _ => rfl)) pe_int) (pa_cons (pe_ifExp (pt_cmpR op_gt (pe_callB call_len (by rfl) (fr_len T) boot_len (pa_cons (pv 2) pa_nil)) pe_int (nomark _)) (pv 2) pe_str) pa_nil))))))) (pe_cal (ok_law_pick T) (hr.mono (by decide)) pass0 (pa_cons (pv 0) (pa_cons pe_int pa_nil))) (fun _ _ => rfl)))
        (pss_cons (ps_set (i := 7) sc__law_bad_deed.nd rfl (Or.inl rfl) (pe_cal (ok_law_pick T) (hr.mono (by decide)) pass0 (pa_cons (pv 0) (pa_cons pe_int pa_nil))))
        (pss_cons (ps_set (i := 8) sc__law_bad_deed.nd rfl (Or.inl rfl) (pe_cal (ok_law_pick T) (hr.mono (by decide)) pass0 (pa_cons (pv 0) (pa_cons pe_int pa_nil))))
        (pss_cons (ps_if (pt_cmpR op_lt (pv 8) pe_int (nomark _)) (pss_cons (ps_set (i := 9) sc__law_bad_deed.nd rfl (Or.inl rfl) (pe_ix ix_list (pe_lst (pa_cons (pe_un un_neg pe_int) (pa_cons (pe_op op_add (pv 3) pe_int) (pa_cons pe_bl (pa_cons pe_non (pa_cons pe_str pa_nil)))))) (pv 7) (fun _ _ => rfl)))
        (pss_cons (ps_if (pt_cmpR op_eq (pv 8) pe_int (nomark _)) (pss_one (ps_ret (pe_tup (pa_cons (pe_tup (pa_cons pe_str (pa_cons (pv 5) (pa_cons (pv 6) pa_nil)))) (pa_cons pe_str (pa_cons (pv 6) pa_nil)))))) pss_nil)
        (pss_one (ps_ret (pe_tup (pa_cons (pe_tup (pa_cons pe_str (pa_cons (pv 9) (pa_cons (pe_ifExp (pt_cmpR op_eq (pv 8) pe_int (nomark _)) (pv 4) (pv 6)) pa_nil)))) (pa_cons pe_str (pa_cons (pv 9) pa_nil)))))))) pss_nil)
        (pss_cons (ps_set (i := 9) sc__law_bad_deed.nd rfl (Or.inl rfl) (pe_ix ix_list (pe_lst (pa_cons (pe_un un_neg pe_int) (pa_cons (pv 3) (pa_cons pe_bl (pa_cons pe_non (pa_cons pe_str pa_nil)))))) (pv 7) (fun _ _ => rfl)))
        (pss_cons (ps_if (pt_cmpR op_eq (pv 8) pe_int (nomark _)) (pss_one (ps_ret (pe_tup (pa_cons (pe_tup (pa_cons pe_str (pa_cons (pv 9) pa_nil))) (pa_cons pe_str (pa_cons (pv 9) pa_nil)))))) pss_nil)
        (pss_cons (ps_if (PW.pt (pw_and (pt_cmpR op_eq (pv 8) pe_int (nomark _)) (pw_and1 (pt_cmpR op_gt (pv 3) pe_int (nomark _))))) (pss_one (ps_ret (pe_tup (pa_cons (pe_tup (pa_cons pe_str (pa_cons (pv 5) (pa_cons (pv 6) pa_nil)))) (pa_cons pe_str (pa_cons (pv 6) pa_nil)))))) pss_nil)
        (pss_cons (ps_if (pt_cmpR op_lt (pv 8) pe_int (nomark _)) (pss_one (ps_ret (pe_tup (pa_cons (pe_tup (pa_cons pe_str (pa_cons (pv 9) (pa_cons (pe_ifExp (pt_cmpR op_eq (pv 8) pe_int (nomark _)) (pv 4) (pv 6)) pa_nil)))) (pa_cons pe_str (pa_cons (pv 9) pa_nil)))))) pss_nil)
        (pss_cons (ps_if (PW.pt (pw_and (pt_cmpR op_eq (pv 8) pe_int (nomark _)) (pw_and1 (pt_cmpR op_eq (pv 3) pe_int (nomark _))))) (pss_one (ps_ret (pe_tup (pa_cons (pe_tup (pa_cons pe_str (pa_cons (pv 5) (pa_cons (pv 4) pa_nil)))) (pa_cons pe_str (pa_cons pe_int pa_nil)))))) pss_nil)
        (pss_cons (ps_if (pt_cmpR op_lt (pv 8) pe_int (nomark _)) (pss_cons (ps_set (i := 10) sc__law_bad_deed.nd rfl (Or.inl rfl) (pe_cal (ok_law_word T) (hr.mono (by decide)) pass0 (pa_cons (pv 0) (pa_cons (pv 2) (pa_cons pe_int pa_nil)))))
        (pss_cons (ps_set (i := 11) sc__law_bad_deed.nd rfl (Or.inl rfl) (pe_cal (ok_law_pick T) (hr.mono (by decide)) pass0 (pa_cons (pv 0) (pa_cons (pe_op op_add (pe_callB call_len (by rfl) (fr_len T) boot_len (pa_cons (pv 10) pa_nil)) pe_int) pa_nil))))
        (pss_one (ps_ret (pe_tup (pa_cons (pe_tup (pa_cons pe_str (pa_cons (pe_op op_add_str (pe_op op_add_str (pe_slice sl_str (pv 10) po_none (po_some (pv 11))) (pe_ix ix_list (pe_lst (pa_cons pe_str (pa_cons pe_str (pa_cons pe_str pa_nil)))) (pe_op op_mod (pe_callTy call_int1 (by rfl) (fr_int T) b_int (pa_cons (pv 7) pa_nil)) pe_int) (fun _ _ => rfl))) (pe_slice sl_str (pv 10) (po_some (pv 11)) po_none)) pa_nil))) (pa_cons pe_str (pa_cons (pv 11) pa_nil)))))))) pss_nil)
        (pss_one (ps_ret (pe_tup (pa_cons (pe_tup (pa_cons pe_str (pa_cons (pe_ix ix_list (pe_lst (pa_cons pe_non (pa_cons pe_int (pa_cons (pe_op op_repE (pe_ix ix_str (pv 2) pe_int (fun _ _ => rfl)) pe_int) (pa_cons (pe_tup (pa_cons pe_str pa_nil)) (pa_cons (pe_lst (pa_cons (pe_ix ix_str (pv 2) pe_int (fun _ _ => rfl)) pa_nil)) pa_nil)))))) (pv 7) (fun _ _ => rfl)) pa_nil))) (pa_cons pe_str (pa_cons (pe_un un_neg pe_int) pa_nil)))))))))))))))))))), ?_⟩
    obtain ⟨a, o, kvs, y, al, rfl, hs, ho, hv, hva, hal, hy, q⟩ := h
    obtain ⟨h1, h8⟩ := menu_len al hal
    have hy2 := hy.1
    have lal : al.cps.toList.length = al.length := Array.length_toList
    refine asg_set (own_get rfl ho hva ?_)
    rintro σ1 rfl
    refine asg_set (cb_of (args_of (own_get rfl ho hv (args_end ⟨_, _, rfl, lenV_str (Nat.le_trans hy.1 (by decide)), ?_⟩))))
    rintro σ2 rfl
    refine asg_set (op_of (var_of rfl (draw rfl (fun Q' k => lenS rfl (by omega) k) (by omega) (by omega) hs fun d G1 f1 hd => ?_)))
    obtain ⟨c, hc, hc2⟩ := mem_of_nat hd
    refine ⟨al, _, c, rfl, rfl, Nat.le_trans h8 (by decide), atI_nat hc2, ?_⟩
    rintro σ3 rfl
    have mx : (if ((y.length : Nat) : Int) > 1 then ((y.length : Nat) : Int) else 1) = ((max 1 y.length : Nat) : Int) := by split <;> omega
    refine asg_set (call_of (args_of (var_of rfl (args_of (cb_of (args_of (c_of (args_of (var_of rfl (args_end ⟨1, ((y.length : Nat) : Int), rfl, args_end ⟨a, max 1 y.length, by rw [mx]; rfl, by omega, by omega, f1.src, fun G2 pl f2 hpl => ?_⟩⟩))))))))))
    rintro σ4 rfl
    have f12 := f1.trans f2
    obtain ⟨c0, _, hc0, _, a0, _⟩ := atI_ends h1
    have e0 : al.cps.toList[0]? = some c0 := by
      have h0 := List.getElem?_eq_getElem (show 0 < al.cps.toList.length by omega)
      have := atI_nat (j := 0) h0
      rw [h0]
      exact this.symm.trans a0
    have hif : ∀ {σ : L2.St} {G : Hp} {Q' : VK}, σ[2]? = some (some (.str al)) → Q' (.str (if 1 < al.length then al else "aa")) G → tIf (tTest (tOp (rI0 fun i j => .bl (decide (i > j))) (tCB (rLen K) (tCons (tVar 2) tNil)) (tC (.int 1)))) (tVar 2) (tC (.str "aa")) σ G Q' := fun e k => if_e (test_op (lenS e (by omega) (c_of ⟨_, _, rfl, rfl, _, rfl, or_ite (fun h => var_of e (by have h := of_decide_eq_true h; rw [if_pos (by omega)] at k; exact k)) fun h => c_of (by have h := of_decide_eq_false h; rw [if_neg (by omega)] at k; exact k)⟩)))
    refine asg_set (op_of (args_of (c_of (args_of (c_of (args_of (c_of (args_of (c_of (args_of (op_of (op_of (var_of rfl (c_of ⟨al, _, c0, rfl, rfl, Nat.le_trans h8 (by decide), a0, c_of ⟨_, 2, rfl, rfl, by omega, by omega, by rw [len_one]; omega, args_of (hif rfl (args_end ⟨by show 6 ≤ sizeLine; decide, fun l1 hl1 => ?_⟩))⟩⟩))))))))))))))
    have s1 := same_upd (o := .lst [.str "", .str "z", .non, .int 0, .str (Txt.mul ⟨#[c0]⟩ (2 : Nat)), .str (if 1 < al.length then al else "aa")]) hl1
    refine drawC rfl (by omega) (by omega) (f2.src.same s1) fun wr G3 f3 hwr => ?_
    have el1 : G3 l1 = some (.lst (wrongV al c0)) := f3.keep (f2.src.same s1) upd_same fun A S C z => by unfold three at z; injection z with z; exact absurd (congrArg List.length z) (by show ¬ (6 = 3); decide)
    obtain ⟨wv, wd, ew, wm, wr'⟩ := plain_at (fun H => wrong_rp (H := H) al c0) (i := wr) (n := 6) rfl (by omega)
    obtain ⟨w1, w2, w3⟩ := wrongs_ok al hal c0 e0 wd wm
    refine ⟨l1, _, _, wv, rfl, rfl, SqL.of el1, atI_nat ew, ?_⟩
    rintro σ6 rfl
    have f13 := f12.trans ((Fra.same f2.src s1).trans f3)
    refine asg_set (drawC rfl (by omega) (by omega) f13.src fun far G4 f4 hfar => ?_)
    rintro σ7 rfl
    refine asg_set (drawC rfl (by omega) (by omega) f4.src fun way G5 f5 hway => ?_)
    rintro σ8 rfl
    have f15 := f13.trans (f4.trans f5)
    have hyn := hy.1
    -- what is told at the end
    refine seq_if (lt_t rfl ?_)
    refine or_ite (fun hw => ?_) fun hw => go_next ?_
    · have hw := of_decide_eq_true hw
      refine asg_set (op_of (args_of ⟨1, rfl, args_of (op_of (var_of rfl ⟨_, 1, rfl, rfl, args_of (c_of (args_of (c_of (args_of (c_of (args_end ⟨by show 5 ≤ sizeLine; decide, fun l2 hl2 => ?_⟩))))))⟩))⟩))
      have s2 := same_upd (o := .lst (offV (y.length + 1))) hl2
      obtain ⟨ov, od, eo, om, ord⟩ := plain_at (fun H => off_rp (H := H) (y.length + 1)) (i := far) (n := 5) rfl (by omega)
      obtain ⟨o1, o2, o3⟩ := off_ok (n := y.length + 1) (by omega) od om
      refine var_of rfl ⟨l2, offV (y.length + 1), _, ov, rfl, rfl, SqL.of upd_same, atI_nat eo, ?_⟩
      rintro σ9 rfl
      have f6 := f15.trans (Fra.same f15.src s2)
      refine seq_if (eq_t rfl ?_)
      refine or_ite (fun h1w => ?_) fun h1w => go_next ?_
      · refine tell (xs := [.str "put", .int (pl : Nat), wv]) (v := wv) (fun Q' k => args_of (c_of (args_of (var_of rfl (args_of (var_of rfl (args_end k))))))) (fun G' Q' k => var_of rfl k) (by show 3 ≤ 5; omega) fun c1 t1 G' sg ec et => ?_
        exact q G' t1 c1 _ _ _ _ (f6.trans (Fra.same f6.src sg)) et (.letter (wr' _) w2) (.putL ec (.int _) (wr' _) w3 (below_of (by omega)) w1)
      · dsimp only
        have pe2 : ∀ {Q' : VK} {G : Hp}, (∀ (vb : V) (db : PyData), Rp G vb db → smallT db → Q' vb G) → tIf (tTest (tOp rEq (tVar 8) (tC (.int 0)))) (tVar 4) (tVar 6) ((((((((((L2.start N__law_bad_deed [.ref a, .ref o]).set 2 (some (.str al))).set 3 (some (.int (y.length : Nat)))).set 4 (some (.str ⟨#[c]⟩))).set 5 (some (.int (pl : Nat)))).set 6 (some wv)).set 7 (some (.int (far : Nat)))).set 8 (some (.int (way : Nat)))).set 9 (some ov))) G Q' := fun k => if_e (eq_t rfl (or_ite (fun _ => var_of rfl (k _ _ (.str _) (smallT_str (by rw [len_one]; omega)))) fun _ => var_of rfl (k _ _ (wr' _) w3)))
        refine ret_te (args_of (args_of (c_of (args_of (var_of rfl (args_of (pe2 fun vb db rb sb => args_end ⟨by show 3 ≤ sizeLine; decide, fun c1 hc1 => args_of (c_of (args_of (var_of rfl (args_end ⟨by show 3 ≤ sizeLine; decide, fun t1 ht1 => ?_⟩))))⟩)))))))
        have sc := same_upd (o := .tup [.str "put", ov, vb]) hc1
        have st := same_upd (o := .tup [.ref c1, .str "place", ov]) ht1
        exact q _ t1 c1 _ _ _ _ (f6.trans (Fra.same f6.src (sc.trans st))) upd_same (.place (ord _) o2) (.putP (st _ _ upd_same) (ord _) ((rb.same sc).same st) sb o1)
    have hw3 := of_decide_eq_false hw
    dsimp only
    refine asg_set (op_of (args_of ⟨1, rfl, args_of (var_of rfl (args_of (c_of (args_of (c_of (args_of (c_of (args_end ⟨by show 5 ≤ sizeLine; decide, fun l2 hl2 => ?_⟩))))))))⟩))
    have s2 := same_upd (o := .lst (offV y.length)) hl2
    obtain ⟨ov, od, eo, om, ord⟩ := plain_at (fun H => off_rp (H := H) y.length) (i := far) (n := 5) rfl (by omega)
    obtain ⟨o1, o2, o3⟩ := off_ok (n := y.length) (by omega) od om
    refine var_of rfl ⟨l2, offV y.length, _, ov, rfl, rfl, SqL.of upd_same, atI_nat eo, ?_⟩
    rintro σ9 rfl
    have f6 := f15.trans (Fra.same f15.src s2)
    have pe2 : ∀ {Q' : VK} {G : Hp}, (∀ (vb : V) (db : PyData), Rp G vb db → smallT db → Q' vb G) → tIf (tTest (tOp rEq (tVar 8) (tC (.int 5)))) (tVar 4) (tVar 6) ((((((((((L2.start N__law_bad_deed [.ref a, .ref o]).set 2 (some (.str al))).set 3 (some (.int (y.length : Nat)))).set 4 (some (.str ⟨#[c]⟩))).set 5 (some (.int (pl : Nat)))).set 6 (some wv)).set 7 (some (.int (far : Nat)))).set 8 (some (.int (way : Nat)))).set 9 (some ov))) G Q' := fun k => if_e (eq_t rfl (or_ite (fun _ => var_of rfl (k _ _ (.str _) (smallT_str (by rw [len_one]; omega)))) fun _ => var_of rfl (k _ _ (wr' _) w3)))
    refine seq_if (eq_t rfl ?_)
    refine or_ite (fun h3w => ?_) fun h3w => go_next ?_
    · refine tell (xs := [.str "take", ov]) (v := ov) (fun Q' k => args_of (c_of (args_of (var_of rfl (args_end k))))) (fun G' Q' k => var_of rfl k) (by show 2 ≤ 5; omega) fun c1 t1 G' sg ec et => ?_
      exact q G' t1 c1 _ _ _ _ (f6.trans (Fra.same f6.src sg)) et (.place (ord _) o2) (.takeP ec (ord _) o1)
    dsimp only
    refine seq_if (and_t (fun R k => eq_t rfl k) (fun R k => test_op (var_of rfl ⟨_, _, rfl, rfl, _, rfl, k⟩)) ?_)
    refine or_ite (fun h4w => ?_) fun h4w => go_next ?_
    · rw [Bool.and_eq_true, decide_eq_true_eq, decide_eq_true_eq] at h4w
      refine tell (xs := [.str "change", .int (pl : Nat), wv]) (v := wv) (fun Q' k => args_of (c_of (args_of (var_of rfl (args_of (var_of rfl (args_end k))))))) (fun G' Q' k => var_of rfl k) (by show 3 ≤ 5; omega) fun c1 t1 G' sg ec et => ?_
      exact q G' t1 c1 _ _ _ _ (f6.trans (Fra.same f6.src sg)) et (.letter (wr' _) w2) (.changeL ec (.int _) (wr' _) w3 (below_of (by omega)) w1)
    dsimp only
    refine seq_if (lt_t rfl ?_)
    refine or_ite (fun h5w => ?_) fun h5w => go_next ?_
    · refine ret_te (args_of (args_of (c_of (args_of (var_of rfl (args_of (pe2 fun vb db rb sb => args_end ⟨by show 3 ≤ sizeLine; decide, fun c1 hc1 => args_of (c_of (args_of (var_of rfl (args_end ⟨by show 3 ≤ sizeLine; decide, fun t1 ht1 => ?_⟩))))⟩)))))))
      have sc := same_upd (o := .tup [.str "change", ov, vb]) hc1
      have st := same_upd (o := .tup [.ref c1, .str "place", ov]) ht1
      exact q _ t1 c1 _ _ _ _ (f6.trans (Fra.same f6.src (sc.trans st))) upd_same (.place (ord _) o2) (.changeP (st _ _ upd_same) (ord _) ((rb.same sc).same st) sb o1)
    dsimp only
    refine seq_if (and_t (fun R k => eq_t rfl k) (fun R k => eq_t rfl k) ?_)
    refine or_ite (fun h6w => ?_) fun h6w => go_next ?_
    · rw [Bool.and_eq_true, decide_eq_true_eq, decide_eq_true_eq] at h6w
      refine tell (xs := [.str "put", .int (pl : Nat), .str ⟨#[c]⟩]) (v := .int 201) (fun Q' k => args_of (c_of (args_of (var_of rfl (args_of (var_of rfl (args_end k))))))) (fun G' Q' k => c_of k) (by show 3 ≤ 5; omega) fun c1 t1 G' sg ec et => ?_
      exact q G' t1 c1 _ _ _ _ (f6.trans (Fra.same f6.src sg)) et (.long 201) (.putN ec (.int _) (.str _) (smallT_str (by rw [len_one]; omega)) (below_of (by omega)) (decide_eq_true hc) (by omega))
    dsimp only
    refine seq_if (lt_t rfl ?_)
    refine or_ite (fun h7w => ?_) fun h7w => go_next ?_
    · refine asg_set (call_of (args_of (var_of rfl (args_of (var_of rfl (args_of (c_of (args_end ⟨a, al, 9, rfl, h1, h8, by omega, f6.src, fun G7 cs f7 hcs hl => ?_⟩))))))))
      rintro σ10 rfl
      have hr := over_list hl hcs
      generalize Txt.join "" (cs.map one1) = r at hr ⊢
      have hr9 := hr.1
      refine asg_set (draw rfl (fun Q' k => op_of (lenS rfl (by omega) (c_of ⟨_, 1, rfl, rfl, k⟩))) (by omega) (by omega) f7.src fun at_ G8 f8 hat => ?_)
      rintro σ11 rfl
      have f68 := f6.trans (f7.trans f8)
      have b1 := len_take (z := r) (k := at_)
      have b2 := len_drop (z := r) (k := at_)
      obtain ⟨sc, hsc, esc⟩ := strange_at (far % 3) (by omega)
      refine ret_te (args_of (args_of (c_of (args_of (op_of (op_of (sl_take (K := K) rfl (by omega) (fun Q' k' => var_of rfl k') (op_of (args_of (c_of (args_of (c_of (args_of (c_of (args_end ⟨by show 3 ≤ sizeLine; decide, fun l3 hl3 => ?_⟩)))))))))))))))
      refine op_of (cb_of (args_of (var_of rfl (args_end (.inl ⟨_, rfl, c_of ⟨_, 3, rfl, rfl, (by show (0 : Int) < 3; decide), ?_⟩⟩)))))
      show rIxL _ (.ref l3) (V.int (((far : Nat) : Int) % 3)) _ _
      rw [show ((far : Nat) : Int) % 3 = ((far % 3 : Nat) : Int) by omega]
      have s3 := same_upd (o := .lst [.str "i", .str "A", .str " "]) hl3
      refine ⟨l3, _, _, .str ⟨#[sc]⟩, rfl, rfl, SqL.of upd_same, atI_nat esc, _, _, rfl, rfl, by rw [len_one]; exact Nat.le_trans (by omega : _ ≤ 100) (by decide), ?_⟩
      refine sl_drop (K := K) rfl (by omega) (fun Q' k' => var_of rfl k') ⟨_, _, rfl, rfl, by rw [len_app, len_one]; exact Nat.le_trans (by omega : _ ≤ 100) (by decide), ?_⟩
      generalize hzz : cutS r none (some ((at_ : Nat) : Int)) ++ (⟨#[sc]⟩ : Str) ++ cutS r (some ((at_ : Nat) : Int)) none = zz
      obtain ⟨t1, t2⟩ := strange_row (z := zz) (k := at_) (c := sc) hr (by omega) (strange_menu al hal sc hsc) (by rw [← hzz, cps_app, cps_app, cut_take, cut_drop, List.append_assoc]; rfl)
      refine args_end ⟨by show 2 ≤ sizeLine; decide, fun c1 hc1 => args_of (c_of (args_of (var_of rfl (args_end ⟨by show 3 ≤ sizeLine; decide, fun t9 ht9 => ?_⟩))))⟩
      have sc1 := same_upd (o := .tup [.str "become", .str zz]) hc1
      have st1 := same_upd (o := .tup [.ref c1, .str "row", .int (at_ : Nat)]) ht9
      exact q _ t9 c1 _ _ _ _ (f68.trans (Fra.same f68.src (s3.trans (sc1.trans st1)))) upd_same (.row _) (.row (st1 _ _ upd_same) (.str _) (smallT_str (by omega)) t1)
    dsimp only
    refine ret_te (args_of (args_of (c_of (args_of (op_of (args_of (c_of (args_of (c_of (args_of (op_of (op_of (var_of rfl (c_of ⟨al, _, c0, rfl, rfl, Nat.le_trans h8 (by decide), a0, c_of ⟨_, 201, rfl, rfl, by omega, by omega, by rw [len_one]; omega, ?_⟩⟩))))))))))))))
    have ml : (Txt.mul ⟨#[c0]⟩ ((201 : Nat) : Int)).length = 201 := by rw [mul_len (by omega) (by rw [len_one]; omega), len_one]
    generalize Txt.mul ⟨#[c0]⟩ ((201 : Nat) : Int) = big at ml
    refine args_of (args_of (c_of (args_end ⟨by show 1 ≤ sizeLine; decide, fun t3 ht3 => ?_⟩)))
    have s3 := same_upd (o := .tup [.str "a"]) ht3
    refine args_of (args_of (op_of (var_of rfl (c_of ⟨al, _, c0, rfl, rfl, Nat.le_trans h8 (by decide), a0, args_end ⟨by show 1 ≤ sizeLine; decide, fun l4 hl4 => ?_⟩⟩))))
    have s4 := same_upd (o := .lst [.str ⟨#[c0]⟩]) hl4
    refine args_end ⟨by show 5 ≤ sizeLine; decide, fun l5 hl5 => ?_⟩
    have s5 := same_upd (o := .lst [.non, .int 7, .str big, .ref t3, .ref l4]) hl5
    obtain ⟨v, dv, ev, rv, sv, wv2⟩ : ∃ v dv, [V.non, .int 7, .str big, .ref t3, .ref l4][far]? = some v ∧ Rp (upd (upd (upd (upd G5 l2 (.lst (offV y.length))) t3 (.tup [.str "a"])) l4 (.lst [.str ⟨#[c0]⟩])) l5 (.lst [.non, .int 7, .str big, .ref t3, .ref l4])) v dv ∧ smallT dv ∧ wrongL al.cps.toList dv = some (-1) := by
      have hf5 : far < 5 := by omega
      match far, hf5 with
      | 0, _ => exact ⟨_, _, rfl, .non, fun z e => (by cases e), rfl⟩
      | 1, _ => exact ⟨_, _, rfl, .int 7, fun z e => (by cases e), rfl⟩
      | 2, _ => exact ⟨_, _, rfl, .str big, smallT_str (by omega), by show (if big.length ≤ 200 then firstNot al.cps.toList big.cps.toList 0 else some (-1)) = _; rw [if_neg (by omega)]⟩
      | 3, _ => exact ⟨_, .tuple [.str "a"], rfl, .tup (s5 _ _ (s4 _ _ upd_same)) (.cons (.str _) .nil), fun z e => (by cases e), rfl⟩
      | 4, _ => exact ⟨_, .list [.str ⟨#[c0]⟩], rfl, .lst (s5 _ _ upd_same) (.cons (.str _) .nil), fun z e => (by cases e), rfl⟩
    refine var_of rfl ⟨l5, _, _, v, rfl, rfl, SqL.of upd_same, atI_nat ev, ?_⟩
    refine args_end ⟨by show 2 ≤ sizeLine; decide, fun c1 hc1 => args_of (c_of (args_of ⟨1, rfl, args_end ⟨by show 3 ≤ sizeLine; decide, fun t9 ht9 => ?_⟩⟩))⟩
    have sc1 := same_upd (o := .tup [.str "become", v]) hc1
    have st1 := same_upd (o := .tup [.ref c1, .str "row", .int (-1)]) ht9
    exact q _ t9 c1 _ _ _ _ (f6.trans (Fra.same f6.src (s3.trans (s4.trans (s5.trans (sc1.trans st1)))))) upd_same (.row _) (.row (st1 _ _ upd_same) ((rv.same sc1).same st1) sv wv2)
end
end Kx
set_option Elab.async false
set_option linter.all false
set_option maxRecDepth 100000
set_option maxHeartbeats 4000000
namespace Kx
open PySem PySem.Spec PyProof.Rows L2
/-! ### a desk and what the law keeps of it, through what changes beside it -/
structure Dst (K : PySem.W.Frag) (a : Addr) (G : Hp) (D : DkD) (o : Addr) (kvs : List (L2.Key × V)) (y : Str) (tags : List Nat) (fr : Nat) (ds : List Dd) : Prop where
  dk : DkAt K G D
  st : StAt K G D.k y ds
  ow : G o = some (.dK kvs)
  ov : OwnV (lt a G) kvs D.al y tags fr ds D.ws
  ws : WsT D.al D.ws
  al : D.al ∈ menuA
  tg : TagsOk tags fr y.length
  yo : over D.al 200 y
theorem Dst.move {K : PySem.W.Frag} {a : Addr} {G G' : Hp} {D : DkD} {o : Addr} {kvs : List (L2.Key × V)} {y : Str} {tags : List Nat} {fr : Nat} {ds : List Dd} (h : Dst K a G D o kvs y tags fr ds) (fm : Firm G G') (hk : ∀ u, G D.k = some u → G' D.k = some u) (ho : ∀ u, G o = some u → G' o = some u) (hl : Same (lt a G) (lt a G')) : Dst K a G' D o kvs y tags fr ds :=
  ⟨h.dk.firm fm, h.st.firm fm hk, ho _ h.ow, h.ov.same hl, h.ws, h.al, h.tg, h.yo⟩
theorem Dst.same {K : PySem.W.Frag} {a : Addr} {G G' : Hp} {D : DkD} {o : Addr} {kvs : List (L2.Key × V)} {y : Str} {tags : List Nat} {fr : Nat} {ds : List Dd} (h : Dst K a G D o kvs y tags fr ds) (s : Same G G') : Dst K a G' D o kvs y tags fr ds :=
  h.move (Same.firm s) (fun u e => s _ _ e) (fun u e => s _ _ e) (lt_same s)
theorem Dst.fra {K : PySem.W.Frag} {a : Addr} {G G' : Hp} {D : DkD} {o : Addr} {kvs : List (L2.Key × V)} {y : Str} {tags : List Nat} {fr : Nat} {ds : List Dd} (h : Dst K a G D o kvs y tags fr ds) (hs : SrcAt G a) (f : Fra a G G') : Dst K a G' D o kvs y tags fr ds := by
  obtain ⟨dk, v, e⟩ := h.st.top
  exact h.move (firm_fra hs f) (fun u e2 => f.keep hs e2 fun A S C z => by rw [e] at e2; cases e2; cases z) (fun u e2 => f.keep hs e2 fun A S C z => by rw [h.ow] at e2; cases e2; cases z) (lt_fra f)
theorem Dst.pre {K : PySem.W.Frag} {a : Addr} {G : Hp} {D : DkD} {o : Addr} {kvs : List (L2.Key × V)} {y : Str} {tags : List Nat} {fr : Nat} {ds : List Dd} (h : Dst K a G D o kvs y tags fr ds) (n : ds.length ≤ 1000) : DkPre K G D y ds := by
  obtain ⟨dk, v, e⟩ := h.st.top
  exact ⟨h.dk.firm (firm_del fun u e2 => by rw [e] at e2; cases e2; rfl), h.st, h.ws.ok, h.yo, n⟩
/-- all but the top of a trial stands: another desk -/
theorem Dst.other {K : PySem.W.Frag} {a k : Addr} {G G' : Hp} {D : DkD} {o dk0 : Addr} {v0 : V} {kvs : List (L2.Key × V)} {y : Str} {tags : List Nat} {fr : Nat} {ds : List Dd} (h : Dst K a G D o kvs y tags fr ds) (ek : G k = some (.ins (He.ga K "Kept") dk0 [("state", v0), ("below", .non)])) (s : Same (del G k) (del G' k)) (hk : D.k ≠ k) : Dst K a G' D o kvs y tags fr ds := by
  have all : ∀ b u, b ≠ k → G b = some u → G' b = some u := fun b u hb e => by
    have := s b u (by rw [del_ne hb]; exact e)
    rwa [del_ne hb] at this
  refine h.move (fun b u f e => all b u (fun z => by rw [z, ek] at e; cases e; cases f) e) (fun u e => all _ _ hk e) (fun u e => all _ _ (fun z => by have w := h.ow; rw [z, ek] at w; cases w) e) (lt_del2 ek (fun z => by rcases z with ⟨_, z⟩ | ⟨_, z⟩ <;> cases z) s)
/-- all but an own dict stands: another desk -/
theorem Dst.beside {K : PySem.W.Frag} {a o' : Addr} {G G' : Hp} {D : DkD} {o : Addr} {kv' kvs : List (L2.Key × V)} {y : Str} {tags : List Nat} {fr : Nat} {ds : List Dd} (h : Dst K a G D o kvs y tags fr ds) (ek : G o' = some (.dK kv')) (s : ∀ b u, b ≠ o' → G b = some u → G' b = some u) (hk : o ≠ o') : Dst K a G' D o kvs y tags fr ds := by
  obtain ⟨dk, v, e0⟩ := h.st.top
  refine h.move (fun b u f e => s b u (fun z => by rw [z, ek] at e; cases e; cases f) e) (fun u e => s _ _ (fun z => by rw [z, ek] at e0; cases e0) e) (fun u e => s _ _ hk e) (lt_mk fun b u _ hu e => s b u (fun z => by rw [z, ek] at e; cases e; rcases hu with ⟨_, z⟩ | ⟨_, z⟩ <;> cases z) e)
end Kx
set_option Elab.async false
set_option linter.all false
set_option maxRecDepth 100000
set_option maxHeartbeats 4000000
namespace Kx
open PySem PySem.Spec PyProof.Rows L2
theorem fits_over {al y z : Str} {d : Dd} (hf : d.fits al y) (hy : over al 200 y) (hz : z.cps.toList = d.row y.cps.toList) : over al 200 z := by
  have hyl := hy.1
  have hok := Dd.fits_ok hf
  have rl := row_len hok
  exact row_over hok hy hz (by
    rw [rl]
    cases d with
    | put k x => exact hf.2.1
    | take k x => show y.length - 1 ≤ 200; omega
    | change k x e => exact hyl
    | become a0 z0 => exact hf.2.1) (by
    cases d with
    | put k x => exact hf.2.2
    | take k x => trivial
    | change k x e => exact hf.2
    | become a0 z0 => exact hf.2.2)
theorem good_do {K : PySem.W.Frag} {H : Hp} {D : DkD} {y : Str} {ds : List Dd} {d : Dd} {c : Addr} {Q : VK} {E : XK} (pre : DkPre K H D y ds) (fit : d.fits D.al y) (hc : H c = some (.tup d.cs)) (post : DkPost K H D y ds d Q) : sp_law_do K [.ref D.x, .ref c] H Q E := by
  refine ⟨D, c, rfl, pre.dk.same (del_le D.k), ?_⟩
  have ni : ∀ {k k' : Nat}, PyData.int (k : Nat) = .int (k' : Nat) → k = k' := fun e => by injection e with e; omega
  have nc : ∀ {x x' : Nat}, PyData.str ⟨#[x]⟩ = .str ⟨#[x']⟩ → x = x' := fun {x x'} e => by
    injection e with e
    have : (⟨#[x]⟩ : Str).cps.toList = (⟨#[x']⟩ : Str).cps.toList := by rw [e]
    exact (List.cons.inj this).1
  cases d with
  | put k x =>
    have b1 : belowD ((y.length + 1 : Nat)) (.int (k : Nat)) = true := below_of (by have := fit.1; omega)
    have l1 : letterL D.al.cps.toList (.str ⟨#[x]⟩) = true := decide_eq_true fit.2.2
    exact .inl ⟨_, _, hc, D, y, ds, _, _, _, _, rfl, pre, .int _, .str _, smallT_str (by rw [len_one]; omega), fun h => (by rw [b1] at h; cases h), fun _ => ⟨fun h => (by rw [l1] at h; cases h), fun _ => ⟨fun h => (by have := fit.2.1; omega), fun _ k' x' e1 e2 _ _ => (by cases ni e1; cases nc e2; exact post)⟩⟩⟩
  | take k x =>
    have hk := Dd.fits_ok fit
    have b1 : belowD y.length (.int (k : Nat)) = true := below_of hk
    have fit : y.cps.toList[k]? = some x := fit
    exact .inr (.inl ⟨_, hc, D, y, ds, _, _, rfl, pre, .int _, fun h => (by rw [b1] at h; cases h), fun _ k' x' e1 _ e2 => (by cases ni e1; rw [fit] at e2; cases e2; exact post)⟩)
  | change k x e =>
    have hk := Dd.fits_ok fit
    have b1 : belowD y.length (.int (k : Nat)) = true := below_of hk
    have l1 : letterL D.al.cps.toList (.str ⟨#[e]⟩) = true := decide_eq_true fit.2
    have fit1 : y.cps.toList[k]? = some x := fit.1
    exact .inr (.inr (.inl ⟨_, _, hc, D, y, ds, _, _, _, _, rfl, pre, .int _, .str _, smallT_str (by rw [len_one]; omega), fun h => (by rw [b1] at h; cases h), fun _ => ⟨fun h => (by rw [l1] at h; cases h), fun _ k' x' e' e1 e2 _ _ e3 => (by cases ni e1; cases nc e2; rw [fit1] at e3; cases e3; exact post)⟩⟩))
  | become a z =>
    obtain ⟨rfl, hz⟩ := fit
    have w := wrong_over hz (by omega)
    exact .inr (.inr (.inr ⟨_, hc, D, a, ds, _, _, rfl, pre, .str _, smallT_str (by have := hz.1; omega), fun k h => (by rw [w] at h; cases h), fun _ z' e _ => (by injection e with e; subst e; exact post)⟩))
def turnD (ps : List NP) : PyData := .tuple (ps.map encN)
theorem TurnAt.rt {H : Hp} {v : V} {ps : List NP} (h : TurnAt H v ps) : Rt H v (turnD ps) := by
  obtain ⟨a, bs, rfl, h1, h2, h3⟩ := h
  refine .tup h1 ?_
  clear h1
  induction bs generalizing ps with
  | nil => cases ps with
    | nil => exact .nil
    | cons p ps => cases h2
  | cons b bs ih => cases ps with
    | nil => cases h2
    | cons p ps => exact .cons (.tup (h3 0 b p rfl rfl) (.cons (.str _) (.cons (.int _) .nil))) (ih (Nat.succ.inj h2) fun i b' p' e1 e2 => h3 (i + 1) b' p' (by simpa using e1) (by simpa using e2))
theorem turn_alk {ps : List NP} (h : ps.length ≤ 5000) : alk 3 (turnD ps) = true := by
  show (decide ((ps.map encN).length ≤ 5000) && (ps.map encN).all (alk 2)) = true
  rw [Bool.and_eq_true, decide_eq_true_eq, List.all_map]
  exact ⟨by rw [List.length_map]; exact h, List.all_eq_true.mpr fun p _ => rfl⟩
end Kx
set_option Elab.async false
set_option linter.all false
set_option maxRecDepth 100000
set_option maxHeartbeats 4000000
namespace Kx
open PySem PySem.Spec PyProof.Rows L2
theorem sql_keep {K : PySem.W.Frag} {H G : Hp} {b : Addr} {xs : List V} (h : SqL K H b xs) (s : ∀ u, H b = some u → G b = some u) : SqL K G b xs := by
  rcases h with (h | ⟨o, h⟩) | h
  · exact .inl (.inl (s _ h))
  · exact .inl (.inr ⟨o, s _ h⟩)
  · exact .inr h
theorem lt_mk2 {a a' : Addr} {H H' : Hp} (h : ∀ b o, b ≠ a → ((∃ xs, o = HO.lst xs) ∨ ∃ xs, o = HO.tup xs) → H b = some o → b ≠ a' ∧ H' b = some o) : Same (lt a H) (lt a' H') := fun b o e => by
  obtain ⟨h1, h2, h3⟩ := lt_some e
  obtain ⟨h4, h5⟩ := h b o h1 h3 h2
  rcases h3 with ⟨xs, rfl⟩ | ⟨xs, rfl⟩
  · exact lt_lst h4 h5
  · exact lt_tup h4 h5
theorem tags_range (n fr : Nat) (h : n ≤ fr) : TagsOk (List.range n) fr n := ⟨List.length_range, List.nodup_range, fun t ht => by have := List.mem_range.mp ht; omega⟩
theorem kept_len {d : Dd} {n : Nat} : (d.kept n).length ≤ n := by
  cases d with
  | put k c => simp [Dd.kept]
  | take k c =>
    have := List.length_filter_le (fun p => !decide (p = k)) (List.range n)
    rw [List.length_range] at this
    simpa [Dd.kept] using this
  | change k c e => simp [Dd.kept]
  | become a z => simp [Dd.kept]
theorem asg_any {te : TE} {g : TG} {u : TS} {D : Ends} {σ : L2.St} {H : Hp} (h : te σ H fun x H1 => g x σ H1 fun σ2 H2 => u D σ2 H2) : tSeq (tAsg te g) u D σ H := h
section
variable {P : Program} {w : World} {K : PySem.W.Frag} {mg : Str → Option Value} {base : Heap}
theorem Dst.asks {a : Addr} {G : Hp} {D : DkD} {o : Addr} {kvs : List (L2.Key × V)} {y : Str} {tags : List Nat} {fr : Nat} {ds : List Dd} {Q : VK} {E : XK} (h : Dst K a G D o kvs y tags fr ds) (n : ds.length ≤ 1000) (q : ∀ H', Same G H' → Q (.bl true) H') : sp_law_same K [.ref D.x, .ref o] G Q E :=
  ⟨D, o, kvs, y, tags, fr, ds, rfl, h.dk, h.st, h.ow, h.ov.same lt_le, h.ws, h.al, h.yo, n, q⟩
/-- pairs[i][j] -/
theorem pair_ix {σ : L2.St} {G : Hp} {p t : Addr} {xs ys : List V} {i j : Nat} {v : V} {Q : VK} (e : σ[3]? = some (some (.ref p))) (hp : G p = some (.lst xs)) (hi : xs[i]? = some (.ref t)) (ht : G t = some (.tup ys)) (hj : ys[j]? = some v) (q : Q v G) : tOp (rIxT K) (tOp (rIxL K) (tVar 3) (tC (.int (i : Nat)))) (tC (.int (j : Nat))) σ G Q :=
  op_of (op_of (var_of e ⟨p, xs, _, .ref t, rfl, rfl, SqL.of hp, atI_nat hi, t, ys, _, v, rfl, rfl, SqT.of ht, atI_nat hj, q⟩))
def sp_law (K : PySem.W.Frag) : Sp := fun vs H Q _ => ∃ (b : Addr) (ns : List Int), vs = [.ref b] ∧ SqL K H b (ns.map V.int) ∧ ns.length ≤ 1000 ∧ (∀ n ∈ ns, Builtin.Int.intBits n ≤ 1048576) ∧ ∀ H', Q (.bl true) H'
theorem ok_law (T : Txt K mg) : CalG P w K mg base CX0 10 "law" ["_law_script"] (sp_law K) := by
  obtain ⟨fd, F⟩ := F_law T
  refine calG_mk F (g_law T) sc_law (fun _ _ _ _ _ _ us hl => match us, hl with | [_], _ => rfl) (fun vs H Q E h => ?_) (fun cdv A outer s H vs Q E hG hr h => ?_)
  · obtain ⟨b, ns, rfl, _⟩ := h; rfl
  · refine ⟨_, PSs.nox (pss_cons (ps_set (i := 1) sc_law.nd rfl (Or.inl rfl) (pe_cal (ok_law_source T) (hr.mono (by decide)) pass0 (pa_cons (pv 0) (pa_cons pe_int pa_nil))))
        (pss_cons (ps_set (i := 2) sc_law.nd rfl (Or.inl rfl) (pe_cal (ok_law_names T) (hr.mono (by decide)) pass0 (pa_cons (pv 1) (pa_cons pe_int pa_nil))))
        (pss_cons (ps_set (i := 3) sc_law.nd rfl (Or.inl rfl) (pe_lst (pa_cons (pe_cal (ok_law_desk T) (hr.mono (by decide)) pass0 (pa_cons (pv 1) (pa_cons (pv 2) pa_nil))) (pa_cons (pe_cal (ok_law_desk T) (hr.mono (by decide)) pass0 (pa_cons (pe_cal (ok_law_source T) (hr.mono (by decide)) pass0 (pa_cons (pv 0) (pa_cons pe_int pa_nil))) (pa_cons (pv 2) pa_nil))) pa_nil))))
        (pss_cons (ps_set (i := 4) sc_law.nd rfl (Or.inl rfl) (pe_cal (ok_law_source T) (hr.mono (by decide)) pass0 (pa_cons (pv 0) (pa_cons pe_int pa_nil))))
        (pss_cons (ps_if (PW.pt (pw_or (pt_not (pt_val (pe_cal (ok_law_same T) (hr.mono (by decide)) pass0 (pa_cons (pe_ix ix_tup (pe_ix ix_list (pv 3) pe_int (fun _ _ => rfl)) pe_int (fun _ _ => rfl)) (pa_cons (pe_ix ix_tup (pe_ix ix_list (pv 3) pe_int (fun _ _ => rfl)) pe_int (fun _ _ => rfl)) pa_nil))))) (pw_or1 (pt_not (pt_val (pe_cal (ok_law_same T) (hr.mono (by decide)) pass0 (pa_cons (pe_ix ix_tup (pe_ix ix_list (pv 3) pe_int (fun _ _ => rfl)) pe_int (fun _ _ => rfl)) (pa_cons (pe_ix ix_tup (pe_ix ix_list (pv 3) pe_int (fun _ _ => rfl)) pe_int (fun _ _ => rfl)) pa_nil)))))))) (pss_one (ps_ret pe_bl)) pss_nil)
        (pss_cons (ps_for PassesOwn.never rfl (pi_range1 (by rfl) (fr_range T) (pa_cons (pe_op op_add pe_int (pe_cal (ok_law_pick T) (hr.mono (by decide)) pass0 (pa_cons (pv 4) (pa_cons pe_int pa_nil)))) pa_nil)) (pg_name (i := 5) sc_law.nd rfl (Or.inl rfl)) (pss_cons (ps_asg (pe_ix ix_list (pv 3) (pe_cal (ok_law_pick T) (hr.mono (by decide)) pass0 (pa_cons (pv 4) (pa_cons pe_int pa_nil))) (fun _ _ => rfl)) (pg_tup rfl (pgs_cons (pg_name (i := 6) sc_law.nd rfl (Or.inl rfl)) (pgs_cons (pg_name (i := 7) sc_law.nd rfl (Or.inl rfl)) pgs_nil))))
        (pss_cons (ps_if (pt_cmpR op_eq (pe_cal (ok_law_pick T) (hr.mono (by decide)) pass0 (pa_cons (pv 4) (pa_cons pe_int pa_nil))) pe_int (nomark _)) (pss_cons (ps_asg (pe_cal (ok_law_bad_deed T) (hr.mono (by decide)) pass0 (pa_cons (pv 4) (pa_cons (pv 7) pa_nil))) (pg_tup rfl (pgs_cons (pg_name (i := 8) sc_law.nd rfl (Or.inl rfl)) (pgs_cons (pg_name (i := 9) sc_law.nd rfl (Or.inl rfl)) (pgs_cons (pg_name (i := 10) sc_law.nd rfl (Or.inl rfl)) pgs_nil)))))
        (pss_one (ps_if (PW.pt (pw_or (pt_not (pt_val (pe_calG (ok_law_refused T) hG (hr.mono (by decide)) pass0 (pa_cons (pv 6) (pa_cons (pv 8) (pa_cons (pv 9) (pa_cons (pv 10) pa_nil))))))) (pw_or1 (pt_not (pt_val (pe_cal (ok_law_same T) (hr.mono (by decide)) pass0 (pa_cons (pv 6) (pa_cons (pv 7) pa_nil)))))))) (pss_one (ps_ret pe_bl)) pss_nil))) pss_nil)
        (pss_cons (ps_if (pt_cmpR op_eq (pe_callB call_len (by rfl) (fr_len T) boot_len (pa_cons (pe_dget (hu1 hr) (pv 7) pe_str (fun _ _ => rfl)) pa_nil)) pe_int (nomark _)) (pss_one (ps_if (pt_not (pt_val (pe_calG (ok_law_refused T) hG (hr.mono (by decide)) pass0 (pa_cons (pv 6) (pa_cons (pe_tup (pa_cons pe_str (pa_cons (pe_cal (ok_law_pick T) (hr.mono (by decide)) pass0 (pa_cons (pv 4) (pa_cons pe_int pa_nil))) (pa_cons (pe_ix ix_str (pe_dget (hu1 hr) (pv 7) pe_str (fun _ _ => rfl)) pe_int (fun _ _ => rfl)) pa_nil)))) (pa_cons pe_str (pa_cons pe_int pa_nil))))))) (pss_one (ps_ret pe_bl)) pss_nil)) pss_nil)
        (pss_cons (ps_set (i := 8) sc_law.nd rfl (Or.inl rfl) (pe_cal (ok_law_deed T) (hr.mono (by decide)) pass0 (pa_cons (pv 4) (pa_cons (pv 7) pa_nil))))
        (pss_cons (ps_set (i := 11) sc_law.nd rfl (Or.inl rfl) (pe_cal (ok_law_logged T) (hr.mono (by decide)) pass0 (pa_cons (pv 7) (pa_cons (pv 8) pa_nil))))
        (pss_cons (ps_set (i := 12) sc_law.nd rfl (Or.inl rfl) (pe_cal (ok_law_carried T) (hr.mono (by decide)) pass0 (pa_cons (pv 7) (pa_cons (pv 11) pa_nil))))
        (pss_cons (ps_dput (hu1 hr) (pv 7) pe_str (pe_op op_cat (pe_dget (hu1 hr) (pv 7) pe_str (fun _ _ => rfl)) (pe_lst (pa_cons (pv 11) pa_nil))) (by rfl))
        (pss_one (ps_if (PW.pt (pw_or (pt_not (pt_val (pe_cal (ok_law_alike T 3) (hr.mono (by decide)) pass0 (pa_cons (pe_cal (E := E0) (ok_law_do T) (hr.mono (by decide)) passN0 (pa_cons (pv 6) (pa_cons (pv 8) pa_nil))) (pa_cons (pv 12) pa_nil))))) (pw_or1 (pt_not (pt_val (pe_cal (ok_law_same T) (hr.mono (by decide)) pass0 (pa_cons (pv 6) (pa_cons (pv 7) pa_nil)))))))) (pss_one (ps_ret pe_bl)) pss_nil))))))))))
        (pss_one (ps_ret (pe_and (pe_cal (ok_law_same T) (hr.mono (by decide)) pass0 (pa_cons (pe_ix ix_tup (pe_ix ix_list (pv 3) pe_int (fun _ _ => rfl)) pe_int (fun _ _ => rfl)) (pa_cons (pe_ix ix_tup (pe_ix ix_list (pv 3) pe_int (fun _ _ => rfl)) pe_int (fun _ _ => rfl)) pa_nil))) (pe_one (pe_cal (ok_law_same T) (hr.mono (by decide)) pass0 (pa_cons (pe_ix ix_tup (pe_ix ix_list (pv 3) pe_int (fun _ _ => rfl)) pe_int (fun _ _ => rfl)) (pa_cons (pe_ix ix_tup (pe_ix ix_list (pv 3) pe_int (fun _ _ => rfl)) pe_int (fun _ _ => rfl)) pa_nil))))))))))))), ?_⟩
    obtain ⟨b, ns, rfl, hb, hn, hbits, q⟩ := h
    refine asg_set (call_of (args_of (var_of rfl (args_of (c_of (args_end ⟨b, ns, 0, rfl, hb, hn, hbits, by omega, fun G1 a1 s1 hs1 h1 => ?_⟩))))))
    rintro σ1 rfl
    refine asg_set (call_of (args_of (var_of rfl (args_of (c_of (args_end ⟨a1, 4, rfl, by omega, hs1, fun G2 l zs f2 hla hl hzl hzs => ?_⟩))))))
    rintro σ2 rfl
    have kb2 : ∀ u, H b = some u → G2 b = some u := fun u e => by
      have hba : b ≠ a1 := fun z => by rw [z, h1] at e; cases e
      have := f2.sm b u (by rw [del_ne hba]; exact s1 _ _ e)
      rwa [del_ne hba] at this
    refine asg_set ?_
    refine args_of (call_of (args_of (var_of rfl (args_of (var_of rfl (args_end ⟨a1, l, zs, rfl, f2.src, hla, hl, hzs, by omega, fun G3 t1 D1 o1 kv1 y1 f3 ht1 dk1 st1 hk1 how1 ho1 ov1 ws1 al1 yo1 => ?_⟩))))))
    have kb3 : ∀ u, H b = some u → G3 b = some u := fun u e => by
      have hba : b ≠ a1 := fun z => by rw [z, h1] at e; cases e
      have := f3.sm b u (by rw [del_ne hba]; exact kb2 u e)
      rwa [del_ne hba] at this
    refine args_of (call_of (args_of (call_of (args_of (var_of rfl (args_of (c_of (args_end ⟨b, ns, 1, rfl, sql_keep hb kb3, hn, hbits, by omega, fun G4 a2 s4 hs4 h4 => ?_⟩))))))))
    have hl3 : G3 l = some (.lst (zs.map V.str)) := by
      have := f3.sm l _ (by rw [del_ne hla]; exact hl)
      rwa [del_ne hla] at this
    have hla2 : l ≠ a2 := fun z => by rw [z, h4] at hl3; cases hl3
    refine args_of (var_of rfl (args_end ⟨a2, l, zs, rfl, hs4, hla2, s4 _ _ hl3, hzs, by omega, fun G5 t2 D2 o2 kv2 y2 f5 ht2 dk2 st2 hk2 how2 ho2 ov2 ws2 al2 yo2 => ?_⟩))
    refine args_end ⟨by show 2 ≤ sizeLine; decide, fun p hp => ?_⟩
    rintro σ3 rfl
    have s6 := same_upd (o := .lst [.ref t1, .ref t2]) hp
    have kb5 : ∀ u, H b = some u → upd G5 p (.lst [.ref t1, .ref t2]) b = some u := fun u e => by
      have e4 := s4 _ _ (kb3 u e)
      have hba : b ≠ a2 := fun z => by rw [z, h4] at kb3; have := kb3 u (z ▸ e); cases this
      have := f5.sm b u (by rw [del_ne hba]; exact e4)
      rw [del_ne hba] at this
      exact s6 _ _ this
    refine asg_set (call_of (args_of (var_of rfl (args_of (c_of (args_end ⟨b, ns, 2, rfl, sql_keep hb kb5, hn, hbits, by omega, fun G6 a3 s7 hs6 h6 => ?_⟩))))))
    rintro σ4 rfl
    have s56 : Same G5 G6 := s6.trans s7
    have f35 : Firm G3 G6 := ((Same.firm s4).trans (firm_fra hs4 f5)).trans (Same.firm s56)
    have h65 : G5 a3 = none := none_of s6 h6
    have k36 : ∀ x u, G3 x = some u → (∀ A S C, u ≠ three A S C) → G6 x = some u := fun x u e n => s56 _ _ (f5.keep hs4 (s4 _ _ e) n)
    have k36' : ∀ x u, G3 x = some u → x ≠ a2 ∧ G6 x = some u := fun x u e => by
      have hx : x ≠ a2 := fun z => by rw [z, h4] at e; cases e
      have := f5.sm x u (by rw [del_ne hx]; exact s4 _ _ e)
      rw [del_ne hx] at this
      exact ⟨hx, s56 _ _ this⟩
    have n3 : ∀ x u, G5 x = some u → x ≠ a3 := fun x u e z => by rw [z, h65] at e; cases e
    have n33 : ∀ x u, G3 x = some u → x ≠ a3 := fun x u e => by
      have hx : x ≠ a2 := (k36' x u e).1
      have := f5.sm x u (by rw [del_ne hx]; exact s4 _ _ e)
      rw [del_ne hx] at this
      exact n3 x u this
    have y1n := yo1.1
    have y2n := yo2.1
    have d1 : Dst K a3 G6 D1 o1 kv1 y1 (List.range y1.length) 200 [] := ⟨dk1.firm f35, st1.firm f35 fun u e => (k36' _ u e).2, (k36' _ _ how1).2, ov1.same (lt_mk2 fun x u _ _ e => ⟨n33 x u e, (k36' x u e).2⟩), ws1, al1, tags_range _ _ y1n, yo1⟩
    have d2 : Dst K a3 G6 D2 o2 kv2 y2 (List.range y2.length) 200 [] := ⟨dk2.firm (Same.firm s56), st2.firm (Same.firm s56) fun u e => s56 _ _ e, s56 _ _ how2, ov2.same (lt_mk2 fun x u _ _ e => ⟨n3 x u e, s56 _ _ e⟩), ws2, al2, tags_range _ _ y2n, yo2⟩
    have et1 := (k36' _ _ ht1).2
    have et2 := s56 _ _ ht2
    have ep : G6 p = some (.lst [.ref t1, .ref t2]) := s7 _ _ upd_same
    have nk : D1.k ≠ D2.k := fun z => by
      obtain ⟨dk, v, e⟩ := st1.top
      have := s4 _ _ e
      rw [z, hk2] at this
      cases this
    have no : o1 ≠ o2 := fun z => by
      have := s4 _ _ how1
      rw [z, ho2] at this
      cases this
    have hpa : p ≠ a3 := fun z => by rw [z] at h6; rw [upd_same] at h6; cases h6
    refine seq_if (or_s (fun R k => test_not (test_val (call_of (args_of (pair_ix (i := 0) (j := 0) rfl ep rfl et1 rfl (args_of (pair_ix (i := 0) (j := 1) rfl ep rfl et1 rfl (args_end (d1.asks (by simp) fun G s => ⟨true, rfl, k G s⟩))))))))) (fun G7 R s k => test_not (test_val (call_of (args_of (pair_ix (i := 1) (j := 0) rfl (s _ _ ep) rfl (s _ _ et2) rfl (args_of (pair_ix (i := 1) (j := 1) rfl (s _ _ ep) rfl (s _ _ et2) rfl (args_end ((d2.same s).asks (by simp) fun G s => ⟨true, rfl, k G s⟩))))))))) fun G7 s7 => iteF (go_next ?_))
    dsimp only
    have d1 := d1.same s7
    have d2 := d2.same s7
    have et1 := s7 _ _ et1
    have et2 := s7 _ _ et2
    have ep := s7 _ _ ep
    have hs7 := hs6.same s7
    refine ⟨.ref a3, rfl, a3, 7, rfl, by omega, by omega, hs7, fun A8 S8 C8 m0 hm0 hm1 => ⟨6, m0, rfl, rfl, 6 + m0, rfl, by omega, by omega, ?_⟩⟩
    have f8 : Fra a3 G7 (upd G7 a3 (three A8 S8 C8)) := Fra.drawn A8 S8 C8
    revert f8
    generalize upd G7 a3 (three A8 S8 C8) = G8
    intro f8
    have d1 := d1.fra hs7 f8
    have d2 := d2.fra hs7 f8
    have r3 : ∀ {A S C : Int}, HO.lst [V.ref t1, V.ref t2] ≠ three A S C := fun {A S C} z => by unfold three at z; injection z with z; cases z
    have et1 := f8.keep hs7 et1 fun A S C z => by cases z
    have et2 := f8.keep hs7 et2 fun A S C z => by cases z
    have ep := f8.keep hs7 ep fun A S C => r3
    refine for_it walk_range (fun i σ G => ∃ (v5 v6 v7 v8 v9 v10 v11 v12 : Option V) (kv1 kv2 : List (L2.Key × V)) (y1 y2 : Str) (tg1 tg2 : List Nat) (fr1 fr2 : Nat) (ds1 ds2 : List Dd), σ = [some (.ref b), some (.ref a1), some (.ref l), some (.ref p), some (.ref a3), v5, v6, v7, v8, v9, v10, v11, v12] ∧ SrcAt G a3 ∧ G p = some (.lst [.ref t1, .ref t2]) ∧ G t1 = some (.tup [.ref D1.x, .ref o1]) ∧ G t2 = some (.tup [.ref D2.x, .ref o2]) ∧ Dst K a3 G D1 o1 kv1 y1 tg1 fr1 ds1 ∧ Dst K a3 G D2 o2 kv2 y2 tg2 fr2 ds2 ∧ ds1.length ≤ i ∧ ds2.length ≤ i)
      ⟨none, none, none, none, none, none, none, none, _, _, _, _, _, _, _, _, [], [], rfl, f8.src, ep, et1, et2, d1, d2, Nat.le_refl _, Nat.le_refl _⟩ (fun _ _ _ _ _ => trivial) ?_ ?_
    · rintro i x σ G9 G9' hi ⟨v5, v6, v7, v8, v9, v10, v11, v12, kv1, kv2, y1, y2, tg1, tg2, fr1, fr2, ds1, ds2, rfl, hs9, ep, et1, et2, d1, d2, n1, n2⟩ ⟨eG, ex⟩
      replace eG := eG.symm
      subst eG
      have hi12 : i < 12 := by have : i < (6 + m0).toNat := hi; omega
      refine asg_any (op_of (var_of rfl (drawC rfl (by omega) (by omega) hs9 fun m G10 f10 hm => ?_)))
      have d1 := d1.fra hs9 f10
      have d2 := d2.fra hs9 f10
      have et1 := f10.keep hs9 et1 fun A S C z => by cases z
      have et2 := f10.keep hs9 et2 fun A S C z => by cases z
      have ep := f10.keep hs9 ep fun A S C => r3
      have hs10 := f10.src
      -- the desk that is picked, and the other one
      obtain ⟨t, D, o, kv, y, tg, fr, ds, D', o', kv', y', tg', fr', ds', em, et, dF, dO, nkk, noo, nF, back⟩ : ∃ (t : Addr) (D : DkD) (o : Addr) (kv : List (L2.Key × V)) (y : Str) (tg : List Nat) (fr : Nat) (ds : List Dd) (D' : DkD) (o' : Addr) (kv' : List (L2.Key × V)) (y' : Str) (tg' : List Nat) (fr' : Nat) (ds' : List Dd),
          [V.ref t1, V.ref t2][m]? = some (.ref t) ∧ G10 t = some (.tup [.ref D.x, .ref o]) ∧ Dst K a3 G10 D o kv y tg fr ds ∧ Dst K a3 G10 D' o' kv' y' tg' fr' ds' ∧ D'.k ≠ D.k ∧ o' ≠ o ∧ ds.length ≤ i ∧
          (∀ (G : Hp) kvn yn tgn frn dsn, Dst K a3 G D o kvn yn tgn frn dsn → Dst K a3 G D' o' kv' y' tg' fr' ds' → dsn.length ≤ i + 1 → ∃ (kv1 kv2 : List (L2.Key × V)) (y1 y2 : Str) (tg1 tg2 : List Nat) (fr1 fr2 : Nat) (ds1 ds2 : List Dd), Dst K a3 G D1 o1 kv1 y1 tg1 fr1 ds1 ∧ Dst K a3 G D2 o2 kv2 y2 tg2 fr2 ds2 ∧ ds1.length ≤ i + 1 ∧ ds2.length ≤ i + 1) := by
        have hm2 : m < 2 := by omega
        match m, hm2 with
        | 0, _ => exact ⟨t1, D1, o1, kv1, y1, tg1, fr1, ds1, D2, o2, kv2, y2, tg2, fr2, ds2, rfl, et1, d1, d2, fun z => nk z.symm, fun z => no z.symm, n1, fun G kvn yn tgn frn dsn e1 e2 e3 => ⟨kvn, kv2, yn, y2, tgn, tg2, frn, fr2, dsn, ds2, e1, e2, e3, by omega⟩⟩
        | 1, _ => exact ⟨t2, D2, o2, kv2, y2, tg2, fr2, ds2, D1, o1, kv1, y1, tg1, fr1, ds1, rfl, et2, d2, d1, nk, no, n2, fun G kvn yn tgn frn dsn e1 e2 e3 => ⟨kv1, kvn, y1, yn, tg1, tgn, fr1, frn, ds1, dsn, e2, e1, by omega, e3⟩⟩
      refine ⟨p, _, _, .ref t, rfl, rfl, SqL.of ep, atI_nat em, ?_⟩
      refine ⟨t, _, rfl, SqT.of et, rfl, _, _, rfl, _, _, rfl, rfl, ?_⟩
      refine if_then (fun σ G => ∃ (w5 w8 w9 w10 : Option V), σ = [some (.ref b), some (.ref a1), some (.ref l), some (.ref p), some (.ref a3), w5, some (.ref D.x), some (.ref o), w8, w9, w10, v11, v12] ∧ Fra a3 G10 G) ?_ fun rest => ?_
      case refine_2 =>
        refine test_op (drawC rfl (by omega) (by omega) hs10 fun way G11 f11 _ => c_of ⟨rfl, _, rfl, or_ite (fun _ => ?_) fun _ => rest _ _ ⟨_, _, _, _, rfl, f11⟩⟩)
        have dF := dF.fra hs10 f11
        refine asg_any (call_of (args_of (var_of rfl (args_of (var_of rfl (args_end ⟨a3, o, kv, y, D.al, rfl, f11.src, dF.ow, dF.ov.row, dF.ov.al, dF.al, dF.yo, fun G12 tt c x f k v f12 ett rk bad => ?_⟩))))))
        have dF := dF.fra f11.src f12
        refine ⟨tt, _, rfl, SqT.of ett, rfl, _, _, rfl, _, _, rfl, _, _, rfl, rfl, ?_⟩
        refine one_if (or_s (fun R kk => test_not (test_val (call_of (args_of (var_of rfl (args_of (var_of rfl (args_of (var_of rfl (args_of (var_of rfl (args_end ⟨.ref D.x, .ref c, v, x, f, k, rfl, rk, fun Q2 E2 e => bad.refuses (dF.pre (by omega)) Q2 E2 e, fun G s => ⟨true, rfl, kk G s⟩⟩)))))))))))) (fun G13 R s kk => test_not (test_val (call_of (args_of (var_of rfl (args_of (var_of rfl (args_end ((dF.same s).asks (by omega) fun G s => ⟨true, rfl, kk G s⟩))))))))) fun G14 s14 => iteF (rest _ _ ⟨_, _, _, _, rfl, (f11.trans f12).trans (Fra.same f12.src s14)⟩))
      rintro σ G15 ⟨w5, w8, w9, w10, rfl, f15⟩
      have dF := dF.fra hs10 f15
      have dO := dO.fra hs10 f15
      obtain ⟨hm1, hm8⟩ := menu_len D.al dF.al
      obtain ⟨c0, _, hc0, _, a0, _⟩ := atI_ends hm1
      have hyF := dF.yo.1
      refine if_then (fun σ G => σ = [some (.ref b), some (.ref a1), some (.ref l), some (.ref p), some (.ref a3), w5, some (.ref D.x), some (.ref o), w8, w9, w10, v11, v12] ∧ Fra a3 G15 G) ?_ fun rest => ?_
      case refine_2 =>
        refine test_op (cb_of (args_of (own_get rfl dF.ow dF.ov.row (args_end ⟨_, _, rfl, lenV_str (Nat.le_trans hyF (by decide)), c_of ⟨rfl, _, rfl, or_ite (fun hb => ?_) fun _ => rest _ _ ⟨rfl, Fra.refl f15.src⟩⟩⟩))))
        have hb : y.length = 200 := by
          have := of_decide_eq_true hb
          injection this with this
          omega
        refine one_if (test_not (test_val (call_of (args_of (var_of rfl (args_of (args_of (c_of (args_of (drawC rfl (by omega) (by omega) f15.src fun pk G16 f16 hpk => ?_))))))))))
        have dF := dF.fra f15.src f16
        refine args_of (op_of (own_get rfl dF.ow dF.ov.al (c_of ⟨D.al, _, c0, rfl, rfl, Nat.le_trans hm8 (by decide), a0, args_end ⟨by show 3 ≤ sizeLine; decide, fun tt htt => args_of (c_of (args_of (c_of (args_end ?_))))⟩⟩)))
        have st := same_upd (o := .tup [.str "put", .int (pk : Nat), .str ⟨#[c0]⟩]) htt
        refine ⟨.ref D.x, .ref tt, .int 201, "TooLong", "number", "long", rfl, .long 201, fun Q2 E2 e => (Bad.putN (al := D.al) (y := y) upd_same (.int _) (.str _) (smallT_str (by rw [len_one]; omega)) (below_of (by omega)) (show letterL D.al.cps.toList (.str ⟨#[c0]⟩) = true from decide_eq_true hc0) hb).refuses ((dF.same st).pre (by omega)) Q2 E2 e, fun G s => ⟨true, rfl, iteF (rest _ _ ⟨rfl, f16.trans (Fra.same f16.src (st.trans s))⟩)⟩⟩
      rintro σ G17 ⟨rfl, f17⟩
      have dF := dF.fra f15.src f17
      have dO := dO.fra f15.src f17
      dsimp only
      refine asg_set (call_of (args_of (var_of rfl (args_of (var_of rfl (args_end ⟨a3, o, kv, y, D.al, rfl, f17.src, dF.ow, dF.ov.row, dF.ov.al, hm1, hm8, dF.yo, fun G18 c d f18 ec fit => ?_⟩))))))
      rintro σ18 rfl
      have dF := dF.fra f17.src f18
      have dO := dO.fra f17.src f18
      refine asg_set (call_of (args_of (var_of rfl (args_of (var_of rfl (args_end ⟨o, c, kv, y, D.al, d, rfl, dF.ow, dF.ov.row, ec, fit, hyF, fun G19 r s19 er => ?_⟩))))))
      rintro σ19 rfl
      have dF := dF.same s19
      have dO := dO.same s19
      have hs19 := f18.src.same s19
      refine asg_set (call_of (args_of (var_of rfl (args_of (var_of rfl (args_end ⟨a3, o, r, kv, D.al, y, tg, fr, ds, D.ws, d, rfl, hs19, dF.ow, dF.ov, er, fit, dF.tg, dF.ws, dF.al, dF.yo, fun G20 kv20 z w20 keep20 eo20 hz ov20 turn20 => ?_⟩))))))
      rintro σ20 rfl
      have dO := dO.beside dF.ow keep20 noo
      obtain ⟨lg, lv1, lcs, lv2, lv3, lv4⟩ := ov20.log
      refine op_of (own_get rfl eo20 lv1 (args_of (var_of rfl (args_end ⟨by show 1 ≤ sizeLine; decide, fun q2 hq2 => ?_⟩))))
      have sq := same_upd (o := .lst [.ref r]) hq2
      refine ⟨lg, q2, _, _, rfl, rfl, sq _ _ (lt_le _ _ lv2), upd_same, ?_, fun q3 hq3 => ?_⟩
      · rw [List.length_map, lv3]
        exact Nat.le_trans (by show ds.length + 1 ≤ 100; omega : _ ≤ 100) (by decide)
      refine ⟨.ref o, rfl, o, _, rfl, .inl ⟨kv20, Sum.inr "log", same_upd hq3 _ _ (sq _ _ eo20), rfl, Nat.lt_of_le_of_lt ov20.n (by decide), rfl⟩, ?_⟩
      have s23 := sq.trans (same_upd (o := .lst (lcs.map V.ref ++ [.ref r])) hq3)
      have nq3 : q3 ≠ o := fun z => by rw [z, sq _ _ eo20] at hq3; cases hq3
      have hs20 : SrcAt G20 a3 := by
        obtain ⟨A, S, C, e⟩ := hs19
        exact ⟨A, S, C, keep20 _ _ (fun z => by rw [z, dF.ow] at e; cases e) e⟩
      have nq3a : q3 ≠ a3 := src_ne (hs20.same sq) hq3
      have keep22 : ∀ u v, u ≠ o → G20 u = some v → upd (upd (upd G20 q2 (.lst [.ref r])) q3 (.lst (lcs.map V.ref ++ [.ref r]))) o (.dK (putK kv20 (Sum.inr "log") (.ref q3))) u = some v := fun u v h e => by rw [upd_ne h]; exact s23 _ _ e
      have eo22 : upd (upd (upd G20 q2 (.lst [.ref r])) q3 (.lst (lcs.map V.ref ++ [.ref r]))) o (.dK (putK kv20 (Sum.inr "log") (.ref q3))) o = some (.dK (putK kv20 (Sum.inr "log") (.ref q3))) := upd_same
      have eq22 : upd (upd (upd G20 q2 (.lst [.ref r])) q3 (.lst (lcs.map V.ref ++ [.ref r]))) o (.dK (putK kv20 (Sum.inr "log") (.ref q3))) q3 = some (.lst (lcs.map V.ref ++ [.ref r])) := by rw [upd_ne nq3]; exact upd_same
      revert keep22 eo22 eq22
      generalize upd (upd (upd G20 q2 (.lst [.ref r])) q3 (.lst (lcs.map V.ref ++ [.ref r]))) o (.dK (putK kv20 (Sum.inr "log") (.ref q3))) = G22
      intro keep22 eo22 eq22
      have l22 : Same (lt a3 G20) (lt a3 G22) := lt_mk fun u v _ hu e => keep22 u v (fun z => by rw [z, eo20] at e; cases e; rcases hu with ⟨_, z⟩ | ⟨_, z⟩ <;> cases z) e
      have er20 : G20 r = some (.tup d.vs) := keep20 _ _ (fun z => by rw [z, dF.ow] at er; cases er) er
      have er22 : G22 r = some (.tup d.vs) := keep22 _ _ (fun z => by rw [z, eo20] at er20; cases er20) er20
      have era : r ≠ a3 := fun z => by
        obtain ⟨A, S, C, e⟩ := hs20
        rw [z, e] at er20
        cases er20
      have ov22 : OwnV (lt a3 G22) (putK kv20 (Sum.inr "log") (.ref q3)) D.al z (d.tags tg fr) (fr + z.length + 1) (ds ++ [d]) D.ws := by
        have ne : ∀ {x y : Str}, x ≠ y → ¬ ((Sum.inr x : L2.Key) = Sum.inr y) := fun h e => h (Sum.inr.inj e)
        have o2 := ov20.same l22
        obtain ⟨tgl, tv1, tv2⟩ := o2.tags
        obtain ⟨lsl, u1, u2⟩ := o2.listed
        refine ⟨?_, ?_, ⟨tgl, ?_, tv2⟩, ?_, ⟨q3, ?_, lcs ++ [r], ?_, ?_, fun i c' d' e1 e2 => ?_⟩, ⟨lsl, ?_, u2⟩, ?_⟩
        · rw [valV_put, if_neg (ne (by decide +kernel))]; exact o2.al
        · rw [valV_put, if_neg (ne (by decide +kernel))]; exact o2.row
        · rw [valV_put, if_neg (ne (by decide +kernel))]; exact tv1
        · rw [valV_put, if_neg (ne (by decide +kernel))]; exact o2.fresh
        · rw [valV_put, if_pos rfl]
        · rw [List.map_append]; exact lt_lst nq3a eq22
        · rw [List.length_append, List.length_append, lv3]; rfl
        · by_cases hi : i < lcs.length
          · rw [List.getElem?_append_left hi] at e1
            rw [List.getElem?_append_left (by omega)] at e2
            exact l22 _ _ (lv4 i c' d' e1 e2)
          · rw [List.getElem?_append_right (by omega)] at e1
            rw [List.getElem?_append_right (by omega)] at e2
            have h0 : i - lcs.length = 0 := by
              have := (List.getElem?_eq_some_iff.mp e1).1
              rw [List.length_singleton] at this
              omega
            rw [h0] at e1
            rw [show i - ds.length = 0 by omega] at e2
            cases e1
            cases e2
            exact lt_tup era er22
        · rw [valV_put, if_neg (ne (by decide +kernel))]; exact u1
        · rw [putK_len lv1]; exact o2.n
      have dO := dO.beside eo20 keep22 noo
      have keep : ∀ u v, u ≠ o → G19 u = some v → G22 u = some v := fun u v h e => keep22 u v h (keep20 u v h e)
      have dk22 : DkAt K G22 D := dF.dk.firm fun u v f e => keep u v (fun z => by rw [z, dF.ow] at e; cases e; cases f) e
      have st22 : StAt K G22 D.k y ds := dF.st.firm (fun u v f e => keep u v (fun z => by rw [z, dF.ow] at e; cases e; cases f) e) fun v e => keep _ v (fun z => by rw [z, dF.ow] at e; obtain ⟨_, _, w⟩ := dF.st.top; rw [z, dF.ow] at w; cases w) e
      dsimp only
      have ec19 : G19 c = some (.tup d.cs) := s19 _ _ ec
      have ec22 : G22 c = some (.tup d.cs) := keep _ _ (fun z => by rw [z, dF.ow] at ec19; cases ec19) ec19
      obtain ⟨dk0, v0, ek⟩ := st22.top
      have pre22 : DkPre K G22 D y ds := ⟨dk22.firm (firm_del fun u e2 => by rw [ek] at e2; cases e2; rfl), st22, dF.ws.ok, dF.yo, by omega⟩
      have hzo := fits_over fit dF.yo hz
      have lz : z.cps.toList.length = z.length := Array.length_toList
      have tgN : TagsOk (d.tags tg fr) (fr + z.length + 1) z.length := by
        have := tags_ok dF.tg (Dd.fits_ok fit)
        rwa [← hz, lz] at this
      have tl : ((turnL D.ws y.cps.toList z.cps.toList (d.kept y.length)).mergeSort leN).length ≤ 5000 := by
        rw [List.length_mergeSort]
        refine Nat.le_trans turnL_len (Nat.le_trans (Nat.mul_le_mul dF.ws.ok.le (Nat.le_trans kept_len hyF)) (by decide))
      have nko : D.k ≠ o := fun zz => by rw [zz, eo22] at ek; cases ek
      refine one_if (show tOr _ _ _ _ _ from test_not (test_val (call_of (args_of (call_of (args_of (var_of rfl (args_of (var_of rfl (args_end (good_do pre22 fit ec22 fun H' r' z' ez sm st' tu' => ?_)))))))))))
      have ezz : z' = z := str_of (ez.trans hz.symm)
      subst ezz
      have all : ∀ u v, u ≠ D.k → G22 u = some v → H' u = some v := fun u v h e => by
        have := sm u v (by rw [del_ne h]; exact e)
        rwa [del_ne h] at this
      have fmH : Firm G22 H' := fun u v f e => all u v (fun zz => by rw [zz, ek] at e; cases e; cases f) e
      have dkH := dk22.firm fmH
      have dN : Dst K a3 H' D o _ z' (d.tags tg fr) (fr + z'.length + 1) (ds ++ [d]) := ⟨dkH, st', all _ _ (Ne.symm nko) eo22, ov22.same (lt_del2 ek (fun zz => by rcases zz with ⟨_, zz⟩ | ⟨_, zz⟩ <;> cases zz) sm), dF.ws, dF.al, tgN, hzo⟩
      have dO := dO.other ek sm nkk
      have rt1 := tu'.rt.tups (Same.tups (del_le D.k))
      have rt2 : Rt H' w20 (turnD ((turnL D.ws y.cps.toList z'.cps.toList (d.kept y.length)).mergeSort leN)) := turn20.rt.tups fun u xs e => fmH _ _ rfl (keep22 u _ (fun zz => by rw [zz, eo20] at e; cases e) e)
      refine args_of (var_of rfl (args_end ⟨r', w20, _, rfl, rt1, rt2, turn_alk tl, fun H2 s2 => ⟨true, rfl, iteF (test_not (test_val (call_of (args_of (var_of rfl (args_of (var_of rfl (args_end ((dN.same s2).asks (by rw [List.length_append]; show ds.length + 1 ≤ 1000; omega) fun H3 s3 => ⟨true, rfl, iteF ?_⟩)))))))))⟩⟩))
      have s23' := s2.trans s3
      obtain ⟨kq1, kq2, yq1, yq2, tq1, tq2, fq1, fq2, dq1, dq2, e1, e2, e3, e4⟩ := back H3 _ _ _ _ _ (dN.same s23') (dO.same s23') (by rw [List.length_append]; show ds.length + 1 ≤ i + 1; omega)
      have fin : ∀ u v, G10 u = some v → (∀ A S C, v ≠ three A S C) → u ≠ o → u ≠ D.k → H3 u = some v := fun u v e n h1 h2 => s23' _ _ (all u v h2 (keep u v h1 (s19 _ _ (f18.keep f17.src (f17.keep f15.src (f15.keep hs10 e n) n) n))))
      have hs3 : SrcAt H3 a3 := by
        obtain ⟨A, S, C, e⟩ := hs19
        exact ⟨A, S, C, s23' _ _ (all _ _ (fun zz => by rw [zz] at e; rw [keep _ _ nko e] at ek; cases ek) (keep _ _ (fun zz => by rw [zz, dF.ow] at e; cases e) e))⟩
      have no10 : ∀ u xs, (G10 u = some (.tup xs) ∨ G10 u = some (.lst xs)) → (∀ A S C, HO.lst xs ≠ three A S C) → u ≠ o ∧ u ≠ D.k := fun u xs e n => by
        have k19 : ∀ v, G10 u = some v → (∀ A S C, v ≠ three A S C) → G19 u = some v := fun v e n => s19 _ _ (f18.keep f17.src (f17.keep f15.src (f15.keep hs10 e n) n) n)
        have key : ∃ v, G19 u = some v ∧ ((∃ xs, v = .tup xs) ∨ ∃ xs, v = .lst xs) := by
          rcases e with e | e
          · exact ⟨_, k19 _ e (fun A S C zz => (by cases zz)), .inl ⟨_, rfl⟩⟩
          · exact ⟨_, k19 _ e n, .inr ⟨_, rfl⟩⟩
        obtain ⟨v, e19, hv⟩ := key
        have h1 : u ≠ o := fun zz => by rw [zz, dF.ow] at e19; cases e19; rcases hv with ⟨_, h⟩ | ⟨_, h⟩ <;> cases h
        exact ⟨h1, fun zz => by rw [zz] at e19 h1; rw [keep _ _ h1 e19] at ek; cases ek; rcases hv with ⟨_, h⟩ | ⟨_, h⟩ <;> cases h⟩
      have n1 := no10 p _ (.inr ep) fun A S C => r3
      have n2 := no10 t1 _ (.inl et1) fun A S C zz => by unfold three at zz; injection zz with zz; cases zz
      have n3 := no10 t2 _ (.inl et2) fun A S C zz => by unfold three at zz; injection zz with zz; cases zz
      exact ⟨_, _, _, _, _, _, _, _, kq1, kq2, yq1, yq2, tq1, tq2, fq1, fq2, dq1, dq2, rfl, hs3, fin _ _ ep (fun A S C => r3) n1.1 n1.2, fin _ _ et1 (fun A S C zz => by cases zz) n2.1 n2.2, fin _ _ et2 (fun A S C zz => by cases zz) n3.1 n3.2, e1, e2, e3, e4⟩
    · rintro σ G9 ⟨v5, v6, v7, v8, v9, v10, v11, v12, kv1, kv2, y1, y2, tg1, tg2, fr1, fr2, ds1, ds2, rfl, hs9, ep, et1, et2, d1, d2, n1, n2⟩
      dsimp only
      have hn12 : (6 + m0).toNat ≤ 12 := by omega
      refine ret_te (call_of (args_of (pair_ix (i := 0) (j := 0) rfl ep rfl et1 rfl (args_of (pair_ix (i := 0) (j := 1) rfl ep rfl et1 rfl (args_end (d1.asks (by omega) fun G s => ⟨_, rfl, iteT ?_⟩)))))))
      exact call_of (args_of (pair_ix (i := 1) (j := 0) rfl (s _ _ ep) rfl (s _ _ et2) rfl (args_of (pair_ix (i := 1) (j := 1) rfl (s _ _ ep) rfl (s _ _ et2) rfl (args_end ((d2.same s).asks (by omega) fun G' s' => q G'))))))
end
end Kx
set_option Elab.async false
set_option linter.all false
set_option maxRecDepth 100000
set_option maxHeartbeats 4000000
namespace Kx
open PySem PySem.Spec PyProof.Rows L2
/-! ### the law, called from outside, where no repr is under way -/
section
variable {P : Program} {w : World} {K : PySem.W.Frag} {mg mb : Str → Option Value} {k : Nat} {fa a : Addr} {x : Str} {sp : Sp} {s : Shared} {vs : List Value} {ns : List Int}
def Told3 (s : Shared) (r : Result) (s' : Shared) : Prop := r = .ok (.ret (.bool true)) ∧ OldK s.heap s'.heap ∧ s'.os = s.os ∧ AllBare s'.gens
theorem told_from (H : Hp) (KX : K.In s.heap) (hns : s.heap.Ns mainGlobals mg) (hb : s.heap.Ns builtinsNs mb) (hbb : ∀ x : Str, x ≠ "__name__" → mb x = bootBuiltins x) (hlim : s.heap.NoLimit) (hg : s.gens = #[])
    (ha : s.heap.get? a = some { cls := .type "list", data := .seq vs.toArray }) (hr : Room k callerA)
    (F : ∀ base : Heap, ∃ fd : FuncData, FnOkG P w K mg base CX0 k fa fd [x] sp ∧ Binds K fd [x] [])
    (hsp : sp [.ref a] H (fun v _ => v = .bl true) fun _ _ _ => False) (hok : HOk P w H s.heap) (hH : ∀ b u, H b = some u → b = a ∧ K.lookup a = none ∧ ∃ o xs, u = .frz o (.lst xs)) :
    codeAny (model P w) callerA (.call (.ref fa) ⟨[.ref a], []⟩) (Told3 s) s := by
  -- where H is silent the base keeps the heap
  have kept : ∀ {b : Addr} {o : Obj}, s.heap.get? b = some o → (b = a → False) ∨ H b = none → (hidT s.heap H).get? b = some o := fun {b o} e h => hidT_get e (by
    cases q : H b with
    | none => rfl
    | some u => rcases h with h | h
                · exact (h (hH b u q).1).elim
                · rw [q] at h; cases h)
  have dicts : ∀ {b : Addr} {m : Str → Option Value}, s.heap.Ns b m → (hidT s.heap H).Ns b m := fun {b m} ⟨o, es, ep, e, d, r⟩ => ⟨o, es, ep, kept e (.inl fun z => by
    subst z
    rw [ha] at e
    cases e
    cases d), d, r⟩
  have hK : K.In (hidT s.heap H) := fun b o e => kept (KX b o e) (by
    cases q : H b with
    | none => exact .inr rfl
    | some u =>
      obtain ⟨z, n, _⟩ := hH b u q
      subst z
      rw [n] at e
      cases e)
  obtain ⟨mc, l1, l2⟩ := hlim
  have e0 : Env0 P w K mg (hidT s.heap H) callerA [] s H := ⟨rfl, ⟨hK, dicts hns, ⟨mb, dicts hb, hbb⟩, mc, dicts l1, l2⟩, fun b o e => of_hidT e, Nat.le_of_eq (hidT_size _ _), trivial, fun b h => (by cases h), hok, .of_eq hg⟩
  obtain ⟨fd, F, hbind⟩ := F (hidT s.heap H)
  have bt := hbind s [.ref a] KX rfl
  rw [List.append_nil] at bt
  refine codeAny_mono (F.run callerA [] s H ⟨[.ref a], []⟩ [.ref a] [.ref a] _ _ rfl hr e0 bt (.cons rfl .nil) hsp) fun r s' h => ?_
  match r, h with
  | .ok (.ret u), ⟨v, H', os, bare, un, hok', ru, q⟩ =>
    have q' : v = .bl true := q
    subst q'
    obtain rfl : u = Value.bool true := ru
    refine ⟨rfl, OldK.of_keep fun b o e => ?_, os, bare⟩
    cases z : H b with
    | none => exact un.keep b o e z (fun h => (by cases h)) (by simp)
    | some u =>
      obtain ⟨_, _, ob, xs, rfl⟩ := hH b u z
      obtain ⟨e1, _⟩ := hok b _ z
      obtain ⟨e2, _⟩ := hok' b _ (un.frzs b ob _ z)
      rw [e] at e1
      cases e1
      exact e2
theorem told_law (KX : K.In s.heap) (hns : s.heap.Ns mainGlobals mg) (hb : s.heap.Ns builtinsNs mb) (hbb : ∀ x : Str, x ≠ "__name__" → mb x = bootBuiltins x) (hlim : s.heap.NoLimit) (hg : s.gens = #[])
    (ha : s.heap.get? a = some { cls := .type "list", data := .seq vs.toArray }) (hi : IntsAre vs ns) (hl : ns.length ≤ sizeLine) (hr : Room k callerA)
    (F : ∀ base : Heap, ∃ fd : FuncData, FnOkG P w K mg base CX0 k fa fd [x] sp ∧ Binds K fd [x] [])
    (hsp : ∀ H : Hp, SqL K H a (ns.map V.int) → sp [.ref a] H (fun v _ => v = .bl true) fun _ _ _ => False) :
    codeAny (model P w) callerA (.call (.ref fa) ⟨[.ref a], []⟩) (Told3 s) s := by
  have rv := vals_ints hi
  cases hk : K.lookup a with
  | some o =>
    have e := KX a o hk
    rw [ha] at e
    cases e
    exact told_from (fun _ => none) KX hns hb hbb hlim hg ha hr F (hsp _ (.inr ⟨_, vs.toArray, _, hk, rfl, rfl, rfl, by rw [List.size_toArray, hi.length]; exact hl, by simpa using rv⟩)) (fun b u z => by cases (show (none : Option HO) = some u from z)) (fun b u z => by cases (show (none : Option HO) = some u from z))
  | none =>
    have at_ : ∀ b u, (fun b => if b = a then some (HO.frz { cls := .type "list", data := .seq vs.toArray } (.lst (ns.map V.int))) else none) b = some u → b = a ∧ u = .frz { cls := .type "list", data := .seq vs.toArray } (.lst (ns.map V.int)) := fun b u z => by
      by_cases h : b = a
      · exact ⟨h, by have z' := (if_pos h).symm.trans z; cases z'; rfl⟩
      · have z' := (if_neg h).symm.trans z
        cases z'
    refine told_from (fun b => if b = a then some (.frz { cls := .type "list", data := .seq vs.toArray } (.lst (ns.map V.int))) else none) KX hns hb hbb hlim hg ha hr F (hsp _ (.inl (.inr ⟨_, if_pos rfl⟩))) (fun b u z => ?_) (fun b u z => ?_)
    · obtain ⟨rfl, rfl⟩ := at_ b u z
      exact ⟨ha, by rw [List.length_map]; exact hl, vs, _, rv, ha⟩
    · obtain ⟨rfl, rfl⟩ := at_ b u z
      exact ⟨rfl, hk, _, _, rfl⟩
end
/-- what the head says makes all that is known of the written part -/
theorem txt_of {K : PySem.W.Frag} {h : Heap} {mg : Str → Option Value} (X : K.In h) (G : h.Ns mainGlobals mg) (c : He.SaysD fa fn K) (e : extra K = true) (p : He5.SaysA [] fnP K) : Txt K mg := by
  have in3 : ∀ (i : Nat) {f : He.Fa}, fa3[i]? = some f → f ∈ fa := fun i f hf => by
    unfold fa
    exact List.mem_append_right _ (List.mem_of_getElem? hf)
  have facts : ∀ {f : He.Fa}, f ∈ fa → f.ok K = true := fun {f} h => by
    obtain ⟨i, hi⟩ := List.mem_iff_getElem?.mp h
    exact He.SaysD.fact c i hi
  exact ⟨c, fun x hx => He.glo_ok X G (facts hx), fun x hx => He.free_ok X G (facts hx), e, p, He.int_ok X G (facts (in3 0 rfl)), He.int_ok X G (facts (in3 1 rfl)), He.int_ok X G (facts (in3 2 rfl)), He.int_ok X G (facts (in3 3 rfl)), He.str_ok X G (facts (in3 4 rfl)), He.str_ok X G (facts (in3 5 rfl))⟩
end Kx
open PySem PySem.W PySem.Calls PyProof.Rows
theorem PySem.Challenge.cw_saidhere_k57_whole_desk_deeds_holds : PySem.Challenge.rw_saidhere_k57_whole_desk_deeds.Holds := by
  w_on; o_law
  refine HandSHeadRun.head_any (r := OpenLaw.row PySem.Challenge.rw_saidhere_k57_whole_desk_deeds) (q := view (OpenLaw.row PySem.Challenge.rw_saidhere_k57_whole_desk_deeds).prog [100]) (H := Kx.look Kx.fAll Kx.vAll) (ob := Kx.lookT Kx.fAll) (M := 20000) (loose := Kx.nms) (d := HandSHeadRun.topDef (OpenLaw.row PySem.Challenge.rw_saidhere_k57_whole_desk_deeds).prog 100) (kwd := []) (Kx.lookT_eq Kx.fAll Kx.vAll)
    (by kernel_rfl) (fun s => by kernel_rfl) Kx.runAll (by kernel_rfl) (by kernel_rfl) (by kernel_rfl) (by rfl) (by first | assumption | decide +kernel) (by decide +kernel) ⟨rfl, rfl, rfl, rfl, rfl, by decide +kernel⟩ ?hw ?hc
  case hw => w_witness2
  case hc =>
    refine Att.attach_callB (l := PySem.Challenge.rw_saidhere_k57_whole_desk_deeds) (n := 63) rfl (by kernel_rfl) fun w s₀ s₁ mg mb fa o pm cd doc a vs ns G Y ho hd hcd hmg hobj hints hlen hbits hg => ?_
    obtain ⟨K, KX, hall⟩ := Y
    obtain ⟨⟨c, e⟩, p⟩ := Kx.all_of hall
    have T := Kx.txt_of KX G.T.g c e p
    have hfa : fa = He.ga K ("law" : PySem.Str) := by
      have e1 : (HandSHeadRun.topDef (OpenLaw.row PySem.Challenge.rw_saidhere_k57_whole_desk_deeds).prog 100).name = ("law" : PySem.Str) := by kernel_rfl
      have e2 := (Kx.ok_law (P := (PySem.Challenge.rw_saidhere_k57_whole_desk_deeds).prog) (w := w) (base := s₁.heap) T).g
      rw [e1, e2] at hmg
      exact (Value.ref.inj (Option.some.inj hmg)).symm
    subst hfa
    exact Kx.told_law (sp := Kx.sp_law K) (k := 10) (x := ("_law_script" : PySem.Str)) KX G.T.g G.T.b G.T.builtins G.T.nolimit hg hobj hints (Nat.le_trans hlen (by decide)) ⟨rfl, by decide, by decide⟩ (fun base => (Kx.ok_law T).ok) fun H hS => ⟨a, ns, rfl, hS, Nat.le_trans hlen (by decide), hbits, fun _ => rfl⟩
