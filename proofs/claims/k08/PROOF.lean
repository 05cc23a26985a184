import PyProof.Rows.All
import Wide.All
import OpenK.AllK
import Wide.FinOn
import KE.KStateDown
import Lean
import HandS.ForMost
import HandS.ForExc
import HandS.Defaults
import HandS.ClsMeth
import HandS.ExcInit
import HandS.IsInst
import HandS.Small
import HandS.Wide
import HandS.WideBits
import HandS.Deep
import HandS.Nested
import HandS.Star
import HandS.Head0
import HandS.Head1
import HandS.Head2
import HandS.HeadEnd
import HandS.HeadHook1
import HandS.HeadHook2
import HandS.HeadNt
import HandS.ExcInitHot
import HandS.ExcField
import HandS.ExcIs
import HandS.HotCalls
import HandS.Walk
import KE.GoesEnum
import KE.GoesZip
import KE.GoesNew
import HandS.Style
import KE.KRevSl
import KE.BitLaws
import KE.LtData
import HandS.OwnEq
import KE.KUnpack
import HandS.RaiseMore
import KE.KExcIs
import HandS.RevTup
import HandS.Rev
import PyProof.ListNew
import HandS.Replace
import HandS.RevRange
import HandS.SetTxt0
import HandS.SetTxtIn
import HandS.SetFor
import PyProof.SetRoads
import KE.SortData
import KE.DatumOrd
import HandS.EndBits
import PySem.Challenge.RW_saidhere_k08_pairs_mark
set_option Elab.async false
set_option linter.all false
set_option maxRecDepth 100000
set_option maxHeartbeats 0
namespace Kx
open PySem PySem.Spec PyProof.Rows L2
-- written by gen.py
def top (i : Nat) : Stmt := PySem.Challenge.pw_saidhere_k08_pairs_mark.main.body.getD i (.Pass ⟨0, 0, 0, 0⟩)
abbrev s_WrongThing___init__ : Stmt := inClass (top 2) 0
abbrev N_WrongThing___init__ : List Str := ["self", "thing"]
-- slots of WrongThing___init__: 0 self, 1 thing
abbrev s_WrongItem___init__ : Stmt := inClass (top 3) 0
abbrev N_WrongItem___init__ : List Str := ["self", "number"]
-- slots of WrongItem___init__: 0 self, 1 number
abbrev s_BadRow___init__ : Stmt := inClass (top 8) 0
abbrev N_BadRow___init__ : List Str := ["self", "at"]
-- slots of BadRow___init__: 0 self, 1 at
abbrev s_BadReader___init__ : Stmt := inClass (top 9) 0
abbrev N_BadReader___init__ : List Str := ["self", "side", "number"]
-- slots of BadReader___init__: 0 self, 1 side, 2 number
abbrev s_TooMany___init__ : Stmt := inClass (top 10) 0
abbrev N_TooMany___init__ : List Str := ["self", "word"]
-- slots of TooMany___init__: 0 self, 1 word
abbrev s_Unlike___init__ : Stmt := inClass (top 11) 0
abbrev N_Unlike___init__ : List Str := ["self", "word"]
-- slots of Unlike___init__: 0 self, 1 word
abbrev s_is_whole : Stmt := top 13
abbrev N_is_whole : List Str := ["thing"]
-- slots of is_whole: 0 thing
abbrev s_is_below : Stmt := top 14
abbrev N_is_below : List Str := ["thing", "many"]
-- slots of is_below: 0 thing, 1 many
abbrev s_is_listing : Stmt := top 15
abbrev N_is_listing : List Str := ["thing"]
-- slots of is_listing: 0 thing
abbrev s_has_bit : Stmt := top 17
abbrev N_has_bit : List Str := ["mask", "number"]
-- slots of has_bit: 0 mask, 1 number
abbrev s_mask_of : Stmt := top 18
abbrev N_mask_of : List Str := ["bits", "mask", "number", "bit"]
-- slots of mask_of: 0 bits, 1 mask, 2 number, 3 bit
abbrev s_united : Stmt := top 19
abbrev N_united : List Str := ["mask", "pictures", "whole", "number", "picture"]
-- slots of united: 0 mask, 1 pictures, 2 whole, 3 number, 4 picture
abbrev s_spread : Stmt := top 20
abbrev N_spread : List Str := ["table", "column", "pictures", "number", "standing", "mask", "masks"]
-- slots of spread: 0 table, 1 column, 2 pictures, 3 number, 4 standing, 5 mask, 6 masks
abbrev s_is_move : Stmt := top 23
abbrev N_is_move : List Str := ["thing", "letters", "standings", "standing"]
-- slots of is_move: 0 thing, 1 letters, 2 standings, 3 standing
abbrev s_kept_reader : Stmt := top 24
abbrev N_kept_reader : List Str := ["alphabet", "side", "thing", "kept", "number", "move"]
-- slots of kept_reader: 0 alphabet, 1 side, 2 thing, 3 kept, 4 number, 5 move
abbrev s_standings_ahead : Stmt := top 25
abbrev N_standings_ahead : List Str := ["alphabet", "left", "row", "told", "standing", "letter"]
-- slots of standings_ahead: 0 alphabet, 1 left, 2 row, 3 told, 4 standing, 5 letter
abbrev s_standings_behind : Stmt := top 26
abbrev N_standings_behind : List Str := ["alphabet", "right", "row"]
-- slots of standings_behind: 0 alphabet, 1 right, 2 row
abbrev s_item_after : Stmt := top 27
abbrev N_item_after : List Str := ["readers", "item", "letter", "reader", "standing"]
-- slots of item_after: 0 readers, 1 item, 2 letter, 3 reader, 4 standing
abbrev s_check_most : Stmt := top 28
abbrev N_check_most : List Str := ["many", "most", "word"]
-- slots of check_most: 0 many, 1 most, 2 word
abbrev s_walked_ahead : Stmt := top 29
abbrev N_walked_ahead : List Str := ["alphabet", "readers", "begin", "most", "word", "items", "found", "rows", "moves", "at", "move", "number", "letter", "follower"]
-- slots of walked_ahead: 0 alphabet, 1 readers, 2 begin, 3 most, 4 word, 5 items, 6 found, 7 rows, 8 moves, 9 at, 10 move, 11 number, 12 letter, 13 follower
abbrev s_walked_behind : Stmt := top 30
abbrev N_walked_behind : List Str := ["alphabet", "readers", "begin", "most", "word", "items", "found", "rows", "level", "newer", "number", "letter", "at", "follower", "letters", "moves", "k", "item"]
-- slots of walked_behind: 0 alphabet, 1 readers, 2 begin, 3 most, 4 word, 5 items, 6 found, 7 rows, 8 level, 9 newer, 10 number, 11 letter, 12 at, 13 follower, 14 letters, 15 moves, 16 k, 17 item
abbrev s_reached_ahead : Stmt := top 31
abbrev N_reached_ahead : List Str := ["alphabet", "readers", "most", "_"]
-- slots of reached_ahead: 0 alphabet, 1 readers, 2 most, 3 _
abbrev s_reached_behind : Stmt := top 32
abbrev N_reached_behind : List Str := ["alphabet", "readers", "most", "_"]
-- slots of reached_behind: 0 alphabet, 1 readers, 2 most, 3 _
abbrev s_numbered : Stmt := top 34
abbrev N_numbered : List Str := ["things", "found", "numbers", "thing"]
-- slots of numbered: 0 things, 1 found, 2 numbers, 3 thing
abbrev s_refined : Stmt := top 35
abbrev N_refined : List Str := ["moves", "colours", "most", "numbers", "many", "told", "newer", "follower", "move"]
-- slots of refined: 0 moves, 1 colours, 2 most, 3 numbers, 4 many, 5 told, 6 newer, 7 follower, 8 move
abbrev s_firsts_of : Stmt := top 36
abbrev N_firsts_of : List Str := ["numbers", "found", "standing", "number"]
-- slots of firsts_of: 0 numbers, 1 found, 2 standing, 3 number
abbrev s_class_moves : Stmt := top 37
abbrev N_class_moves : List Str := ["moves", "numbers", "firsts", "follower", "standing"]
-- slots of class_moves: 0 moves, 1 numbers, 2 firsts, 3 follower, 4 standing
abbrev s_column_of : Stmt := top 38
abbrev N_column_of : List Str := ["table", "standing", "masks", "mask"]
-- slots of column_of: 0 table, 1 standing, 2 masks, 3 mask
abbrev s_picked : Stmt := top 39
abbrev N_picked : List Str := ["masks", "standings", "standing", "mask"]
-- slots of picked: 0 masks, 1 standings, 2 standing, 3 mask
abbrev s_least_machine : Stmt := top 40
abbrev N_least_machine : List Str := ["alphabet", "left", "right", "table", "items", "_", "onward", "things", "backward", "rights", "live", "answers", "ahead", "firsts", "shorter", "columns", "behind", "lasts", "least_left", "least_right", "kept", "thing", "standing", "mask", "item", "first"]
-- slots of least_machine: 0 alphabet, 1 left, 2 right, 3 table, 4 items, 5 _, 6 onward, 7 things, 8 backward, 9 rights, 10 live, 11 answers, 12 ahead, 13 firsts, 14 shorter, 15 columns, 16 behind, 17 lasts, 18 least_left, 19 least_right, 20 kept, 21 thing, 22 standing, 23 mask, 24 item, 25 first
abbrev s_is_alphabet : Stmt := top 44
abbrev N_is_alphabet : List Str := ["thing", "known", "letter", "one", "other"]
-- slots of is_alphabet: 0 thing, 1 known, 2 letter, 3 one, 4 other
abbrev s_check_alphabet : Stmt := top 45
abbrev N_check_alphabet : List Str := ["thing"]
-- slots of check_alphabet: 0 thing
abbrev s_is_letter : Stmt := top 46
abbrev N_is_letter : List Str := ["alphabet", "thing"]
-- slots of is_letter: 0 alphabet, 1 thing
abbrev s_wrong_at : Stmt := top 47
abbrev N_wrong_at : List Str := ["alphabet", "thing", "at", "letter"]
-- slots of wrong_at: 0 alphabet, 1 thing, 2 at, 3 letter
abbrev s_check_row : Stmt := top 48
abbrev N_check_row : List Str := ["alphabet", "thing", "at"]
-- slots of check_row: 0 alphabet, 1 thing, 2 at
abbrev s_check_place : Stmt := top 49
abbrev N_check_place : List Str := ["row", "thing"]
-- slots of check_place: 0 row, 1 thing
abbrev s_is_triple : Stmt := top 51
abbrev N_is_triple : List Str := ["alphabet", "left", "right", "thing", "known"]
-- slots of is_triple: 0 alphabet, 1 left, 2 right, 3 thing, 4 known
abbrev s_kept_marked : Stmt := top 52
abbrev N_kept_marked : List Str := ["alphabet", "left", "right", "thing", "kept", "number", "triple"]
-- slots of kept_marked: 0 alphabet, 1 left, 2 right, 3 thing, 4 kept, 5 number, 6 triple
abbrev s_masks_of_triples : Stmt := top 53
abbrev N_masks_of_triples : List Str := ["alphabet", "many", "marked", "found", "standing", "letter", "other"]
-- slots of masks_of_triples: 0 alphabet, 1 many, 2 marked, 3 found, 4 standing, 5 letter, 6 other
abbrev s_triples_of_masks : Stmt := top 54
abbrev N_triples_of_masks : List Str := ["alphabet", "many", "table", "triples", "standing", "masks", "letter", "mask", "other"]
-- slots of triples_of_masks: 0 alphabet, 1 many, 2 table, 3 triples, 4 standing, 5 masks, 6 letter, 7 mask, 8 other
abbrev s_check_alphabets : Stmt := top 55
abbrev N_check_alphabets : List Str := ["one", "other"]
-- slots of check_alphabets: 0 one, 1 other
abbrev s_marks_in : Stmt := top 56
abbrev N_marks_in : List Str := ["pair", "row", "ahead", "behind", "letters", "letter", "p", "k", "q"]
-- slots of marks_in: 0 pair, 1 row, 2 ahead, 3 behind, 4 letters, 5 letter, 6 p, 7 k, 8 q
abbrev s_crossed : Stmt := top 57
abbrev N_crossed : List Str := ["one", "other", "items", "_", "left", "things", "right", "first", "second", "q", "s", "p", "o"]
-- slots of crossed: 0 one, 1 other, 2 items, 3 _, 4 left, 5 things, 6 right, 7 first, 8 second, 9 q, 10 s, 11 p, 12 o
abbrev s_Pair___init__ : Stmt := inClass (top 58) 0
abbrev N_Pair___init__ : List Str := ["self", "alphabet", "left", "right", "marked"]
-- slots of Pair___init__: 0 self, 1 alphabet, 2 left, 3 right, 4 marked
abbrev s_Pair___call__ : Stmt := inClass (top 58) 1
abbrev N_Pair___call__ : List Str := ["self", "row"]
-- slots of Pair___call__: 0 self, 1 row
abbrev s_Pair___contains__ : Stmt := inClass (top 58) 2
abbrev N_Pair___contains__ : List Str := ["self", "placed", "row", "place"]
-- slots of Pair___contains__: 0 self, 1 placed, 2 row, 3 place
abbrev s_Pair___and__ : Stmt := inClass (top 58) 3
abbrev N_Pair___and__ : List Str := ["self", "other", "left", "right", "table", "both", "x", "y", "first", "second"]
-- slots of Pair___and__: 0 self, 1 other, 2 left, 3 right, 4 table, 5 both, 6 x, 7 y, 8 first, 9 second
abbrev s_Pair___or__ : Stmt := inClass (top 58) 4
abbrev N_Pair___or__ : List Str := ["self", "other", "left", "right", "table", "either", "x", "y", "first", "second"]
-- slots of Pair___or__: 0 self, 1 other, 2 left, 3 right, 4 table, 5 either, 6 x, 7 y, 8 first, 9 second
abbrev s_Pair___invert__ : Stmt := inClass (top 58) 5
abbrev N_Pair___invert__ : List Str := ["self", "whole", "table", "mask", "masks"]
-- slots of Pair___invert__: 0 self, 1 whole, 2 table, 3 mask, 4 masks
abbrev s_Pair___eq__ : Stmt := inClass (top 58) 6
abbrev N_Pair___eq__ : List Str := ["self", "other"]
-- slots of Pair___eq__: 0 self, 1 other
abbrev s_Pair_of_letters : Stmt := inClass (top 58) 7
abbrev N_Pair_of_letters : List Str := ["cls", "alphabet", "letters", "still", "_", "letter"]
-- slots of Pair_of_letters: 0 cls, 1 alphabet, 2 letters, 3 still, 4 _, 5 letter
abbrev s_is_choice : Stmt := top 59
abbrev N_is_choice : List Str := ["alphabet", "thing", "letter"]
-- slots of is_choice: 0 alphabet, 1 thing, 2 letter
abbrev s_least_pair : Stmt := top 60
abbrev N_least_pair : List Str := ["alphabet", "left", "right", "table", "ahead", "behind", "masks"]
-- slots of least_pair: 0 alphabet, 1 left, 2 right, 3 table, 4 ahead, 5 behind, 6 masks
abbrev s__law_source : Stmt := top 62
abbrev N__law_source : List Str := ["_law_script", "_law_place", "_law_cell", "_law_seed", "_law_one", "_law_number"]
-- slots of _law_source: 0 _law_script, 1 _law_place, 2 _law_cell, 3 _law_seed, 4 _law_one, 5 _law_number
abbrev s__law_pick : Stmt := top 63
abbrev N__law_pick : List Str := ["_law_source_here", "_law_many", "_law_digit", "_law_mixed"]
-- slots of _law_pick: 0 _law_source_here, 1 _law_many, 2 _law_digit, 3 _law_mixed
abbrev s__law_alphabet : Stmt := top 64
abbrev N__law_alphabet : List Str := ["_law_source_here", "_law_menu"]
-- slots of _law_alphabet: 0 _law_source_here, 1 _law_menu
abbrev s__law_word : Stmt := top 65
abbrev N__law_word : List Str := ["_law_source_here", "_law_alphabet_here", "_law_most", "_law_size", "_law_k"]
-- slots of _law_word: 0 _law_source_here, 1 _law_alphabet_here, 2 _law_most, 3 _law_size, 4 _law_k
abbrev s__law_reader : Stmt := top 66
abbrev N__law_reader : List Str := ["_law_source_here", "_law_many", "_law_most", "_law_size", "_law_t", "_law_p"]
-- slots of _law_reader: 0 _law_source_here, 1 _law_many, 2 _law_most, 3 _law_size, 4 _law_t, 5 _law_p
abbrev s__law_steady_reader : Stmt := top 67
abbrev N__law_steady_reader : List Str := ["_law_source_here", "_law_many", "_law_most", "_law_size", "_law_t", "_law_p", "_law_lines", "_law_first", "_law_names", "_law_rules"]
-- slots of _law_steady_reader: 0 _law_source_here, 1 _law_many, 2 _law_most, 3 _law_size, 4 _law_t, 5 _law_p, 6 _law_lines, 7 _law_first, 8 _law_names, 9 _law_rules
abbrev s__law_marked : Stmt := top 68
abbrev N__law_marked : List Str := ["_law_source_here", "_law_alphabet_here", "_law_left", "_law_right", "_law_told", "_law_p", "_law_letter", "_law_q"]
-- slots of _law_marked: 0 _law_source_here, 1 _law_alphabet_here, 2 _law_left, 3 _law_right, 4 _law_told, 5 _law_p, 6 _law_letter, 7 _law_q
abbrev s__law_tables : Stmt := top 69
abbrev N__law_tables : List Str := ["_law_source_here", "_law_alphabet_here", "_law_most", "_law_steady", "_law_many", "_law_left", "_law_right"]
-- slots of _law_tables: 0 _law_source_here, 1 _law_alphabet_here, 2 _law_most, 3 _law_steady, 4 _law_many, 5 _law_left, 6 _law_right
abbrev s__law_is_number : Stmt := top 70
abbrev N__law_is_number : List Str := ["_law_thing", "_law_low", "_law_high"]
-- slots of _law_is_number: 0 _law_thing, 1 _law_low, 2 _law_high
abbrev s__law_bools : Stmt := top 71
abbrev N__law_bools : List Str := ["_law_thing", "_law_size", "_law_one"]
-- slots of _law_bools: 0 _law_thing, 1 _law_size, 2 _law_one
abbrev s__law_error_told : Stmt := top 72
abbrev N__law_error_told : List Str := ["_law_error", "_law_names", "_law_word_here", "_law_right"]
-- slots of _law_error_told: 0 _law_error, 1 _law_names, 2 _law_word_here, 3 _law_right
abbrev s__law_deep : Stmt := top 73
abbrev N__law_deep : List Str := ["_law_rows", "_law_row"]
-- slots of _law_deep: 0 _law_rows, 1 _law_row
abbrev s__law_is_alphabet : Stmt := top 74
abbrev N__law_is_alphabet : List Str := ["_law_thing", "_law_letter", "_law_k"]
-- slots of _law_is_alphabet: 0 _law_thing, 1 _law_letter, 2 _law_k
abbrev s__law_first_move : Stmt := top 75
abbrev N__law_first_move : List Str := ["_law_moves", "_law_many", "_law_number", "_law_move", "_law_one"]
-- slots of _law_first_move: 0 _law_moves, 1 _law_many, 2 _law_number, 3 _law_move, 4 _law_one
abbrev s__law_first_triple : Stmt := top 76
abbrev N__law_first_triple : List Str := ["_law_alphabet_here", "_law_left", "_law_right", "_law_marked_here", "_law_number", "_law_one"]
-- slots of _law_first_triple: 0 _law_alphabet_here, 1 _law_left, 2 _law_right, 3 _law_marked_here, 4 _law_number, 5 _law_one
abbrev s__law_due : Stmt := top 77
abbrev N__law_due : List Str := ["_law_alphabet_here", "_law_left", "_law_right", "_law_marked_here", "_law_side", "_law_moves", "_law_number"]
-- slots of _law_due: 0 _law_alphabet_here, 1 _law_left, 2 _law_right, 3 _law_marked_here, 4 _law_side, 5 _law_moves, 6 _law_number
abbrev s__law_made : Stmt := top 78
abbrev N__law_made : List Str := ["_law_alphabet_here", "_law_left", "_law_right", "_law_marked_here", "_law_pair", "_law_error"]
-- slots of _law_made: 0 _law_alphabet_here, 1 _law_left, 2 _law_right, 3 _law_marked_here, 4 _law_pair, 5 _law_error
abbrev s__law_made_of : Stmt := top 79
abbrev N__law_made_of : List Str := ["_law_alphabet_here", "_law_letters", "_law_pair", "_law_error"]
-- slots of _law_made_of: 0 _law_alphabet_here, 1 _law_letters, 2 _law_pair, 3 _law_error
abbrev s__law_called : Stmt := top 80
abbrev N__law_called : List Str := ["_law_pair", "_law_row", "_law_error"]
-- slots of _law_called: 0 _law_pair, 1 _law_row, 2 _law_error
abbrev s__law_asked : Stmt := top 81
abbrev N__law_asked : List Str := ["_law_pair", "_law_placed", "_law_error"]
-- slots of _law_asked: 0 _law_pair, 1 _law_placed, 2 _law_error
abbrev s__law_row_fault : Stmt := top 82
abbrev N__law_row_fault : List Str := ["_law_alphabet_here", "_law_row", "_law_at"]
-- slots of _law_row_fault: 0 _law_alphabet_here, 1 _law_row, 2 _law_at
abbrev s__law_read : Stmt := top 83
abbrev N__law_read : List Str := ["_law_alphabet_here", "_law_tables_here", "_law_row", "_law_lit", "_law_triple", "_law_ahead", "_law_p", "_law_letter", "_law_told", "_law_q", "_law_place"]
-- slots of _law_read: 0 _law_alphabet_here, 1 _law_tables_here, 2 _law_row, 3 _law_lit, 4 _law_triple, 5 _law_ahead, 6 _law_p, 7 _law_letter, 8 _law_told, 9 _law_q, 10 _law_place
abbrev s__law_tells : Stmt := top 84
abbrev N__law_tells : List Str := ["_law_pair", "_law_row", "_law_due_here", "_law_source_here", "_law_told", "_law_place", "_law_places"]
-- slots of _law_tells: 0 _law_pair, 1 _law_row, 2 _law_due_here, 3 _law_source_here, 4 _law_told, 5 _law_place, 6 _law_places
abbrev s__law_bad_reader : Stmt := top 85
abbrev N__law_bad_reader : List Str := ["_law_source_here", "_law_moves", "_law_many", "_law_size", "_law_way", "_law_told", "_law_number", "_law_p", "_law_move"]
-- slots of _law_bad_reader: 0 _law_source_here, 1 _law_moves, 2 _law_many, 3 _law_size, 4 _law_way, 5 _law_told, 6 _law_number, 7 _law_p, 8 _law_move
abbrev s__law_bad_marked : Stmt := top 86
abbrev N__law_bad_marked : List Str := ["_law_source_here", "_law_alphabet_here", "_law_lefts", "_law_rights", "_law_marked_here", "_law_way", "_law_told", "_law_number", "_law_p", "_law_letter", "_law_q", "_law_triple"]
-- slots of _law_bad_marked: 0 _law_source_here, 1 _law_alphabet_here, 2 _law_lefts, 3 _law_rights, 4 _law_marked_here, 5 _law_way, 6 _law_told, 7 _law_number, 8 _law_p, 9 _law_letter, 10 _law_q, 11 _law_triple
abbrev s__law_makes_right : Stmt := top 87
abbrev N__law_makes_right : List Str := ["_law_source_here", "_law_alphabet_here", "_law_tables_here", "_law_turn", "_law_things", "_law_first", "_law_which", "_law_due_here", "_law_move", "_law_triple"]
-- slots of _law_makes_right: 0 _law_source_here, 1 _law_alphabet_here, 2 _law_tables_here, 3 _law_turn, 4 _law_things, 5 _law_first, 6 _law_which, 7 _law_due_here, 8 _law_move, 9 _law_triple
abbrev s__law_letters_right : Stmt := top 88
abbrev N__law_letters_right : List Str := ["_law_source_here", "_law_alphabet_here", "_law_left", "_law_chosen", "_law_k", "_law_still", "_law_due_here", "_law_wrong", "_law_letter"]
-- slots of _law_letters_right: 0 _law_source_here, 1 _law_alphabet_here, 2 _law_left, 3 _law_chosen, 4 _law_k, 5 _law_still, 6 _law_due_here, 7 _law_wrong, 8 _law_letter
abbrev s__law_rows_right : Stmt := top 89
abbrev N__law_rows_right : List Str := ["_law_source_here", "_law_alphabet_here", "_law_tables_here", "_law_pair", "_law_row", "_law_strange", "_law_at", "_law_thing", "_law_way", "_law_place", "_law_fault", "_law_told", "_law_sign"]
-- slots of _law_rows_right: 0 _law_source_here, 1 _law_alphabet_here, 2 _law_tables_here, 3 _law_pair, 4 _law_row, 5 _law_strange, 6 _law_at, 7 _law_thing, 8 _law_way, 9 _law_place, 10 _law_fault, 11 _law_told, 12 _law_sign
abbrev s__law_equals_right : Stmt := top 90
abbrev N__law_equals_right : List Str := ["_law_source_here", "_law_alphabet_here", "_law_tables_here", "_law_other", "_law_pairs", "_law_left", "_law_right", "_law_marked_here", "_law_twin", "_law_one", "_law_near", "_law_moves", "_law_far", "_law_move", "_law_triple"]
-- slots of _law_equals_right: 0 _law_source_here, 1 _law_alphabet_here, 2 _law_tables_here, 3 _law_other, 4 _law_pairs, 5 _law_left, 6 _law_right, 7 _law_marked_here, 8 _law_twin, 9 _law_one, 10 _law_near, 11 _law_moves, 12 _law_far, 13 _law_move, 14 _law_triple
abbrev s_law : Stmt := top 91
abbrev N_law : List Str := ["_law_script", "_law_source_here", "_law_alphabet_here", "_law_tables_here", "_law_pairs", "_law_left", "_law_right", "_law_marked_here", "_law_mine", "_law_pair", "_law_due_here", "_law_third", "_law_k", "_law_rows", "_law_row", "_law_fourth", "_law_move", "_law_triple"]
-- slots of law: 0 _law_script, 1 _law_source_here, 2 _law_alphabet_here, 3 _law_tables_here, 4 _law_pairs, 5 _law_left, 6 _law_right, 7 _law_marked_here, 8 _law_mine, 9 _law_pair, 10 _law_due_here, 11 _law_third, 12 _law_k, 13 _law_rows, 14 _law_row, 15 _law_fourth, 16 _law_move, 17 _law_triple

def dD (x : Str) (st : Stmt) : He.DefD := ⟨(x, none), x, x, defArgs st, defBody st, defScope st, [], []⟩
def dM (C x q : Str) (st : Stmt) : He.DefD := ⟨(C, some x), x, q, defArgs st, defBody st, defScope st, [], []⟩
def fn0 : List He.DefD := [dM "BadRow" "__init__" "BadRow.__init__" s_BadRow___init__, dM "BadReader" "__init__" "BadReader.__init__" s_BadReader___init__, dD "is_whole" s_is_whole, dD "is_below" s_is_below, dD "is_listing" s_is_listing, dD "has_bit" s_has_bit, dD "is_move" s_is_move, dD "kept_reader" s_kept_reader, dD "standings_ahead" s_standings_ahead, dD "standings_behind" s_standings_behind]
def fn1 : List He.DefD := [dD "is_alphabet" s_is_alphabet, dD "check_alphabet" s_check_alphabet, dD "is_letter" s_is_letter, dD "wrong_at" s_wrong_at, dD "check_row" s_check_row, dD "check_place" s_check_place, dD "is_triple" s_is_triple, dD "kept_marked" s_kept_marked, dD "masks_of_triples" s_masks_of_triples, dD "marks_in" s_marks_in]
def fn2 : List He.DefD := [dM "Pair" "__init__" "Pair.__init__" s_Pair___init__, dM "Pair" "__call__" "Pair.__call__" s_Pair___call__, dM "Pair" "__contains__" "Pair.__contains__" s_Pair___contains__, dM "Pair" "__eq__" "Pair.__eq__" s_Pair___eq__, dD "is_choice" s_is_choice, dD "_law_source" s__law_source, dD "_law_pick" s__law_pick, dD "_law_alphabet" s__law_alphabet, dD "_law_word" s__law_word, dD "_law_reader" s__law_reader]
def fn3 : List He.DefD := [dD "_law_steady_reader" s__law_steady_reader, dD "_law_marked" s__law_marked, dD "_law_tables" s__law_tables, dD "_law_is_number" s__law_is_number, dD "_law_bools" s__law_bools, dD "_law_error_told" s__law_error_told, dD "_law_deep" s__law_deep, dD "_law_is_alphabet" s__law_is_alphabet, dD "_law_first_move" s__law_first_move, dD "_law_first_triple" s__law_first_triple]
def fn4 : List He.DefD := [dD "_law_due" s__law_due, dD "_law_made" s__law_made, dD "_law_made_of" s__law_made_of, dD "_law_called" s__law_called, dD "_law_asked" s__law_asked, dD "_law_row_fault" s__law_row_fault, dD "_law_read" s__law_read, dD "_law_tells" s__law_tells, dD "_law_bad_reader" s__law_bad_reader, dD "_law_bad_marked" s__law_bad_marked]
def fn5 : List He.DefD := [dD "_law_makes_right" s__law_makes_right, dD "_law_letters_right" s__law_letters_right, dD "_law_rows_right" s__law_rows_right, dD "_law_equals_right" s__law_equals_right, dD "law" s_law, dM "BadAlphabet" "__init__" "WrongThing.__init__" s_WrongThing___init__, dM "BadPlace" "__init__" "WrongThing.__init__" s_WrongThing___init__, dM "BadLetters" "__init__" "WrongThing.__init__" s_WrongThing___init__, dM "BadMarked" "__init__" "WrongItem.__init__" s_WrongItem___init__]
def fn : List He.DefD := fn0 ++ fn1 ++ fn2 ++ fn3 ++ fn4 ++ fn5
def fa0 : List He.Fa := [.glo "SaidError", .glo "WrongThing", .glo "WrongItem", .glo "BadAlphabet", .glo "BadPlace", .glo "BadLetters", .glo "BadMarked", .glo "BadRow", .glo "BadReader", .glo "is_whole", .glo "is_below", .glo "is_listing", .glo "has_bit", .glo "is_move", .glo "kept_reader", .glo "standings_ahead", .glo "standings_behind", .glo "is_alphabet", .glo "check_alphabet", .glo "is_letter", .glo "wrong_at", .glo "check_row", .glo "check_place", .glo "is_triple", .glo "kept_marked", .glo "masks_of_triples", .glo "marks_in", .glo "Pair", .glo "is_choice", .glo "_law_source", .glo "_law_pick", .glo "_law_alphabet", .glo "_law_word", .glo "_law_reader", .glo "_law_steady_reader", .glo "_law_marked", .glo "_law_tables", .glo "_law_is_number", .glo "_law_bools", .glo "_law_error_told"]
def fa1 : List He.Fa := [.glo "_law_deep", .glo "_law_is_alphabet", .glo "_law_first_move", .glo "_law_first_triple", .glo "_law_due", .glo "_law_made", .glo "_law_made_of", .glo "_law_called", .glo "_law_asked", .glo "_law_row_fault", .glo "_law_read", .glo "_law_tells", .glo "_law_bad_reader", .glo "_law_bad_marked", .glo "_law_makes_right", .glo "_law_letters_right", .glo "_law_rows_right", .glo "_law_equals_right", .glo "law"]
def fa2 : List He.Fa := [.free "abs", .free "all", .free "any", .free "bool", .free "enumerate", .free "int", .free "isinstance", .free "len", .free "list", .free "max", .free "min", .free "range", .free "repr", .free "reversed", .free "set", .free "sorted", .free "str", .free "sum", .free "tuple", .free "zip"]
def fa3 : List He.Fa := [.int "MOST_STANDINGS" 40, .int "MOST_LETTERS" 200, .str "LETTERS" "abcdefgh", .cls "Pair", .mkr "Pair", .noat "Pair" "alphabet", .noat "Pair" "left", .noat "Pair" "right", .noat "Pair" "marked", .noat "Pair" "masks", .meth "Pair" "__call__", .meth "Pair" "__contains__", .meth "Pair" "__eq__"]
def fa : List He.Fa := fa0 ++ fa1 ++ fa2 ++ fa3
/-! what more is asked of the written part -/
def clsB (K : PySem.W.Frag) (C : Addr) : Bool := match K.lookup C with
  | some ⟨.type ty, od, .cls cd, sl⟩ => (match cd.mro, sl.toList with
    | .ref C' :: bm, [_, _, _, _, some (.builtin n), _] => decide (ty = "type") && decide (C' = C) && decide (n = "ValueError.__new__") && cd.hasDict && !cd.hasDel && PySem.HandSPX.refsVE bm
    | _, _ => false)
  | _ => false
def exB (K : PySem.W.Frag) (x : Str) (fs : List Str) : Bool :=
  clsB K (He.ga K x) && (decide (PySem.W.findIn K (.ref (He.ga K x)) "__setattr__" = some (some (.builtin "object.__setattr__"))) && (decide (PySem.W.subIn K (.ref (He.ga K x)) (.type "BaseException") = some true) &&
  (decide (PySem.W.typeIn K (.ref (He.ga K x)) = some (.type "type")) && (PySem.W.keepIn K (.ref (He.ga K x)) && (decide (PySem.W.findIn K (.ref (He.ga K x)) "__init__" = some (some (.ref (He.ma K (He.ga K x) "__init__")))) &&
  (decide (PySem.W.typeIn K (.ref (He.ma K (He.ga K x) "__init__")) = some (.type "function")) && (fs.all (fun f => decide (PySem.W.findIn K (.ref (He.ga K x)) f = some none)) && xfB K (He.ga K x))))))))
def exms (K : PySem.W.Frag) (xs : List Str) (y : Str) : Bool := xs.all fun x => decide (PySem.W.exmOne K (.ref (He.ga K x)) (.ref (He.ga K y)) = some true)
def excl : List (Str × List Str) := [("BadAlphabet", ["thing"]), ("BadPlace", ["thing"]), ("BadLetters", ["thing"]), ("BadMarked", ["number"]), ("BadRow", ["at"]), ("BadReader", ["side", "number"])]
def toldl : List Str := ["BadAlphabet", "BadPlace", "BadLetters", "BadMarked", "BadRow", "BadReader"]
def askedl : List Str := ["WrongThing", "WrongItem", "BadAlphabet", "BadLetters", "BadPlace", "BadMarked", "BadReader", "BadRow"]
/-- whether an error of the class x is one of the class y -/
def isErr (x y : Str) : Bool := decide (x = y) || (decide (y = ("WrongThing" : Str)) && decide (x ∈ (["BadAlphabet", "BadPlace", "BadLetters"] : List Str))) || (decide (y = ("WrongItem" : Str)) && decide (x = ("BadMarked" : Str)))
def kitsB (K : PySem.W.Frag) : Bool := toldl.all fun x => askedl.all fun y => decide (PySem.W.kitOne K (.ref (He.ga K x)) (.ref (He.ga K y)) = some (isErr x y))
def clsfB (K : PySem.W.Frag) (C : Addr) : Bool := decide (PySem.W.findIn K (.ref C) "__class__" = some (some (.builtin "object.__class__"))) && decide (PySem.W.mroIn K C (.type "object") = some true)
def objB (K : PySem.W.Frag) : Bool := decide (PySem.W.specialIn K (.builtin "object.__class__") "__get__" = some (some (.builtin "getset_descriptor.__get__"))) && decide (PySem.W.takesIn K (.builtin "object.__class__") = some true)
def pairB (K : PySem.W.Frag) (C : Addr) : Bool := clsfB K C && (decide (PySem.W.kitOne K (.type "tuple") (.ref C) = some false) && (decide (PySem.W.kitOne K (.type "str") (.ref C) = some false) && (decide (PySem.W.findIn K (.ref C) "__ne__" = some (some (.builtin "object.__ne__"))) &&
  (decide (PySem.W.subIn K (.ref C) (.type "object") = some true) && (PySem.W.notFirst K C (.type "tuple") && (PySem.W.notFirst K C (.type "str") && (He5.wrapB K C "classmethod" "classmethod.__get__" "of_letters" && (PySem.W.fnIn K (He5.wf K C "classmethod" "of_letters") &&
  (PySem.W.readsIn K C (.type "type") && (decide (PySem.W.specialIn K (.ref C) "__getattribute__" = some (some (.builtin "type.__getattribute__"))) && (PySem.W.fnIn K (He.ma K C "__call__") && PySem.W.isFn K (.ref (He.ma K C "__call__")))))))))))))
def fldsB (K : PySem.W.Frag) : Bool := toldl.all fun x => (["thing", "number", "side", "at"] : List Str).all fun f => decide (PySem.W.findIn K (.ref (He.ga K x)) f = some none)
def dOf : He5.DefA := ⟨fun K => He5.wf K (He.ga K "Pair") "classmethod" "of_letters", "of_letters", "Pair.of_letters", defArgs s_Pair_of_letters, defBody s_Pair_of_letters, defScope s_Pair_of_letters, [], []⟩

def extra (K : PySem.W.Frag) : Bool := (excl.all (fun p => exB K p.1 p.2) && exms K (excl.map (·.1)) "SaidError") && (kitsB K && (toldl.all (fun x => clsfB K (He.ga K x)) && (objB K && (pairB K (He.ga K "Pair") && (dOf.ok K && fldsB K)))))
end Kx
set_option Elab.async false
set_option linter.all false
set_option maxRecDepth 100000
set_option maxHeartbeats 0
namespace Kx
open PySem PySem.Spec PyProof.Rows L2
/-! ### the head, looked at in pieces: each its own run, joined behind -/
abbrev R : PySem.W.OpenRow := PySem.W.OpenLaw.row PySem.Challenge.rw_saidhere_k08_pairs_mark
def lookAt {α : Type} (f : PySem.W.Frag → α) (g : Addr → Option Obj) : α := f (He.frG g (He5.asA g 5))
def look {α : Type} (f : PySem.W.Frag → α) (v : α) : PySem.W.Hook where
  α := α
  obs := fun s => lookAt f s.heap.get?
  val := fun _ => v
  says := fun _ h => ∃ K : PySem.W.Frag, K.In h ∧ f K = v
  of := fun _ _ e => ⟨_, He.frG_in, e⟩
  keeps := fun _ _ _ ⟨K, hK, c⟩ k => ⟨K, PySem.W.Frag.In.keeps hK k, c⟩
def lookT {α : Type} (f : PySem.W.Frag → α) (s : PySem.W.SharedT) : α := lookAt f (HandSHeadRun.getT s)
theorem lookT_eq {α : Type} (f : PySem.W.Frag → α) (v : α) (s : PySem.W.SharedT) : lookT f s = (look f v).obs s.abs := by
  have e : HandSHeadRun.getT s = s.abs.heap.get? := funext (HandSHeadRun.getT_eq s)
  show lookAt f (HandSHeadRun.getT s) = lookAt f s.abs.heap.get?
  rw [e]
theorem run_two {α β : Type} {f : PySem.W.Frag → α} {g : PySem.W.Frag → β} {u : α} {v : β} {q : Program} {M : Nat} {ls : List Str} {w : World}
    (a : HandSHeadRun.RunEq R q (look f u) (lookT f) M ls w) (b : HandSHeadRun.RunEq R q (look g v) (lookT g) M ls w) : HandSHeadRun.RunEq R q (look (fun K => (f K, g K)) (u, v)) (lookT fun K => (f K, g K)) M ls w := by
  intro os
  obtain ⟨s, e, h1⟩ := Option.map_eq_some_iff.mp (a os)
  obtain ⟨s', e', h2⟩ := Option.map_eq_some_iff.mp (b os)
  have es : s = s' := Option.some.inj (e.symm.trans e')
  subst es
  refine Option.map_eq_some_iff.mpr ⟨s, e, ?_⟩
  obtain ⟨p1, p2⟩ := Prod.mk.inj h1
  obtain ⟨p3, p4⟩ := Prod.mk.inj p2
  obtain ⟨_, r2⟩ := Prod.mk.inj h2
  obtain ⟨_, r4⟩ := Prod.mk.inj r2
  exact Prod.ext p1 (Prod.ext p3 (Prod.ext p4 r4))
theorem obs_join {fa' fa'' : List He.Fa} {fn' fn'' : List He.DefD} {K : PySem.W.Frag} (a : He.obsD fa' fn' K = He.valD fn') (b : He.obsD fa'' fn'' K = He.valD fn'') : He.SaysD (fa' ++ fa'') (fn' ++ fn'') K := by
  obtain ⟨a1, a2⟩ := Prod.mk.inj a
  obtain ⟨b1, b2⟩ := Prod.mk.inj b
  rw [Bool.and_eq_true] at a1 b1
  refine Prod.ext ?_ ?_
  · show ((fa' ++ fa'').all _ && (fn' ++ fn'').all _) = true
    rw [List.all_append, List.all_append, a1.1, a1.2, b1.1, b1.2]
    rfl
  · show (fn' ++ fn'').map _ = (fn' ++ fn'').map _
    rw [List.map_append, List.map_append, a2, b2]
def faA : List He.Fa := fa0 ++ fa1
def faB : List He.Fa := fa2 ++ fa3
def fnA : List He.DefD := fn0 ++ fn1 ++ fn2
def fnB : List He.DefD := fn3 ++ fn4 ++ fn5
theorem says_of {K : PySem.W.Frag} (a : He.obsD faA fnA K = He.valD fnA) (b : He.obsD faB fnB K = He.valD fnB) : He.SaysD fa fn K := by
  have e1 : fa = faA ++ faB := by unfold fa faA faB; simp only [List.append_assoc]
  have e2 : fn = fnA ++ fnB := by unfold fn fnA fnB; simp only [List.append_assoc]
  rw [e1, e2]
  exact obs_join a b
def nm0 : List PySem.Str := [("SaidError" : PySem.Str), ("WrongThing" : PySem.Str), ("WrongItem" : PySem.Str), ("BadAlphabet" : PySem.Str), ("BadPlace" : PySem.Str), ("BadLetters" : PySem.Str), ("BadMarked" : PySem.Str), ("BadRow" : PySem.Str), ("BadReader" : PySem.Str), ("TooMany" : PySem.Str), ("Unlike" : PySem.Str), ("is_whole" : PySem.Str), ("is_below" : PySem.Str), ("is_listing" : PySem.Str), ("has_bit" : PySem.Str), ("mask_of" : PySem.Str)]
def nm1 : List PySem.Str := [("united" : PySem.Str), ("spread" : PySem.Str), ("MOST_STANDINGS" : PySem.Str), ("is_move" : PySem.Str), ("kept_reader" : PySem.Str), ("standings_ahead" : PySem.Str), ("standings_behind" : PySem.Str), ("item_after" : PySem.Str), ("check_most" : PySem.Str), ("walked_ahead" : PySem.Str), ("walked_behind" : PySem.Str), ("reached_ahead" : PySem.Str), ("reached_behind" : PySem.Str), ("numbered" : PySem.Str), ("refined" : PySem.Str), ("firsts_of" : PySem.Str)]
def nm2 : List PySem.Str := [("class_moves" : PySem.Str), ("column_of" : PySem.Str), ("picked" : PySem.Str), ("least_machine" : PySem.Str), ("LETTERS" : PySem.Str), ("MOST_LETTERS" : PySem.Str), ("is_alphabet" : PySem.Str), ("check_alphabet" : PySem.Str), ("is_letter" : PySem.Str), ("wrong_at" : PySem.Str), ("check_row" : PySem.Str), ("check_place" : PySem.Str), ("is_triple" : PySem.Str), ("kept_marked" : PySem.Str), ("masks_of_triples" : PySem.Str), ("triples_of_masks" : PySem.Str)]
def nm3 : List PySem.Str := [("check_alphabets" : PySem.Str), ("marks_in" : PySem.Str), ("crossed" : PySem.Str), ("Pair" : PySem.Str), ("is_choice" : PySem.Str), ("least_pair" : PySem.Str), ("_law_source" : PySem.Str), ("_law_pick" : PySem.Str), ("_law_alphabet" : PySem.Str), ("_law_word" : PySem.Str), ("_law_reader" : PySem.Str), ("_law_steady_reader" : PySem.Str), ("_law_marked" : PySem.Str), ("_law_tables" : PySem.Str), ("_law_is_number" : PySem.Str), ("_law_bools" : PySem.Str)]
def nm4 : List PySem.Str := [("_law_error_told" : PySem.Str), ("_law_deep" : PySem.Str), ("_law_is_alphabet" : PySem.Str), ("_law_first_move" : PySem.Str), ("_law_first_triple" : PySem.Str), ("_law_due" : PySem.Str), ("_law_made" : PySem.Str), ("_law_made_of" : PySem.Str), ("_law_called" : PySem.Str), ("_law_asked" : PySem.Str), ("_law_row_fault" : PySem.Str), ("_law_read" : PySem.Str), ("_law_tells" : PySem.Str), ("_law_bad_reader" : PySem.Str), ("_law_bad_marked" : PySem.Str), ("_law_makes_right" : PySem.Str)]
def nm5 : List PySem.Str := [("_law_letters_right" : PySem.Str), ("_law_rows_right" : PySem.Str), ("_law_equals_right" : PySem.Str)]
def nms : List PySem.Str := nm0 ++ nm1 ++ nm2 ++ nm3 ++ nm4 ++ nm5
def exA (K : PySem.W.Frag) : Bool := excl.all (fun p => exB K p.1 p.2) && exms K (excl.map (·.1)) "SaidError"
def exZ (K : PySem.W.Frag) : Bool × He5.FnW := (kitsB K && (toldl.all (fun x => clsfB K (He.ga K x)) && (objB K && (pairB K (He.ga K "Pair") && (dOf.ok K && fldsB K)))), He5.fnA K (dOf.at_ K))
theorem extra_of {K : PySem.W.Frag} (a : exA K = true) (b : exZ K = (true, dOf.val)) : extra K = true ∧ He5.fnA K (dOf.at_ K) = dOf.val := by
  obtain ⟨b1, b2⟩ := Prod.mk.inj b
  refine ⟨?_, b2⟩
  show (exA K && _) = true
  rw [a, Bool.true_and]
  exact b1
end Kx
set_option Elab.async false
set_option linter.all false
set_option maxRecDepth 100000
set_option maxHeartbeats 0
namespace Kx
open PySem PySem.Spec PyProof.Rows L2
theorem run1 (w : World) : HandSHeadRun.RunEq R (PySem.W.view R.prog [91]) (look (He.obsD faA fnA) (He.valD fnA)) (lookT (He.obsD faA fnA)) 20000 nms w := by
  intro os
  kernel_rfl
end Kx
set_option Elab.async false
set_option linter.all false
set_option maxRecDepth 100000
set_option maxHeartbeats 0
namespace Kx
open PySem PySem.Spec PyProof.Rows L2
theorem run2 (w : World) : HandSHeadRun.RunEq R (PySem.W.view R.prog [91]) (look (He.obsD faB fnB) (He.valD fnB)) (lookT (He.obsD faB fnB)) 20000 nms w := by
  intro os
  kernel_rfl
end Kx
set_option Elab.async false
set_option linter.all false
set_option maxRecDepth 100000
set_option maxHeartbeats 0
namespace Kx
open PySem PySem.Spec PyProof.Rows L2
theorem run3 (w : World) : HandSHeadRun.RunEq R (PySem.W.view R.prog [91]) (look (exA) true) (lookT (exA)) 20000 nms w := by
  intro os
  kernel_rfl
end Kx
set_option Elab.async false
set_option linter.all false
set_option maxRecDepth 100000
set_option maxHeartbeats 0
namespace Kx
open PySem PySem.Spec PyProof.Rows L2
theorem run4 (w : World) : HandSHeadRun.RunEq R (PySem.W.view R.prog [91]) (look (exZ) (true, dOf.val)) (lookT (exZ)) 20000 nms w := by
  intro os
  kernel_rfl
end Kx
set_option Elab.async false
set_option linter.all false
set_option maxRecDepth 100000
set_option maxHeartbeats 4000000
namespace Kx
open PySem PySem.Spec PyProof.Rows L2
def fAll (K : PySem.W.Frag) : (He.AlD × He.AlD) × (Bool × (Bool × He5.FnW)) := ((He.obsD faA fnA K, He.obsD faB fnB K), (exA K, exZ K))
def vAll : (He.AlD × He.AlD) × (Bool × (Bool × He5.FnW)) := ((He.valD fnA, He.valD fnB), (true, (true, dOf.val)))
theorem runAll (w : World) : HandSHeadRun.RunEq R (PySem.W.view R.prog [91]) (look fAll vAll) (lookT fAll) 20000 nms w := run_two (run_two (run1 w) (run2 w)) (run_two (run3 w) (run4 w))
theorem all_of {K : PySem.W.Frag} (h : fAll K = vAll) : He.SaysD fa fn K ∧ extra K = true ∧ He5.fnA K (dOf.at_ K) = dOf.val := by
  obtain ⟨h1, h2⟩ := Prod.mk.inj h
  obtain ⟨a, b⟩ := Prod.mk.inj h1
  obtain ⟨c, d⟩ := Prod.mk.inj h2
  exact ⟨says_of a b, extra_of c d⟩
end Kx
set_option Elab.async false
set_option linter.all false
set_option maxRecDepth 100000
set_option maxHeartbeats 0
namespace Kx
open PySem PySem.Spec PyProof.Rows L2
theorem sc_WrongThing___init__ : FnScope ["self", "thing"] ["self", "thing"] (defScope s_WrongThing___init__) := ⟨rfl, rfl, rfl, by decide +kernel, rfl, by decide +kernel, by decide +kernel⟩
theorem sc_WrongItem___init__ : FnScope ["self", "number"] ["self", "number"] (defScope s_WrongItem___init__) := ⟨rfl, rfl, rfl, by decide +kernel, rfl, by decide +kernel, by decide +kernel⟩
theorem sc_BadRow___init__ : FnScope ["self", "at"] ["self", "at"] (defScope s_BadRow___init__) := ⟨rfl, rfl, rfl, by decide +kernel, rfl, by decide +kernel, by decide +kernel⟩
theorem sc_BadReader___init__ : FnScope ["self", "side", "number"] ["self", "side", "number"] (defScope s_BadReader___init__) := ⟨rfl, rfl, rfl, by decide +kernel, rfl, by decide +kernel, by decide +kernel⟩
theorem sc_TooMany___init__ : FnScope ["self", "word"] ["self", "word"] (defScope s_TooMany___init__) := ⟨rfl, rfl, rfl, by decide +kernel, rfl, by decide +kernel, by decide +kernel⟩
theorem sc_Unlike___init__ : FnScope ["self", "word"] ["self", "word"] (defScope s_Unlike___init__) := ⟨rfl, rfl, rfl, by decide +kernel, rfl, by decide +kernel, by decide +kernel⟩
theorem sc_is_whole : FnScope ["thing"] ["thing"] (defScope s_is_whole) := ⟨rfl, rfl, rfl, by decide +kernel, rfl, by decide +kernel, by decide +kernel⟩
theorem sc_is_below : FnScope ["thing", "many"] ["thing", "many"] (defScope s_is_below) := ⟨rfl, rfl, rfl, by decide +kernel, rfl, by decide +kernel, by decide +kernel⟩
theorem sc_is_listing : FnScope ["thing"] ["thing"] (defScope s_is_listing) := ⟨rfl, rfl, rfl, by decide +kernel, rfl, by decide +kernel, by decide +kernel⟩
theorem sc_has_bit : FnScope ["mask", "number"] ["mask", "number"] (defScope s_has_bit) := ⟨rfl, rfl, rfl, by decide +kernel, rfl, by decide +kernel, by decide +kernel⟩
theorem sc_mask_of : FnScope ["bits", "mask", "number", "bit"] ["bits"] (defScope s_mask_of) := ⟨rfl, rfl, rfl, by decide +kernel, rfl, by decide +kernel, by decide +kernel⟩
theorem sc_united : FnScope ["mask", "pictures", "whole", "number", "picture"] ["mask", "pictures"] (defScope s_united) := ⟨rfl, rfl, rfl, by decide +kernel, rfl, by decide +kernel, by decide +kernel⟩
theorem sc_spread : FnScope ["table", "column", "pictures", "number", "standing", "mask", "masks"] ["table", "column"] (defScope s_spread) := ⟨rfl, rfl, rfl, by decide +kernel, rfl, by decide +kernel, by decide +kernel⟩
theorem sc_is_move : FnScope ["thing", "letters", "standings", "standing"] ["thing", "letters", "standings"] (defScope s_is_move) := ⟨rfl, rfl, rfl, by decide +kernel, rfl, by decide +kernel, by decide +kernel⟩
theorem sc_kept_reader : FnScope ["alphabet", "side", "thing", "kept", "number", "move"] ["alphabet", "side", "thing"] (defScope s_kept_reader) := ⟨rfl, rfl, rfl, by decide +kernel, rfl, by decide +kernel, by decide +kernel⟩
theorem sc_standings_ahead : FnScope ["alphabet", "left", "row", "told", "standing", "letter"] ["alphabet", "left", "row"] (defScope s_standings_ahead) := ⟨rfl, rfl, rfl, by decide +kernel, rfl, by decide +kernel, by decide +kernel⟩
theorem sc_standings_behind : FnScope ["alphabet", "right", "row"] ["alphabet", "right", "row"] (defScope s_standings_behind) := ⟨rfl, rfl, rfl, by decide +kernel, rfl, by decide +kernel, by decide +kernel⟩
theorem sc_item_after : FnScope ["readers", "item", "letter", "reader", "standing"] ["readers", "item", "letter"] (defScope s_item_after) := ⟨rfl, rfl, rfl, by decide +kernel, rfl, by decide +kernel, by decide +kernel⟩
theorem sc_check_most : FnScope ["many", "most", "word"] ["many", "most", "word"] (defScope s_check_most) := ⟨rfl, rfl, rfl, by decide +kernel, rfl, by decide +kernel, by decide +kernel⟩
theorem sc_walked_ahead : FnScope ["alphabet", "readers", "begin", "most", "word", "items", "found", "rows", "moves", "at", "move", "number", "letter", "follower"] ["alphabet", "readers", "begin", "most", "word"] (defScope s_walked_ahead) := ⟨rfl, rfl, rfl, by decide +kernel, rfl, by decide +kernel, by decide +kernel⟩
theorem sc_walked_behind : FnScope ["alphabet", "readers", "begin", "most", "word", "items", "found", "rows", "level", "newer", "number", "letter", "at", "follower", "letters", "moves", "k", "item"] ["alphabet", "readers", "begin", "most", "word"] (defScope s_walked_behind) := ⟨rfl, rfl, rfl, by decide +kernel, rfl, by decide +kernel, by decide +kernel⟩
theorem sc_reached_ahead : FnScope ["alphabet", "readers", "most", "_"] ["alphabet", "readers", "most"] (defScope s_reached_ahead) := ⟨rfl, rfl, rfl, by decide +kernel, rfl, by decide +kernel, by decide +kernel⟩
theorem sc_reached_behind : FnScope ["alphabet", "readers", "most", "_"] ["alphabet", "readers", "most"] (defScope s_reached_behind) := ⟨rfl, rfl, rfl, by decide +kernel, rfl, by decide +kernel, by decide +kernel⟩
theorem sc_numbered : FnScope ["things", "found", "numbers", "thing"] ["things"] (defScope s_numbered) := ⟨rfl, rfl, rfl, by decide +kernel, rfl, by decide +kernel, by decide +kernel⟩
theorem sc_refined : FnScope ["moves", "colours", "most", "numbers", "many", "told", "newer", "follower", "move"] ["moves", "colours", "most"] (defScope s_refined) := ⟨rfl, rfl, rfl, by decide +kernel, rfl, by decide +kernel, by decide +kernel⟩
theorem sc_firsts_of : FnScope ["numbers", "found", "standing", "number"] ["numbers"] (defScope s_firsts_of) := ⟨rfl, rfl, rfl, by decide +kernel, rfl, by decide +kernel, by decide +kernel⟩
theorem sc_class_moves : FnScope ["moves", "numbers", "firsts", "follower", "standing"] ["moves", "numbers", "firsts"] (defScope s_class_moves) := ⟨rfl, rfl, rfl, by decide +kernel, rfl, by decide +kernel, by decide +kernel⟩
theorem sc_column_of : FnScope ["table", "standing", "masks", "mask"] ["table", "standing"] (defScope s_column_of) := ⟨rfl, rfl, rfl, by decide +kernel, rfl, by decide +kernel, by decide +kernel⟩
theorem sc_picked : FnScope ["masks", "standings", "standing", "mask"] ["masks", "standings"] (defScope s_picked) := ⟨rfl, rfl, rfl, by decide +kernel, rfl, by decide +kernel, by decide +kernel⟩
theorem sc_least_machine : FnScope ["alphabet", "left", "right", "table", "items", "_", "onward", "things", "backward", "rights", "live", "answers", "ahead", "firsts", "shorter", "columns", "behind", "lasts", "least_left", "least_right", "kept", "thing", "standing", "mask", "item", "first"] ["alphabet", "left", "right", "table"] (defScope s_least_machine) := ⟨rfl, rfl, rfl, by decide +kernel, rfl, by decide +kernel, by decide +kernel⟩
theorem sc_is_alphabet : FnScope ["thing", "known", "letter", "one", "other"] ["thing"] (defScope s_is_alphabet) := ⟨rfl, rfl, rfl, by decide +kernel, rfl, by decide +kernel, by decide +kernel⟩
theorem sc_check_alphabet : FnScope ["thing"] ["thing"] (defScope s_check_alphabet) := ⟨rfl, rfl, rfl, by decide +kernel, rfl, by decide +kernel, by decide +kernel⟩
theorem sc_is_letter : FnScope ["alphabet", "thing"] ["alphabet", "thing"] (defScope s_is_letter) := ⟨rfl, rfl, rfl, by decide +kernel, rfl, by decide +kernel, by decide +kernel⟩
theorem sc_wrong_at : FnScope ["alphabet", "thing", "at", "letter"] ["alphabet", "thing"] (defScope s_wrong_at) := ⟨rfl, rfl, rfl, by decide +kernel, rfl, by decide +kernel, by decide +kernel⟩
theorem sc_check_row : FnScope ["alphabet", "thing", "at"] ["alphabet", "thing"] (defScope s_check_row) := ⟨rfl, rfl, rfl, by decide +kernel, rfl, by decide +kernel, by decide +kernel⟩
theorem sc_check_place : FnScope ["row", "thing"] ["row", "thing"] (defScope s_check_place) := ⟨rfl, rfl, rfl, by decide +kernel, rfl, by decide +kernel, by decide +kernel⟩
theorem sc_is_triple : FnScope ["alphabet", "left", "right", "thing", "known"] ["alphabet", "left", "right", "thing"] (defScope s_is_triple) := ⟨rfl, rfl, rfl, by decide +kernel, rfl, by decide +kernel, by decide +kernel⟩
theorem sc_kept_marked : FnScope ["alphabet", "left", "right", "thing", "kept", "number", "triple"] ["alphabet", "left", "right", "thing"] (defScope s_kept_marked) := ⟨rfl, rfl, rfl, by decide +kernel, rfl, by decide +kernel, by decide +kernel⟩
theorem sc_masks_of_triples : FnScope ["alphabet", "many", "marked", "found", "standing", "letter", "other"] ["alphabet", "many", "marked"] (defScope s_masks_of_triples) := ⟨rfl, rfl, rfl, by decide +kernel, rfl, by decide +kernel, by decide +kernel⟩
theorem sc_triples_of_masks : FnScope ["alphabet", "many", "table", "triples", "standing", "masks", "letter", "mask", "other"] ["alphabet", "many", "table"] (defScope s_triples_of_masks) := ⟨rfl, rfl, rfl, by decide +kernel, rfl, by decide +kernel, by decide +kernel⟩
theorem sc_check_alphabets : FnScope ["one", "other"] ["one", "other"] (defScope s_check_alphabets) := ⟨rfl, rfl, rfl, by decide +kernel, rfl, by decide +kernel, by decide +kernel⟩
theorem sc_marks_in : FnScope ["pair", "row", "ahead", "behind", "letters", "letter", "p", "k", "q"] ["pair", "row"] (defScope s_marks_in) := ⟨rfl, rfl, rfl, by decide +kernel, rfl, by decide +kernel, by decide +kernel⟩
theorem sc_crossed : FnScope ["one", "other", "items", "_", "left", "things", "right", "first", "second", "q", "s", "p", "o"] ["one", "other"] (defScope s_crossed) := ⟨rfl, rfl, rfl, by decide +kernel, rfl, by decide +kernel, by decide +kernel⟩
theorem sc_Pair___init__ : FnScope ["self", "alphabet", "left", "right", "marked"] ["self", "alphabet", "left", "right", "marked"] (defScope s_Pair___init__) := ⟨rfl, rfl, rfl, by decide +kernel, rfl, by decide +kernel, by decide +kernel⟩
theorem sc_Pair___call__ : FnScope ["self", "row"] ["self", "row"] (defScope s_Pair___call__) := ⟨rfl, rfl, rfl, by decide +kernel, rfl, by decide +kernel, by decide +kernel⟩
theorem sc_Pair___contains__ : FnScope ["self", "placed", "row", "place"] ["self", "placed"] (defScope s_Pair___contains__) := ⟨rfl, rfl, rfl, by decide +kernel, rfl, by decide +kernel, by decide +kernel⟩
theorem sc_Pair___and__ : FnScope ["self", "other", "left", "right", "table", "both", "x", "y", "first", "second"] ["self", "other"] (defScope s_Pair___and__) := ⟨rfl, rfl, rfl, by decide +kernel, rfl, by decide +kernel, by decide +kernel⟩
theorem sc_Pair___or__ : FnScope ["self", "other", "left", "right", "table", "either", "x", "y", "first", "second"] ["self", "other"] (defScope s_Pair___or__) := ⟨rfl, rfl, rfl, by decide +kernel, rfl, by decide +kernel, by decide +kernel⟩
theorem sc_Pair___invert__ : FnScope ["self", "whole", "table", "mask", "masks"] ["self"] (defScope s_Pair___invert__) := ⟨rfl, rfl, rfl, by decide +kernel, rfl, by decide +kernel, by decide +kernel⟩
theorem sc_Pair___eq__ : FnScope ["self", "other"] ["self", "other"] (defScope s_Pair___eq__) := ⟨rfl, rfl, rfl, by decide +kernel, rfl, by decide +kernel, by decide +kernel⟩
theorem sc_Pair_of_letters : FnScope ["cls", "alphabet", "letters", "still", "_", "letter"] ["cls", "alphabet", "letters"] (defScope s_Pair_of_letters) := ⟨rfl, rfl, rfl, by decide +kernel, rfl, by decide +kernel, by decide +kernel⟩
theorem sc_is_choice : FnScope ["alphabet", "thing", "letter"] ["alphabet", "thing"] (defScope s_is_choice) := ⟨rfl, rfl, rfl, by decide +kernel, rfl, by decide +kernel, by decide +kernel⟩
theorem sc_least_pair : FnScope ["alphabet", "left", "right", "table", "ahead", "behind", "masks"] ["alphabet", "left", "right", "table"] (defScope s_least_pair) := ⟨rfl, rfl, rfl, by decide +kernel, rfl, by decide +kernel, by decide +kernel⟩
theorem sc__law_source : FnScope ["_law_script", "_law_place", "_law_cell", "_law_seed", "_law_one", "_law_number"] ["_law_script", "_law_place"] (defScope s__law_source) := ⟨rfl, rfl, rfl, by decide +kernel, rfl, by decide +kernel, by decide +kernel⟩
theorem sc__law_pick : FnScope ["_law_source_here", "_law_many", "_law_digit", "_law_mixed"] ["_law_source_here", "_law_many"] (defScope s__law_pick) := ⟨rfl, rfl, rfl, by decide +kernel, rfl, by decide +kernel, by decide +kernel⟩
theorem sc__law_alphabet : FnScope ["_law_source_here", "_law_menu"] ["_law_source_here"] (defScope s__law_alphabet) := ⟨rfl, rfl, rfl, by decide +kernel, rfl, by decide +kernel, by decide +kernel⟩
theorem sc__law_word : FnScope ["_law_source_here", "_law_alphabet_here", "_law_most", "_law_size", "_law_k"] ["_law_source_here", "_law_alphabet_here", "_law_most"] (defScope s__law_word) := ⟨rfl, rfl, rfl, by decide +kernel, rfl, by decide +kernel, by decide +kernel⟩
theorem sc__law_reader : FnScope ["_law_source_here", "_law_many", "_law_most", "_law_size", "_law_t", "_law_p"] ["_law_source_here", "_law_many", "_law_most"] (defScope s__law_reader) := ⟨rfl, rfl, rfl, by decide +kernel, rfl, by decide +kernel, by decide +kernel⟩
theorem sc__law_steady_reader : FnScope ["_law_source_here", "_law_many", "_law_most", "_law_size", "_law_t", "_law_p", "_law_lines", "_law_first", "_law_names", "_law_rules"] ["_law_source_here", "_law_many", "_law_most"] (defScope s__law_steady_reader) := ⟨rfl, rfl, rfl, by decide +kernel, rfl, by decide +kernel, by decide +kernel⟩
theorem sc__law_marked : FnScope ["_law_source_here", "_law_alphabet_here", "_law_left", "_law_right", "_law_told", "_law_p", "_law_letter", "_law_q"] ["_law_source_here", "_law_alphabet_here", "_law_left", "_law_right"] (defScope s__law_marked) := ⟨rfl, rfl, rfl, by decide +kernel, rfl, by decide +kernel, by decide +kernel⟩
theorem sc__law_tables : FnScope ["_law_source_here", "_law_alphabet_here", "_law_most", "_law_steady", "_law_many", "_law_left", "_law_right"] ["_law_source_here", "_law_alphabet_here", "_law_most", "_law_steady"] (defScope s__law_tables) := ⟨rfl, rfl, rfl, by decide +kernel, rfl, by decide +kernel, by decide +kernel⟩
theorem sc__law_is_number : FnScope ["_law_thing", "_law_low", "_law_high"] ["_law_thing", "_law_low", "_law_high"] (defScope s__law_is_number) := ⟨rfl, rfl, rfl, by decide +kernel, rfl, by decide +kernel, by decide +kernel⟩
theorem sc__law_bools : FnScope ["_law_thing", "_law_size", "_law_one"] ["_law_thing", "_law_size"] (defScope s__law_bools) := ⟨rfl, rfl, rfl, by decide +kernel, rfl, by decide +kernel, by decide +kernel⟩
theorem sc__law_error_told : FnScope ["_law_error", "_law_names", "_law_word_here", "_law_right"] ["_law_error"] (defScope s__law_error_told) := ⟨rfl, rfl, rfl, by decide +kernel, rfl, by decide +kernel, by decide +kernel⟩
theorem sc__law_deep : FnScope ["_law_rows", "_law_row"] ["_law_rows"] (defScope s__law_deep) := ⟨rfl, rfl, rfl, by decide +kernel, rfl, by decide +kernel, by decide +kernel⟩
theorem sc__law_is_alphabet : FnScope ["_law_thing", "_law_letter", "_law_k"] ["_law_thing"] (defScope s__law_is_alphabet) := ⟨rfl, rfl, rfl, by decide +kernel, rfl, by decide +kernel, by decide +kernel⟩
theorem sc__law_first_move : FnScope ["_law_moves", "_law_many", "_law_number", "_law_move", "_law_one"] ["_law_moves", "_law_many"] (defScope s__law_first_move) := ⟨rfl, rfl, rfl, by decide +kernel, rfl, by decide +kernel, by decide +kernel⟩
theorem sc__law_first_triple : FnScope ["_law_alphabet_here", "_law_left", "_law_right", "_law_marked_here", "_law_number", "_law_one"] ["_law_alphabet_here", "_law_left", "_law_right", "_law_marked_here"] (defScope s__law_first_triple) := ⟨rfl, rfl, rfl, by decide +kernel, rfl, by decide +kernel, by decide +kernel⟩
theorem sc__law_due : FnScope ["_law_alphabet_here", "_law_left", "_law_right", "_law_marked_here", "_law_side", "_law_moves", "_law_number"] ["_law_alphabet_here", "_law_left", "_law_right", "_law_marked_here"] (defScope s__law_due) := ⟨rfl, rfl, rfl, by decide +kernel, rfl, by decide +kernel, by decide +kernel⟩
theorem sc__law_made : FnScope ["_law_alphabet_here", "_law_left", "_law_right", "_law_marked_here", "_law_pair", "_law_error"] ["_law_alphabet_here", "_law_left", "_law_right", "_law_marked_here"] (defScope s__law_made) := ⟨rfl, rfl, rfl, by decide +kernel, rfl, by decide +kernel, by decide +kernel⟩
theorem sc__law_made_of : FnScope ["_law_alphabet_here", "_law_letters", "_law_pair", "_law_error"] ["_law_alphabet_here", "_law_letters"] (defScope s__law_made_of) := ⟨rfl, rfl, rfl, by decide +kernel, rfl, by decide +kernel, by decide +kernel⟩
theorem sc__law_called : FnScope ["_law_pair", "_law_row", "_law_error"] ["_law_pair", "_law_row"] (defScope s__law_called) := ⟨rfl, rfl, rfl, by decide +kernel, rfl, by decide +kernel, by decide +kernel⟩
theorem sc__law_asked : FnScope ["_law_pair", "_law_placed", "_law_error"] ["_law_pair", "_law_placed"] (defScope s__law_asked) := ⟨rfl, rfl, rfl, by decide +kernel, rfl, by decide +kernel, by decide +kernel⟩
theorem sc__law_row_fault : FnScope ["_law_alphabet_here", "_law_row", "_law_at"] ["_law_alphabet_here", "_law_row"] (defScope s__law_row_fault) := ⟨rfl, rfl, rfl, by decide +kernel, rfl, by decide +kernel, by decide +kernel⟩
theorem sc__law_read : FnScope ["_law_alphabet_here", "_law_tables_here", "_law_row", "_law_lit", "_law_triple", "_law_ahead", "_law_p", "_law_letter", "_law_told", "_law_q", "_law_place"] ["_law_alphabet_here", "_law_tables_here", "_law_row"] (defScope s__law_read) := ⟨rfl, rfl, rfl, by decide +kernel, rfl, by decide +kernel, by decide +kernel⟩
theorem sc__law_tells : FnScope ["_law_pair", "_law_row", "_law_due_here", "_law_source_here", "_law_told", "_law_place", "_law_places"] ["_law_pair", "_law_row", "_law_due_here", "_law_source_here"] (defScope s__law_tells) := ⟨rfl, rfl, rfl, by decide +kernel, rfl, by decide +kernel, by decide +kernel⟩
theorem sc__law_bad_reader : FnScope ["_law_source_here", "_law_moves", "_law_many", "_law_size", "_law_way", "_law_told", "_law_number", "_law_p", "_law_move"] ["_law_source_here", "_law_moves", "_law_many"] (defScope s__law_bad_reader) := ⟨rfl, rfl, rfl, by decide +kernel, rfl, by decide +kernel, by decide +kernel⟩
theorem sc__law_bad_marked : FnScope ["_law_source_here", "_law_alphabet_here", "_law_lefts", "_law_rights", "_law_marked_here", "_law_way", "_law_told", "_law_number", "_law_p", "_law_letter", "_law_q", "_law_triple"] ["_law_source_here", "_law_alphabet_here", "_law_lefts", "_law_rights", "_law_marked_here"] (defScope s__law_bad_marked) := ⟨rfl, rfl, rfl, by decide +kernel, rfl, by decide +kernel, by decide +kernel⟩
theorem sc__law_makes_right : FnScope ["_law_source_here", "_law_alphabet_here", "_law_tables_here", "_law_turn", "_law_things", "_law_first", "_law_which", "_law_due_here", "_law_move", "_law_triple"] ["_law_source_here", "_law_alphabet_here", "_law_tables_here"] (defScope s__law_makes_right) := ⟨rfl, rfl, rfl, by decide +kernel, rfl, by decide +kernel, by decide +kernel⟩
theorem sc__law_letters_right : FnScope ["_law_source_here", "_law_alphabet_here", "_law_left", "_law_chosen", "_law_k", "_law_still", "_law_due_here", "_law_wrong", "_law_letter"] ["_law_source_here", "_law_alphabet_here"] (defScope s__law_letters_right) := ⟨rfl, rfl, rfl, by decide +kernel, rfl, by decide +kernel, by decide +kernel⟩
theorem sc__law_rows_right : FnScope ["_law_source_here", "_law_alphabet_here", "_law_tables_here", "_law_pair", "_law_row", "_law_strange", "_law_at", "_law_thing", "_law_way", "_law_place", "_law_fault", "_law_told", "_law_sign"] ["_law_source_here", "_law_alphabet_here", "_law_tables_here", "_law_pair", "_law_row"] (defScope s__law_rows_right) := ⟨rfl, rfl, rfl, by decide +kernel, rfl, by decide +kernel, by decide +kernel⟩
theorem sc__law_equals_right : FnScope ["_law_source_here", "_law_alphabet_here", "_law_tables_here", "_law_other", "_law_pairs", "_law_left", "_law_right", "_law_marked_here", "_law_twin", "_law_one", "_law_near", "_law_moves", "_law_far", "_law_move", "_law_triple"] ["_law_source_here", "_law_alphabet_here", "_law_tables_here", "_law_other", "_law_pairs"] (defScope s__law_equals_right) := ⟨rfl, rfl, rfl, by decide +kernel, rfl, by decide +kernel, by decide +kernel⟩
theorem sc_law : FnScope ["_law_script", "_law_source_here", "_law_alphabet_here", "_law_tables_here", "_law_pairs", "_law_left", "_law_right", "_law_marked_here", "_law_mine", "_law_pair", "_law_due_here", "_law_third", "_law_k", "_law_rows", "_law_row", "_law_fourth", "_law_move", "_law_triple"] ["_law_script"] (defScope s_law) := ⟨rfl, rfl, rfl, by decide +kernel, rfl, by decide +kernel, by decide +kernel⟩
structure Txt (K : PySem.W.Frag) (mg : Str → Option Value) : Prop where
  sd : He.SaysD fa fn K
  g : ∀ x : Str, He.Fa.glo x ∈ fa → mg x = some (.ref (He.ga K x))
  fr : ∀ x : Str, He.Fa.free x ∈ fa → mg x = none
  ex : extra K = true
  ofl : He5.fnA K (dOf.at_ K) = dOf.val
  i40 : ∃ t, mg "MOST_STANDINGS" = some (.int 40 t)
  i200 : ∃ t, mg "MOST_LETTERS" = some (.int 200 t)
  s8 : ∃ t, mg "LETTERS" = some (.str "abcdefgh" t)
theorem fr_of {K mg} (T : Txt K mg) (i : Nat) {x : Str} (h : fa2[i]? = some (.free x) := by rfl) : mg x = none := T.fr x (by unfold fa; exact List.mem_append_left _ (List.mem_append_right _ (List.mem_of_getElem? h)))
theorem fr_abs {K mg} (T : Txt K mg) : mg "abs" = none := fr_of T 0
theorem fr_all {K mg} (T : Txt K mg) : mg "all" = none := fr_of T 1
theorem fr_any {K mg} (T : Txt K mg) : mg "any" = none := fr_of T 2
theorem fr_bool {K mg} (T : Txt K mg) : mg "bool" = none := fr_of T 3
theorem fr_enumerate {K mg} (T : Txt K mg) : mg "enumerate" = none := fr_of T 4
theorem fr_int {K mg} (T : Txt K mg) : mg "int" = none := fr_of T 5
theorem fr_isinstance {K mg} (T : Txt K mg) : mg "isinstance" = none := fr_of T 6
theorem fr_len {K mg} (T : Txt K mg) : mg "len" = none := fr_of T 7
theorem fr_list {K mg} (T : Txt K mg) : mg "list" = none := fr_of T 8
theorem fr_max {K mg} (T : Txt K mg) : mg "max" = none := fr_of T 9
theorem fr_min {K mg} (T : Txt K mg) : mg "min" = none := fr_of T 10
theorem fr_range {K mg} (T : Txt K mg) : mg "range" = none := fr_of T 11
theorem fr_repr {K mg} (T : Txt K mg) : mg "repr" = none := fr_of T 12
theorem fr_reversed {K mg} (T : Txt K mg) : mg "reversed" = none := fr_of T 13
theorem fr_set {K mg} (T : Txt K mg) : mg "set" = none := fr_of T 14
theorem fr_sorted {K mg} (T : Txt K mg) : mg "sorted" = none := fr_of T 15
theorem fr_str {K mg} (T : Txt K mg) : mg "str" = none := fr_of T 16
theorem fr_sum {K mg} (T : Txt K mg) : mg "sum" = none := fr_of T 17
theorem fr_tuple {K mg} (T : Txt K mg) : mg "tuple" = none := fr_of T 18
theorem fr_zip {K mg} (T : Txt K mg) : mg "zip" = none := fr_of T 19
theorem g_of0 {K mg} (T : Txt K mg) (i : Nat) {x : Str} (h : fa0[i]? = some (.glo x) := by rfl) : mg x = some (.ref (He.ga K x)) := T.g x (by unfold fa; exact List.mem_append_left _ (List.mem_append_left _ (List.mem_append_left _ (List.mem_of_getElem? h))))
theorem g_of1 {K mg} (T : Txt K mg) (i : Nat) {x : Str} (h : fa1[i]? = some (.glo x) := by rfl) : mg x = some (.ref (He.ga K x)) := T.g x (by unfold fa; exact List.mem_append_left _ (List.mem_append_left _ (List.mem_append_right _ (List.mem_of_getElem? h))))
theorem g_SaidError {K mg} (T : Txt K mg) : mg "SaidError" = some (.ref (He.ga K "SaidError")) := g_of0 T 0
theorem g_WrongThing {K mg} (T : Txt K mg) : mg "WrongThing" = some (.ref (He.ga K "WrongThing")) := g_of0 T 1
theorem g_WrongItem {K mg} (T : Txt K mg) : mg "WrongItem" = some (.ref (He.ga K "WrongItem")) := g_of0 T 2
theorem g_BadAlphabet {K mg} (T : Txt K mg) : mg "BadAlphabet" = some (.ref (He.ga K "BadAlphabet")) := g_of0 T 3
theorem g_BadPlace {K mg} (T : Txt K mg) : mg "BadPlace" = some (.ref (He.ga K "BadPlace")) := g_of0 T 4
theorem g_BadLetters {K mg} (T : Txt K mg) : mg "BadLetters" = some (.ref (He.ga K "BadLetters")) := g_of0 T 5
theorem g_BadMarked {K mg} (T : Txt K mg) : mg "BadMarked" = some (.ref (He.ga K "BadMarked")) := g_of0 T 6
theorem g_BadRow {K mg} (T : Txt K mg) : mg "BadRow" = some (.ref (He.ga K "BadRow")) := g_of0 T 7
theorem g_BadReader {K mg} (T : Txt K mg) : mg "BadReader" = some (.ref (He.ga K "BadReader")) := g_of0 T 8
theorem g_is_whole {K mg} (T : Txt K mg) : mg "is_whole" = some (.ref (He.ga K "is_whole")) := g_of0 T 9
theorem g_is_below {K mg} (T : Txt K mg) : mg "is_below" = some (.ref (He.ga K "is_below")) := g_of0 T 10
theorem g_is_listing {K mg} (T : Txt K mg) : mg "is_listing" = some (.ref (He.ga K "is_listing")) := g_of0 T 11
theorem g_has_bit {K mg} (T : Txt K mg) : mg "has_bit" = some (.ref (He.ga K "has_bit")) := g_of0 T 12
theorem g_is_move {K mg} (T : Txt K mg) : mg "is_move" = some (.ref (He.ga K "is_move")) := g_of0 T 13
theorem g_kept_reader {K mg} (T : Txt K mg) : mg "kept_reader" = some (.ref (He.ga K "kept_reader")) := g_of0 T 14
theorem g_standings_ahead {K mg} (T : Txt K mg) : mg "standings_ahead" = some (.ref (He.ga K "standings_ahead")) := g_of0 T 15
theorem g_standings_behind {K mg} (T : Txt K mg) : mg "standings_behind" = some (.ref (He.ga K "standings_behind")) := g_of0 T 16
theorem g_is_alphabet {K mg} (T : Txt K mg) : mg "is_alphabet" = some (.ref (He.ga K "is_alphabet")) := g_of0 T 17
theorem g_check_alphabet {K mg} (T : Txt K mg) : mg "check_alphabet" = some (.ref (He.ga K "check_alphabet")) := g_of0 T 18
theorem g_is_letter {K mg} (T : Txt K mg) : mg "is_letter" = some (.ref (He.ga K "is_letter")) := g_of0 T 19
theorem g_wrong_at {K mg} (T : Txt K mg) : mg "wrong_at" = some (.ref (He.ga K "wrong_at")) := g_of0 T 20
theorem g_check_row {K mg} (T : Txt K mg) : mg "check_row" = some (.ref (He.ga K "check_row")) := g_of0 T 21
theorem g_check_place {K mg} (T : Txt K mg) : mg "check_place" = some (.ref (He.ga K "check_place")) := g_of0 T 22
theorem g_is_triple {K mg} (T : Txt K mg) : mg "is_triple" = some (.ref (He.ga K "is_triple")) := g_of0 T 23
theorem g_kept_marked {K mg} (T : Txt K mg) : mg "kept_marked" = some (.ref (He.ga K "kept_marked")) := g_of0 T 24
theorem g_masks_of_triples {K mg} (T : Txt K mg) : mg "masks_of_triples" = some (.ref (He.ga K "masks_of_triples")) := g_of0 T 25
theorem g_marks_in {K mg} (T : Txt K mg) : mg "marks_in" = some (.ref (He.ga K "marks_in")) := g_of0 T 26
theorem g_Pair {K mg} (T : Txt K mg) : mg "Pair" = some (.ref (He.ga K "Pair")) := g_of0 T 27
theorem g_is_choice {K mg} (T : Txt K mg) : mg "is_choice" = some (.ref (He.ga K "is_choice")) := g_of0 T 28
theorem g__law_source {K mg} (T : Txt K mg) : mg "_law_source" = some (.ref (He.ga K "_law_source")) := g_of0 T 29
theorem g__law_pick {K mg} (T : Txt K mg) : mg "_law_pick" = some (.ref (He.ga K "_law_pick")) := g_of0 T 30
theorem g__law_alphabet {K mg} (T : Txt K mg) : mg "_law_alphabet" = some (.ref (He.ga K "_law_alphabet")) := g_of0 T 31
theorem g__law_word {K mg} (T : Txt K mg) : mg "_law_word" = some (.ref (He.ga K "_law_word")) := g_of0 T 32
theorem g__law_reader {K mg} (T : Txt K mg) : mg "_law_reader" = some (.ref (He.ga K "_law_reader")) := g_of0 T 33
theorem g__law_steady_reader {K mg} (T : Txt K mg) : mg "_law_steady_reader" = some (.ref (He.ga K "_law_steady_reader")) := g_of0 T 34
theorem g__law_marked {K mg} (T : Txt K mg) : mg "_law_marked" = some (.ref (He.ga K "_law_marked")) := g_of0 T 35
theorem g__law_tables {K mg} (T : Txt K mg) : mg "_law_tables" = some (.ref (He.ga K "_law_tables")) := g_of0 T 36
theorem g__law_is_number {K mg} (T : Txt K mg) : mg "_law_is_number" = some (.ref (He.ga K "_law_is_number")) := g_of0 T 37
theorem g__law_bools {K mg} (T : Txt K mg) : mg "_law_bools" = some (.ref (He.ga K "_law_bools")) := g_of0 T 38
theorem g__law_error_told {K mg} (T : Txt K mg) : mg "_law_error_told" = some (.ref (He.ga K "_law_error_told")) := g_of0 T 39
theorem g__law_deep {K mg} (T : Txt K mg) : mg "_law_deep" = some (.ref (He.ga K "_law_deep")) := g_of1 T 0
theorem g__law_is_alphabet {K mg} (T : Txt K mg) : mg "_law_is_alphabet" = some (.ref (He.ga K "_law_is_alphabet")) := g_of1 T 1
theorem g__law_first_move {K mg} (T : Txt K mg) : mg "_law_first_move" = some (.ref (He.ga K "_law_first_move")) := g_of1 T 2
theorem g__law_first_triple {K mg} (T : Txt K mg) : mg "_law_first_triple" = some (.ref (He.ga K "_law_first_triple")) := g_of1 T 3
theorem g__law_due {K mg} (T : Txt K mg) : mg "_law_due" = some (.ref (He.ga K "_law_due")) := g_of1 T 4
theorem g__law_made {K mg} (T : Txt K mg) : mg "_law_made" = some (.ref (He.ga K "_law_made")) := g_of1 T 5
theorem g__law_made_of {K mg} (T : Txt K mg) : mg "_law_made_of" = some (.ref (He.ga K "_law_made_of")) := g_of1 T 6
theorem g__law_called {K mg} (T : Txt K mg) : mg "_law_called" = some (.ref (He.ga K "_law_called")) := g_of1 T 7
theorem g__law_asked {K mg} (T : Txt K mg) : mg "_law_asked" = some (.ref (He.ga K "_law_asked")) := g_of1 T 8
theorem g__law_row_fault {K mg} (T : Txt K mg) : mg "_law_row_fault" = some (.ref (He.ga K "_law_row_fault")) := g_of1 T 9
theorem g__law_read {K mg} (T : Txt K mg) : mg "_law_read" = some (.ref (He.ga K "_law_read")) := g_of1 T 10
theorem g__law_tells {K mg} (T : Txt K mg) : mg "_law_tells" = some (.ref (He.ga K "_law_tells")) := g_of1 T 11
theorem g__law_bad_reader {K mg} (T : Txt K mg) : mg "_law_bad_reader" = some (.ref (He.ga K "_law_bad_reader")) := g_of1 T 12
theorem g__law_bad_marked {K mg} (T : Txt K mg) : mg "_law_bad_marked" = some (.ref (He.ga K "_law_bad_marked")) := g_of1 T 13
theorem g__law_makes_right {K mg} (T : Txt K mg) : mg "_law_makes_right" = some (.ref (He.ga K "_law_makes_right")) := g_of1 T 14
theorem g__law_letters_right {K mg} (T : Txt K mg) : mg "_law_letters_right" = some (.ref (He.ga K "_law_letters_right")) := g_of1 T 15
theorem g__law_rows_right {K mg} (T : Txt K mg) : mg "_law_rows_right" = some (.ref (He.ga K "_law_rows_right")) := g_of1 T 16
theorem g__law_equals_right {K mg} (T : Txt K mg) : mg "_law_equals_right" = some (.ref (He.ga K "_law_equals_right")) := g_of1 T 17
theorem g_law {K mg} (T : Txt K mg) : mg "law" = some (.ref (He.ga K "law")) := g_of1 T 18
theorem cls_Pair {K mg} (T : Txt K mg) : Cls K (He.ga K "Pair") := He.cls_ok (T.sd.fact 82 (f := .cls "Pair") rfl)
theorem mkr_Pair {K mg} (T : Txt K mg) : Mk K (He.ga K "Pair") (He.ma K (He.ga K "Pair") "__init__") := He.mkr_ok (T.sd.fact 83 (f := .mkr "Pair") rfl)
theorem noat_alphabet {K mg} (T : Txt K mg) : NoAttr K (He.ga K "Pair") "alphabet" := He.noat_ok (T.sd.fact 84 (f := .noat "Pair" "alphabet") rfl)
theorem noat_left {K mg} (T : Txt K mg) : NoAttr K (He.ga K "Pair") "left" := He.noat_ok (T.sd.fact 85 (f := .noat "Pair" "left") rfl)
theorem noat_right {K mg} (T : Txt K mg) : NoAttr K (He.ga K "Pair") "right" := He.noat_ok (T.sd.fact 86 (f := .noat "Pair" "right") rfl)
theorem noat_marked {K mg} (T : Txt K mg) : NoAttr K (He.ga K "Pair") "marked" := He.noat_ok (T.sd.fact 87 (f := .noat "Pair" "marked") rfl)
theorem noat_masks {K mg} (T : Txt K mg) : NoAttr K (He.ga K "Pair") "masks" := He.noat_ok (T.sd.fact 88 (f := .noat "Pair" "masks") rfl)
theorem meth___call__ {K mg} (T : Txt K mg) : Meth K (He.ga K "Pair") "__call__" (He.ma K (He.ga K "Pair") "__call__") := He.meth_ok (T.sd.fact 89 (f := .meth "Pair" "__call__") rfl)
theorem meth___contains__ {K mg} (T : Txt K mg) : Meth K (He.ga K "Pair") "__contains__" (He.ma K (He.ga K "Pair") "__contains__") := He.meth_ok (T.sd.fact 90 (f := .meth "Pair" "__contains__") rfl)
theorem meth___eq__ {K mg} (T : Txt K mg) : Meth K (He.ga K "Pair") "__eq__" (He.ma K (He.ga K "Pair") "__eq__") := He.meth_ok (T.sd.fact 91 (f := .meth "Pair" "__eq__") rfl)
abbrev FnP (K : PySem.W.Frag) (x q : Str) (st : Stmt) (f : Addr) (fd : FuncData) : Prop := FunD K x q (defArgs st) (defBody st) (defScope st) [] [] f fd
theorem F_BadRow___init__ {K mg} (T : Txt K mg) : ∃ fd, FnP K "__init__" "BadRow.__init__" s_BadRow___init__ (He.ma K (He.ga K "BadRow") "__init__") fd := T.sd.def_ 0 (d := dM "BadRow" "__init__" "BadRow.__init__" s_BadRow___init__) rfl
theorem F_BadReader___init__ {K mg} (T : Txt K mg) : ∃ fd, FnP K "__init__" "BadReader.__init__" s_BadReader___init__ (He.ma K (He.ga K "BadReader") "__init__") fd := T.sd.def_ 1 (d := dM "BadReader" "__init__" "BadReader.__init__" s_BadReader___init__) rfl
theorem F_is_whole {K mg} (T : Txt K mg) : ∃ fd, FnP K "is_whole" "is_whole" s_is_whole (He.ga K "is_whole") fd := T.sd.def_ 2 (d := dD "is_whole" s_is_whole) rfl
theorem F_is_below {K mg} (T : Txt K mg) : ∃ fd, FnP K "is_below" "is_below" s_is_below (He.ga K "is_below") fd := T.sd.def_ 3 (d := dD "is_below" s_is_below) rfl
theorem F_is_listing {K mg} (T : Txt K mg) : ∃ fd, FnP K "is_listing" "is_listing" s_is_listing (He.ga K "is_listing") fd := T.sd.def_ 4 (d := dD "is_listing" s_is_listing) rfl
theorem F_has_bit {K mg} (T : Txt K mg) : ∃ fd, FnP K "has_bit" "has_bit" s_has_bit (He.ga K "has_bit") fd := T.sd.def_ 5 (d := dD "has_bit" s_has_bit) rfl
theorem F_is_move {K mg} (T : Txt K mg) : ∃ fd, FnP K "is_move" "is_move" s_is_move (He.ga K "is_move") fd := T.sd.def_ 6 (d := dD "is_move" s_is_move) rfl
theorem F_kept_reader {K mg} (T : Txt K mg) : ∃ fd, FnP K "kept_reader" "kept_reader" s_kept_reader (He.ga K "kept_reader") fd := T.sd.def_ 7 (d := dD "kept_reader" s_kept_reader) rfl
theorem F_standings_ahead {K mg} (T : Txt K mg) : ∃ fd, FnP K "standings_ahead" "standings_ahead" s_standings_ahead (He.ga K "standings_ahead") fd := T.sd.def_ 8 (d := dD "standings_ahead" s_standings_ahead) rfl
theorem F_standings_behind {K mg} (T : Txt K mg) : ∃ fd, FnP K "standings_behind" "standings_behind" s_standings_behind (He.ga K "standings_behind") fd := T.sd.def_ 9 (d := dD "standings_behind" s_standings_behind) rfl
theorem F_is_alphabet {K mg} (T : Txt K mg) : ∃ fd, FnP K "is_alphabet" "is_alphabet" s_is_alphabet (He.ga K "is_alphabet") fd := T.sd.def_ 10 (d := dD "is_alphabet" s_is_alphabet) rfl
theorem F_check_alphabet {K mg} (T : Txt K mg) : ∃ fd, FnP K "check_alphabet" "check_alphabet" s_check_alphabet (He.ga K "check_alphabet") fd := T.sd.def_ 11 (d := dD "check_alphabet" s_check_alphabet) rfl
theorem F_is_letter {K mg} (T : Txt K mg) : ∃ fd, FnP K "is_letter" "is_letter" s_is_letter (He.ga K "is_letter") fd := T.sd.def_ 12 (d := dD "is_letter" s_is_letter) rfl
theorem F_wrong_at {K mg} (T : Txt K mg) : ∃ fd, FnP K "wrong_at" "wrong_at" s_wrong_at (He.ga K "wrong_at") fd := T.sd.def_ 13 (d := dD "wrong_at" s_wrong_at) rfl
theorem F_check_row {K mg} (T : Txt K mg) : ∃ fd, FnP K "check_row" "check_row" s_check_row (He.ga K "check_row") fd := T.sd.def_ 14 (d := dD "check_row" s_check_row) rfl
theorem F_check_place {K mg} (T : Txt K mg) : ∃ fd, FnP K "check_place" "check_place" s_check_place (He.ga K "check_place") fd := T.sd.def_ 15 (d := dD "check_place" s_check_place) rfl
theorem F_is_triple {K mg} (T : Txt K mg) : ∃ fd, FnP K "is_triple" "is_triple" s_is_triple (He.ga K "is_triple") fd := T.sd.def_ 16 (d := dD "is_triple" s_is_triple) rfl
theorem F_kept_marked {K mg} (T : Txt K mg) : ∃ fd, FnP K "kept_marked" "kept_marked" s_kept_marked (He.ga K "kept_marked") fd := T.sd.def_ 17 (d := dD "kept_marked" s_kept_marked) rfl
theorem F_masks_of_triples {K mg} (T : Txt K mg) : ∃ fd, FnP K "masks_of_triples" "masks_of_triples" s_masks_of_triples (He.ga K "masks_of_triples") fd := T.sd.def_ 18 (d := dD "masks_of_triples" s_masks_of_triples) rfl
theorem F_marks_in {K mg} (T : Txt K mg) : ∃ fd, FnP K "marks_in" "marks_in" s_marks_in (He.ga K "marks_in") fd := T.sd.def_ 19 (d := dD "marks_in" s_marks_in) rfl
theorem F_Pair___init__ {K mg} (T : Txt K mg) : ∃ fd, FnP K "__init__" "Pair.__init__" s_Pair___init__ (He.ma K (He.ga K "Pair") "__init__") fd := T.sd.def_ 20 (d := dM "Pair" "__init__" "Pair.__init__" s_Pair___init__) rfl
theorem F_Pair___call__ {K mg} (T : Txt K mg) : ∃ fd, FnP K "__call__" "Pair.__call__" s_Pair___call__ (He.ma K (He.ga K "Pair") "__call__") fd := T.sd.def_ 21 (d := dM "Pair" "__call__" "Pair.__call__" s_Pair___call__) rfl
theorem F_Pair___contains__ {K mg} (T : Txt K mg) : ∃ fd, FnP K "__contains__" "Pair.__contains__" s_Pair___contains__ (He.ma K (He.ga K "Pair") "__contains__") fd := T.sd.def_ 22 (d := dM "Pair" "__contains__" "Pair.__contains__" s_Pair___contains__) rfl
theorem F_Pair___eq__ {K mg} (T : Txt K mg) : ∃ fd, FnP K "__eq__" "Pair.__eq__" s_Pair___eq__ (He.ma K (He.ga K "Pair") "__eq__") fd := T.sd.def_ 23 (d := dM "Pair" "__eq__" "Pair.__eq__" s_Pair___eq__) rfl
theorem F_is_choice {K mg} (T : Txt K mg) : ∃ fd, FnP K "is_choice" "is_choice" s_is_choice (He.ga K "is_choice") fd := T.sd.def_ 24 (d := dD "is_choice" s_is_choice) rfl
theorem F__law_source {K mg} (T : Txt K mg) : ∃ fd, FnP K "_law_source" "_law_source" s__law_source (He.ga K "_law_source") fd := T.sd.def_ 25 (d := dD "_law_source" s__law_source) rfl
theorem F__law_pick {K mg} (T : Txt K mg) : ∃ fd, FnP K "_law_pick" "_law_pick" s__law_pick (He.ga K "_law_pick") fd := T.sd.def_ 26 (d := dD "_law_pick" s__law_pick) rfl
theorem F__law_alphabet {K mg} (T : Txt K mg) : ∃ fd, FnP K "_law_alphabet" "_law_alphabet" s__law_alphabet (He.ga K "_law_alphabet") fd := T.sd.def_ 27 (d := dD "_law_alphabet" s__law_alphabet) rfl
theorem F__law_word {K mg} (T : Txt K mg) : ∃ fd, FnP K "_law_word" "_law_word" s__law_word (He.ga K "_law_word") fd := T.sd.def_ 28 (d := dD "_law_word" s__law_word) rfl
theorem F__law_reader {K mg} (T : Txt K mg) : ∃ fd, FnP K "_law_reader" "_law_reader" s__law_reader (He.ga K "_law_reader") fd := T.sd.def_ 29 (d := dD "_law_reader" s__law_reader) rfl
theorem F__law_steady_reader {K mg} (T : Txt K mg) : ∃ fd, FnP K "_law_steady_reader" "_law_steady_reader" s__law_steady_reader (He.ga K "_law_steady_reader") fd := T.sd.def_ 30 (d := dD "_law_steady_reader" s__law_steady_reader) rfl
theorem F__law_marked {K mg} (T : Txt K mg) : ∃ fd, FnP K "_law_marked" "_law_marked" s__law_marked (He.ga K "_law_marked") fd := T.sd.def_ 31 (d := dD "_law_marked" s__law_marked) rfl
theorem F__law_tables {K mg} (T : Txt K mg) : ∃ fd, FnP K "_law_tables" "_law_tables" s__law_tables (He.ga K "_law_tables") fd := T.sd.def_ 32 (d := dD "_law_tables" s__law_tables) rfl
theorem F__law_is_number {K mg} (T : Txt K mg) : ∃ fd, FnP K "_law_is_number" "_law_is_number" s__law_is_number (He.ga K "_law_is_number") fd := T.sd.def_ 33 (d := dD "_law_is_number" s__law_is_number) rfl
theorem F__law_bools {K mg} (T : Txt K mg) : ∃ fd, FnP K "_law_bools" "_law_bools" s__law_bools (He.ga K "_law_bools") fd := T.sd.def_ 34 (d := dD "_law_bools" s__law_bools) rfl
theorem F__law_error_told {K mg} (T : Txt K mg) : ∃ fd, FnP K "_law_error_told" "_law_error_told" s__law_error_told (He.ga K "_law_error_told") fd := T.sd.def_ 35 (d := dD "_law_error_told" s__law_error_told) rfl
theorem F__law_deep {K mg} (T : Txt K mg) : ∃ fd, FnP K "_law_deep" "_law_deep" s__law_deep (He.ga K "_law_deep") fd := T.sd.def_ 36 (d := dD "_law_deep" s__law_deep) rfl
theorem F__law_is_alphabet {K mg} (T : Txt K mg) : ∃ fd, FnP K "_law_is_alphabet" "_law_is_alphabet" s__law_is_alphabet (He.ga K "_law_is_alphabet") fd := T.sd.def_ 37 (d := dD "_law_is_alphabet" s__law_is_alphabet) rfl
theorem F__law_first_move {K mg} (T : Txt K mg) : ∃ fd, FnP K "_law_first_move" "_law_first_move" s__law_first_move (He.ga K "_law_first_move") fd := T.sd.def_ 38 (d := dD "_law_first_move" s__law_first_move) rfl
theorem F__law_first_triple {K mg} (T : Txt K mg) : ∃ fd, FnP K "_law_first_triple" "_law_first_triple" s__law_first_triple (He.ga K "_law_first_triple") fd := T.sd.def_ 39 (d := dD "_law_first_triple" s__law_first_triple) rfl
theorem F__law_due {K mg} (T : Txt K mg) : ∃ fd, FnP K "_law_due" "_law_due" s__law_due (He.ga K "_law_due") fd := T.sd.def_ 40 (d := dD "_law_due" s__law_due) rfl
theorem F__law_made {K mg} (T : Txt K mg) : ∃ fd, FnP K "_law_made" "_law_made" s__law_made (He.ga K "_law_made") fd := T.sd.def_ 41 (d := dD "_law_made" s__law_made) rfl
theorem F__law_made_of {K mg} (T : Txt K mg) : ∃ fd, FnP K "_law_made_of" "_law_made_of" s__law_made_of (He.ga K "_law_made_of") fd := T.sd.def_ 42 (d := dD "_law_made_of" s__law_made_of) rfl
theorem F__law_called {K mg} (T : Txt K mg) : ∃ fd, FnP K "_law_called" "_law_called" s__law_called (He.ga K "_law_called") fd := T.sd.def_ 43 (d := dD "_law_called" s__law_called) rfl
theorem F__law_asked {K mg} (T : Txt K mg) : ∃ fd, FnP K "_law_asked" "_law_asked" s__law_asked (He.ga K "_law_asked") fd := T.sd.def_ 44 (d := dD "_law_asked" s__law_asked) rfl
theorem F__law_row_fault {K mg} (T : Txt K mg) : ∃ fd, FnP K "_law_row_fault" "_law_row_fault" s__law_row_fault (He.ga K "_law_row_fault") fd := T.sd.def_ 45 (d := dD "_law_row_fault" s__law_row_fault) rfl
theorem F__law_read {K mg} (T : Txt K mg) : ∃ fd, FnP K "_law_read" "_law_read" s__law_read (He.ga K "_law_read") fd := T.sd.def_ 46 (d := dD "_law_read" s__law_read) rfl
theorem F__law_tells {K mg} (T : Txt K mg) : ∃ fd, FnP K "_law_tells" "_law_tells" s__law_tells (He.ga K "_law_tells") fd := T.sd.def_ 47 (d := dD "_law_tells" s__law_tells) rfl
theorem F__law_bad_reader {K mg} (T : Txt K mg) : ∃ fd, FnP K "_law_bad_reader" "_law_bad_reader" s__law_bad_reader (He.ga K "_law_bad_reader") fd := T.sd.def_ 48 (d := dD "_law_bad_reader" s__law_bad_reader) rfl
theorem F__law_bad_marked {K mg} (T : Txt K mg) : ∃ fd, FnP K "_law_bad_marked" "_law_bad_marked" s__law_bad_marked (He.ga K "_law_bad_marked") fd := T.sd.def_ 49 (d := dD "_law_bad_marked" s__law_bad_marked) rfl
theorem F__law_makes_right {K mg} (T : Txt K mg) : ∃ fd, FnP K "_law_makes_right" "_law_makes_right" s__law_makes_right (He.ga K "_law_makes_right") fd := T.sd.def_ 50 (d := dD "_law_makes_right" s__law_makes_right) rfl
theorem F__law_letters_right {K mg} (T : Txt K mg) : ∃ fd, FnP K "_law_letters_right" "_law_letters_right" s__law_letters_right (He.ga K "_law_letters_right") fd := T.sd.def_ 51 (d := dD "_law_letters_right" s__law_letters_right) rfl
theorem F__law_rows_right {K mg} (T : Txt K mg) : ∃ fd, FnP K "_law_rows_right" "_law_rows_right" s__law_rows_right (He.ga K "_law_rows_right") fd := T.sd.def_ 52 (d := dD "_law_rows_right" s__law_rows_right) rfl
theorem F__law_equals_right {K mg} (T : Txt K mg) : ∃ fd, FnP K "_law_equals_right" "_law_equals_right" s__law_equals_right (He.ga K "_law_equals_right") fd := T.sd.def_ 53 (d := dD "_law_equals_right" s__law_equals_right) rfl
theorem F_law {K mg} (T : Txt K mg) : ∃ fd, FnP K "law" "law" s_law (He.ga K "law") fd := T.sd.def_ 54 (d := dD "law" s_law) rfl
theorem F_BadAlphabet___init__ {K mg} (T : Txt K mg) : ∃ fd, FnP K "__init__" "WrongThing.__init__" s_WrongThing___init__ (He.ma K (He.ga K "BadAlphabet") "__init__") fd := T.sd.def_ 55 (d := dM "BadAlphabet" "__init__" "WrongThing.__init__" s_WrongThing___init__) rfl
theorem F_BadPlace___init__ {K mg} (T : Txt K mg) : ∃ fd, FnP K "__init__" "WrongThing.__init__" s_WrongThing___init__ (He.ma K (He.ga K "BadPlace") "__init__") fd := T.sd.def_ 56 (d := dM "BadPlace" "__init__" "WrongThing.__init__" s_WrongThing___init__) rfl
theorem F_BadLetters___init__ {K mg} (T : Txt K mg) : ∃ fd, FnP K "__init__" "WrongThing.__init__" s_WrongThing___init__ (He.ma K (He.ga K "BadLetters") "__init__") fd := T.sd.def_ 57 (d := dM "BadLetters" "__init__" "WrongThing.__init__" s_WrongThing___init__) rfl
theorem F_BadMarked___init__ {K mg} (T : Txt K mg) : ∃ fd, FnP K "__init__" "WrongItem.__init__" s_WrongItem___init__ (He.ma K (He.ga K "BadMarked") "__init__") fd := T.sd.def_ 58 (d := dM "BadMarked" "__init__" "WrongItem.__init__" s_WrongItem___init__) rfl
end Kx
set_option Elab.async false
set_option linter.all false
set_option maxRecDepth 100000
set_option maxHeartbeats 1000000
namespace Kx
open PySem PySem.Spec PyProof.Rows L2
/-- a def that stands under the module's name x, with its promise -/
structure Cal (P : Program) (w : World) (K : PySem.W.Frag) (mg : Str → Option Value) (base : Heap) (CX : CXT) (k : Nat) (x : Str) (ps : List Str) (sp : Sp) : Prop where
  ok : ∃ fd, FnOk P w K mg base CX k (He.ga K x) fd ps sp ∧ Binds K fd ps []
  g : mg x = some (.ref (He.ga K x))
  kp : PySem.W.keepIn K (.ref (He.ga K x)) = true
section
variable {P : Program} {w : World} {K : PySem.W.Frag} {mg : Str → Option Value} {base : Heap}
theorem cal_mk {x q : Str} {st : Stmt} {fd : FuncData} {N ps : List Str} {k : Nat} {sp : Sp} {CX : CXT} (F : FnP K x q st (He.ga K x) fd) (g : mg x = some (.ref (He.ga K x))) (S : FnScope N ps (defScope st))
    (hb : ∀ (kV doc pm : Value) (an : Option Addr) (cdv ct : Value) (us : List Value), us.length = ps.length → bindArgs (PySem.W.fnOf x q (defArgs st) (defBody st) (defScope st) .none kV doc pm an cdv ct) ⟨us, []⟩ = pure (ps.zip us))
    (len : ∀ vs H Q E, sp vs H Q E → vs.length = ps.length)
    (hbody : ∀ (cdv : Value) (A : Around) (outer : List Env) (s : Shared) (H : Hp) (vs : List V) (Q : VK) (E : XK), Room k (A.deeper (envOfC q (defScope st) s.heap.objs.size (He.ga K x) cdv)) → sp vs H Q E →
      ∃ t, PSs (cxOf CX P w K mg base N q (defScope st) (He.ga K x) cdv A outer s H E) (defBody st) t ∧ t { nx := fun _ H' => Q .non H', rt := Q } (start N vs) H) : Cal P w K mg base CX (k + 1) x ps sp :=
  ⟨⟨fd, F.ok S len hbody, F.bindsN hb⟩, g, F.kp⟩
end
section
variable {X : Cx} {CX : CXT} {k : Nat} {x : Str} {ps : List Str} {sp : Sp} {E : XK} {e : Expr} {es : List Expr} {t : TA} {p pos : Pos}
/-- f(e, ..) -/
theorem pe_cal (F : Cal X.prog X.w X.K X.mg X.base CX k x ps sp) (hr : Room k X.A) (hx : Passes CX X E) (ha : PA X (e :: es) t) (hg : Gl X x := by rfl) (hdb : (x == ("__debug__" : Str)) = false := by decide)
    (he : starEach (e :: es) X.env = (false, eval e X.env) :: starEach es X.env := by rfl) (hpl : (backTo pos (starEach es X.env)).any (·.1) = false := by rfl) :
    PE X (.Call (.Name x p) (e :: es) [] pos) (tCall sp [] E t) := by
  obtain ⟨fd, h1, h2⟩ := F.ok
  exact pe_call h1 hr hg F.g F.kp h2 .nil hx ha hdb he hpl
end
/-! ### isinstance with a built-in class -/
/-- isinstance(e, T), T a built-in class -/
def tIs (K : PySem.W.Frag) (T : String) (t : TE) : TE := fun σ H Q => t σ H fun x H1 => ∃ a : String, TyX K H1 x (.type a) ∧ ∃ b, kitB a T = some b ∧ Q (.bl b) H1
end Kx
set_option Elab.async false
set_option linter.all false
set_option maxRecDepth 100000
set_option maxHeartbeats 1000000
namespace Kx
open PySem PySem.Spec PyProof.Rows L2
/-- kinds of things that are passed -/
inductive Kd where
  | non | bl | int | str | lst | tup | dct
  deriving DecidableEq
def Kd.nm : Kd → String
  | .non => "NoneType" | .bl => "bool" | .int => "int" | .str => "str" | .lst => "list" | .tup => "tuple" | .dct => "dict"
/-- the value is of the kind -/
def Ko (K : PySem.W.Frag) (H : Hp) (v : V) (k : Kd) : Prop := TyX K H v (.type k.nm)
def Kd.is : Kd → String → Bool
  | .bl, "int" => true
  | k, s => k.nm == s
section
variable {X : Cx}
theorem PE.imp {e : Expr} {t t' : TE} (h : PE X e t) (i : ∀ σ H Q, t' σ H Q → t σ H Q) : PE X e t' := ⟨fun pins s σ H Q I q => h.run pins s σ H Q I (i σ H Q q)⟩
theorem pe_ty {T : String} {u : Str} {p : Pos} (hT : X.mg u = none) (hv : bootBuiltins u = some (.type T)) (hgT : Gl X u := by rfl)
    (hn : u ≠ "__name__" := by decide) (hd : (u == ("__debug__" : Str)) = false := by decide) : PE X (.Name u p) (tC (.ty T)) := pe_bltn (v := .ty T) hgT hT hv rfl hn hd
theorem CallR.imp {f : Value} {r r' : List V → Hp → VK → Prop} (h : CallR X f r) (i : ∀ xs H Q, r' xs H Q → r xs H Q) : CallR X f r' := fun pins s σ H vs us Q I rv q => h pins s σ H vs us Q I rv (i _ _ _ q)
end
theorem k_int : ∀ a : Kd, kitB a.nm "int" = some (a.is "int") := by intro a; cases a <;> decide +kernel
theorem k_bool : ∀ a : Kd, kitB a.nm "bool" = some (a.is "bool") := by intro a; cases a <;> decide +kernel
theorem k_str : ∀ a : Kd, kitB a.nm "str" = some (a.is "str") := by intro a; cases a <;> decide +kernel
theorem k_tuple : ∀ a : Kd, kitB a.nm "tuple" = some (a.is "tuple") := by intro a; cases a <;> decide +kernel
theorem k_list : ∀ a : Kd, kitB a.nm "list" = some (a.is "list") := by intro a; cases a <;> decide +kernel

/-- isinstance(x, T), T one of these built-in classes -/
def rIsB (K : PySem.W.Frag) : List V → Hp → VK → Prop := fun xs H Q => ∃ (x : V) (T : String) (a : Kd), xs = [x, .ty T] ∧ Ko K H x a ∧ kitB a.nm T = some (a.is T) ∧ Q (.bl (a.is T)) H
theorem call_isB {X : Cx} : CallR X (.builtin "isinstance") (rIsB X.K) := CallR.imp call_isi fun xs H Q ⟨x, T, a, e, ko, kb, q⟩ => ⟨x, .ty T, _, _, _, e, .ty T, ko, kit_ty kb, q⟩
theorem Ko.same {K : PySem.W.Frag} {H H' : Hp} {v : V} {a : Kd} (s : Same H H') (h : Ko K H v a) : Ko K H' v a := by
  have h' : TyX K H v (.type a.nm) := h
  show TyX K H' v (.type a.nm)
  generalize Value.type a.nm = z at h' ⊢
  cases h' with
  | base b =>
    refine .base ?_
    cases b with
    | non => exact .non
    | bl x => exact .bl x
    | int i => exact .int i
    | str x => exact .str x
    | flt x => exact .flt x
    | lst e => exact .lst (s _ _ e)
    | frz e => exact .frz (s _ _ e)
    | tup e => exact .tup (s _ _ e)
    | dK e => exact .dK (s _ _ e)
    | dT e => exact .dT (s _ _ e)
    | ins e cl ha hn htk hm => exact .ins (s _ _ e) cl ha hn htk hm
  | byt b => exact .byt b
  | set e => exact .set (s _ _ e)
  | kList e c => exact .kList e c
  | kTuple e c => exact .kTuple e c
  | kDict e c => exact .kDict e c
  | fTuple e => exact .fTuple (s _ _ e)
  | fDict e => exact .fDict (s _ _ e)
section
variable {P : Program} {w : World} {K : PySem.W.Frag} {mg : Str → Option Value} {base : Heap}
theorem b_isinstance : bootBuiltins "isinstance" = some (.builtin "isinstance") := by decide +kernel
theorem b_int : bootBuiltins "int" = some (.type "int") := by decide +kernel
theorem b_bool : bootBuiltins "bool" = some (.type "bool") := by decide +kernel
theorem b_str : bootBuiltins "str" = some (.type "str") := by decide +kernel
theorem b_tuple : bootBuiltins "tuple" = some (.type "tuple") := by decide +kernel
theorem b_list : bootBuiltins "list" = some (.type "list") := by decide +kernel
/-! ### is_whole -/
def sp_is_whole (K : PySem.W.Frag) : Sp := fun vs H Q _ => ∃ (v : V) (a : Kd), vs = [v] ∧ Ko K H v a ∧ Q (.bl (a == .int)) H
theorem ok_is_whole (T : Txt K mg) : Cal P w K mg base CX0 1 "is_whole" ["thing"] (sp_is_whole K) := by
  obtain ⟨fd, F⟩ := F_is_whole T
  refine cal_mk F (g_is_whole T) sc_is_whole (fun _ _ _ _ _ _ us hl => match us, hl with | [_], _ => rfl) (fun vs H Q E h => ?_) (fun cdv A outer s H vs Q E hr h => ?_)
  · obtain ⟨v, a, rfl, _⟩ := h; rfl
  · refine ⟨_, PSs.nox (pss_one (ps_ret (pe_and (pe_callB call_isB (by rfl) (fr_isinstance T) b_isinstance (pa_cons (pv 0) (pa_cons (pe_ty (fr_int T) b_int) pa_nil)))
      (pe_one (pe_not (pe_callB call_isB (by rfl) (fr_isinstance T) b_isinstance (pa_cons (pv 0) (pa_cons (pe_ty (fr_bool T) b_bool) pa_nil)))))))), ?_⟩
    obtain ⟨v, a, rfl, ko, q⟩ := h
    refine ⟨v, rfl, v, "int", a, rfl, ko, k_int a, _, rfl, ?_⟩
    cases hb : a.is "int" with
    | false =>
      refine iteF ?_
      have : (a == Kd.int) = false := by cases a <;> first | rfl | (exact Bool.noConfusion hb)
      rw [this] at q; exact q
    | true =>
      refine iteT ?_
      refine ⟨v, rfl, v, "bool", a, rfl, ko, k_bool a, _, rfl, ?_⟩
      have : (a == Kd.int) = (!a.is "bool") := by cases a <;> first | rfl | (exact Bool.noConfusion hb)
      rw [this] at q; exact q
/-! ### is_below -/
/-- the int of a value, if it is one -/
def below (v : V) (m : Int) : Bool := match v with
  | .int i => decide (0 ≤ i) && decide (i < m)
  | _ => false
theorem ko_int {K : PySem.W.Frag} {H : Hp} {v : V} (h : Ko K H v .int) : ∃ i, v = .int i := by
  have h' : TyX K H v (.type "int") := h
  generalize hx : Value.type "int" = z at h'
  cases h' with
  | base b => cases b <;> first | exact ⟨_, rfl⟩ | (exfalso; simp at hx)
  | _ => exfalso; simp at hx
theorem ko_notint {K : PySem.W.Frag} {H : Hp} {i : Int} {a : Kd} (h : Ko K H (.int i) a) : a = .int := by
  have h' : TyX K H (.int i) (.type a.nm) := h
  generalize hx : Value.type a.nm = z at h'
  cases h' with
  | base b => cases b; cases a <;> first | rfl | (exfalso; simp [Kd.nm] at hx)
def sp_is_below (K : PySem.W.Frag) : Sp := fun vs H Q _ => ∃ (v : V) (m : Int) (a : Kd), vs = [v, .int m] ∧ Ko K H v a ∧ Q (.bl (below v m)) H
theorem ok_is_below (T : Txt K mg) : Cal P w K mg base CX0 2 "is_below" ["thing", "many"] (sp_is_below K) := by
  obtain ⟨fd, F⟩ := F_is_below T
  refine cal_mk F (g_is_below T) sc_is_below (fun _ _ _ _ _ _ us hl => match us, hl with | [_, _], _ => rfl) (fun vs H Q E h => ?_) (fun cdv A outer s H vs Q E hr h => ?_)
  · obtain ⟨v, m, a, rfl, _⟩ := h; rfl
  · refine ⟨_, PSs.nox (pss_one (ps_ret (pe_and (pe_cal (ok_is_whole T) hr pass0 (pa_cons (pv 0) pa_nil))
      (pe_one (pe_chain op_le op_lt pe_int (pv 0) (pv 1)))))), ?_⟩
    obtain ⟨v, m, a, rfl, ko, q⟩ := h
    refine ⟨v, rfl, v, a, rfl, ko, _, rfl, ?_⟩
    cases hb : (a == Kd.int) with
    | false =>
      refine iteF ?_
      have : below v m = false := by
        cases v <;> first | rfl | (have := ko_notint ko; subst this; exact Bool.noConfusion hb)
      rw [this] at q; exact q
    | true =>
      refine iteT ?_
      have ha : a = .int := by cases a <;> first | rfl | (exact Bool.noConfusion hb)
      subst ha
      obtain ⟨i, rfl⟩ := ko_int ko
      refine ⟨.int i, rfl, 0, i, rfl, rfl, _, rfl, ?_⟩
      have e : below (.int i) m = (decide (0 ≤ i) && decide (i < m)) := rfl
      rw [e] at q
      cases hc : decide ((0 : Int) ≤ i) with
      | false =>
        rw [hc] at q
        exact iteF q
      | true =>
        rw [hc] at q
        refine iteT ⟨.int m, rfl, i, m, rfl, rfl, ?_⟩
        exact q
/-! ### is_listing -/
def sp_is_listing (K : PySem.W.Frag) : Sp := fun vs H Q _ => ∃ (v : V) (a : Kd), vs = [v] ∧ Ko K H v a ∧ ∀ H', Same H H' → Q (.bl (a == .lst || a == .tup)) H'
/-- isinstance(x, (T1, T2)): the tuple laid in the call, of built-in classes -/
def rIsT (K : PySem.W.Frag) : List V → Hp → VK → Prop := fun xs H Q => ∃ (x : V) (tp : Addr) (Ts : List String) (a : Kd), xs = [x, .ref tp] ∧ H tp = some (.tup (Ts.map V.ty)) ∧ Ko K H x a ∧ (∀ t ∈ Ts, kitB a.nm t = some (a.is t)) ∧ Q (.bl (Ts.any a.is)) H
theorem kitAny_ts {K : PySem.W.Frag} {a : Kd} : ∀ {Ts : List String}, (∀ t ∈ Ts, kitB a.nm t = some (a.is t)) → PySem.W.kitAny K (.type a.nm) (Ts.map Value.type) = some (Ts.any a.is)
  | [], _ => rfl
  | t :: Ts, h => by
    refine kitAny_cons (kit_ty (h t (List.mem_cons_self ..))) (fun e => ?_) (fun e => ?_)
    · rw [List.any_cons, e, Bool.false_or]
      exact kitAny_ts fun z hz => h z (List.mem_cons_of_mem _ hz)
    · rw [List.any_cons, e, Bool.true_or]
theorem paired_ts : ∀ {Ts : List String}, Paired ClsV (Ts.map V.ty) (Ts.map Value.type)
  | [] => .nil
  | t :: Ts => .cons (.ty t) paired_ts
theorem call_isT {X : Cx} : CallR X (.builtin "isinstance") (rIsT X.K) := CallR.imp call_isiT fun xs H Q ⟨x, tp, Ts, a, e, ht, ko, kb, q⟩ =>
  ⟨x, tp, _, _, _, _, e, ht, paired_ts, ko, kitAny_ts kb, q⟩
theorem ok_is_listing (T : Txt K mg) : Cal P w K mg base CX0 1 "is_listing" ["thing"] (sp_is_listing K) := by
  obtain ⟨fd, F⟩ := F_is_listing T
  refine cal_mk F (g_is_listing T) sc_is_listing (fun _ _ _ _ _ _ us hl => match us, hl with | [_], _ => rfl) (fun vs H Q E h => ?_) (fun cdv A outer s H vs Q E hr h => ?_)
  · obtain ⟨v, a, rfl, _⟩ := h; rfl
  · refine ⟨_, PSs.nox (pss_one (ps_ret (pe_callB call_isT (by rfl) (fr_isinstance T) b_isinstance (pa_cons (pv 0) (pa_cons (pe_tup (pa_cons (pe_ty (fr_tuple T) b_tuple) (pa_cons (pe_ty (fr_list T) b_list) pa_nil))) pa_nil))))), ?_⟩
    obtain ⟨v, a, rfl, ko, q⟩ := h
    refine ⟨v, rfl, (by show 2 ≤ sizeLine; decide), fun t ht => ⟨v, t, ["tuple", "list"], a, rfl, upd_same, ?_, ?_, ?_⟩⟩
    · exact Ko.same (fun b o hb => by rw [upd_ne (ne_of_none hb ht)]; exact hb) ko
    · intro t ht
      rcases List.mem_cons.mp ht with rfl | ht
      · exact k_tuple a
      · rcases List.mem_cons.mp ht with rfl | ht
        · exact k_list a
        · cases ht
    · have e : (["tuple", "list"].any a.is) = (a == .lst || a == .tup) := by cases a <;> rfl
      rw [e]
      exact q _ fun b o hb => by rw [upd_ne (ne_of_none hb ht)]; exact hb
end
end Kx
set_option Elab.async false
set_option linter.all false
set_option maxRecDepth 100000
set_option maxHeartbeats 1000000
namespace Kx
open PySem PySem.Spec PyProof.Rows L2
/-! ### walks over lists or tuples -/
/-- at a: a list or a tuple of xs -/
def SqS (K : PySem.W.Frag) (H : Hp) (a : Addr) (xs : List V) : Prop := SqL K H a xs ∨ SqT K H a xs
theorem sqS_same {K : PySem.W.Frag} {H H' : Hp} {a : Addr} {xs : List V} (s : Same H H') (h : SqS K H a xs) : SqS K H' a xs := by
  rcases h with h | h
  · exact .inl (s.seq h)
  · right
    rcases h with (h | ⟨o, h⟩) | h
    · exact .inl (.inl (s _ _ h))
    · exact .inl (.inr ⟨o, s _ _ h⟩)
    · exact .inr h
/-- a walk: whatever the iterator, it goes n turns while G holds, giving what Y says -/
def iW (te : TE) (n : V → Hp → Nat) (G : V → Hp → Hp → Prop) (Y : V → Hp → Nat → Hp → V → Hp → Prop) (ok : V → Hp → Prop) : TI := fun σ H R => te σ H fun x H1 => ok x H1 ∧ ∀ J, Walk J (n x H1) (G x H1) (Y x H1) → R J H1
/-- over a list or a tuple -/
def iSeq (K : PySem.W.Frag) (te : TE) : TI := fun σ H R => te σ H fun x H1 => ∃ a xs, x = .ref a ∧ ((SqL K H1 a xs ∧ ∀ J, Walk J xs.length (fun H => SqL K H a xs) (YAt xs) → R J H1) ∨ (SqT K H1 a xs ∧ ∀ J, Walk J xs.length (fun H => SqT K H a xs) (YAt xs) → R J H1))
section
variable {X : Cx} {tg : Expr}
theorem pi_seq {l : Expr} {tl : TE} (hl : PE X l tl) : PI X tg l (iSeq X.K tl) := by
  refine ⟨fun pins s σ H R I h => ?_⟩
  refine thn (hl.run pins s σ H _ I h) fun v s1 ⟨x, H1, I1, r1, a, xs, e, q⟩ => ?_
  subst e
  cases r1
  rcases q with ⟨hq, q⟩ | ⟨hq, q⟩
  · obtain ⟨its, rv, p, hz⟩ := I1.list hq
    refine wpAny_pyIter_list p.isList ?_
    refine ⟨s1.heap.objs.size, [s1.heap.objs.size], _, _, H1, rfl, I1.kept (t' := s1.toks) fun b o e => Heap.get?_push_of_some _ e, turn_list a _, ⟨_, Heap.get?_push_size _ rfl, rfl, rfl⟩, fun b hb => ?_, q _ walk_list⟩
    have e : b = s1.heap.objs.size := by simpa using hb
    subst e
    exact I1.fpOk (Nat.le_refl _) (I1.hok.fresh (Nat.le_refl _))
  · obtain ⟨its, rv, p, hz⟩ := I1.tuple hq
    refine wpAny_pyIter_tuple (show s1.heap.IsTuple a its.toArray from p) ?_
    refine ⟨s1.heap.objs.size, [s1.heap.objs.size], _, _, H1, rfl, I1.kept (t' := s1.toks) fun b o e => Heap.get?_push_of_some _ e, turn_tuple a _, ⟨_, Heap.get?_push_size _ rfl, rfl, rfl⟩, fun b hb => ?_, q _ walk_tup⟩
    have e : b = s1.heap.objs.size := by simpa using hb
    subst e
    exact I1.fpOk (Nat.le_refl _) (I1.hok.fresh (Nat.le_refl _))
end
end Kx
set_option Elab.async false
set_option linter.all false
set_option maxRecDepth 100000
set_option maxHeartbeats 1000000
namespace Kx
open PySem PySem.Spec PyProof.Rows L2
/-! ### what an iterator draws, by what stands in the heap of values -/
/-- at `it` an iterator that draws n things while G holds; the i-th is told by E; own: the iterator's own record -/
structure SrcI (P : Program) (w : World) (K : PySem.W.Frag) (it : Addr) (n : Nat) (G : Hp → Prop) (E : Nat → V → Prop) (own : Nat → Heap → Prop) : Prop where
  obj : ∀ i h, own i h → ∃ o, h.get? it = some o ∧ ∀ v, o.data ≠ .cell v
  keep : ∀ i h h', own i h → (∀ o, h.get? it = some o → h'.get? it = some o) → own i h'
  dr : ∀ (X : Cx), X.prog = P → X.w = w → X.K = K → X.calm = true → ∀ (pins : List (Addr × Obj)) (s : Shared) (σ : L2.St) (H : Hp), Inv X pins σ H s → G H → H it = none →
    ∃ (fs : List Addr) (Pv : Nat → Value → Prop) (Sd : Nat → Heap → Prop), Draws P w X.A.in1 it (it :: fs) n Pv Sd ∧ (∀ b ∈ fs, ∃ o, H b = some o) ∧ (∀ i, own i s.heap → Sd i s.heap) ∧ (∀ i h, Sd i h → own i h) ∧ (∀ i u, Pv i u → ∃ v, RelV v u ∧ E i v)
/-- what a thing that is walked is: a tracked list, a tracked tuple, a text -/
inductive Src : V → Nat → (Hp → Prop) → (Nat → V → Prop) → Prop
  | lst (a : Addr) (xs : List V) : Src (.ref a) xs.length (fun H => H a = some (.lst xs)) (fun i v => xs[i]? = some v)
  | tup (a : Addr) (xs : List V) : Src (.ref a) xs.length (fun H => H a = some (.tup xs)) (fun i v => xs[i]? = some v)
  | txt (z : Str) : Src (.str z) z.cps.size (fun _ => True) (fun i v => ∃ c, z.cps[i]? = some c ∧ v = .str ⟨#[c]⟩)
section
variable {P : Program} {w : World} {K : PySem.W.Frag} {it : Addr}
theorem handled_in1 {A : Around} (h : A.handled = none) : A.in1.handled = none := h
theorem srcI_list (a : Addr) (xs : List V) : SrcI P w K it xs.length (fun H => H a = some (.lst xs)) (fun i v => xs[i]? = some v) (fun i h => h.IsListIter it a i) where
  obj := fun i h ⟨o, ho, hc, hd⟩ => ⟨o, ho, fun v q => by rw [hd] at q; cases q⟩
  keep := fun i h h' st k => st.at k
  dr := by
    intro X hP hw hK hc pins s σ H I hg hn
    subst hP hw hK
    have hq : SqL X.K H a xs := SqL.of hg
    obtain ⟨its, rv, p, hz⟩ := I.list hq
    have hne : a ≠ it := fun z => by rw [z, hn] at hg; cases hg
    have el : its.toArray.size = xs.length := by simp [rv.length]
    refine ⟨[a], _, _, el ▸ Draws.list (handled_in1 (I.ok.hd hc)) it a hne its.toArray, fun b hb => ?_, fun i st => ⟨st, p.isList⟩, fun i h st => st.1, fun i u hu => ?_⟩
    · rw [List.mem_singleton.mp hb]; exact ⟨_, hg⟩
    · have hu' : its[i]? = some u := by simpa using hu
      have hl : i < its.length := (List.getElem?_eq_some_iff.mp hu').1
      have hl2 : i < xs.length := by rw [rv.length]; exact hl
      obtain ⟨u', e1, e2⟩ := rv.get (i := i) (List.getElem?_eq_getElem hl2)
      rw [hu'] at e1
      cases e1
      exact ⟨xs[i], e2, List.getElem?_eq_getElem hl2⟩
theorem srcI_tup (a : Addr) (xs : List V) : SrcI P w K it xs.length (fun H => H a = some (.tup xs)) (fun i v => xs[i]? = some v) (fun i h => h.IsTupleIter it a i) where
  obj := fun i h ⟨o, ho, hc, hd⟩ => ⟨o, ho, fun v q => by rw [hd] at q; cases q⟩
  keep := fun i h h' st k => st.at k
  dr := by
    intro X hP hw hK hc pins s σ H I hg hn
    subst hP hw hK
    have hq : SqT X.K H a xs := SqT.of hg
    obtain ⟨its, rv, p, hz⟩ := I.tuple hq
    have hne : a ≠ it := fun z => by rw [z, hn] at hg; cases hg
    have el : its.toArray.size = xs.length := by simp [rv.length]
    refine ⟨[a], _, _, el ▸ Draws.tuple (handled_in1 (I.ok.hd hc)) it a hne its.toArray, fun b hb => ?_, fun i st => ⟨st, p⟩, fun i h st => st.1, fun i u hu => ?_⟩
    · rw [List.mem_singleton.mp hb]; exact ⟨_, hg⟩
    · have hu' : its[i]? = some u := by simpa using hu
      have hl : i < its.length := (List.getElem?_eq_some_iff.mp hu').1
      have hl2 : i < xs.length := by rw [rv.length]; exact hl
      obtain ⟨u', e1, e2⟩ := rv.get (i := i) (List.getElem?_eq_getElem hl2)
      rw [hu'] at e1
      cases e1
      exact ⟨xs[i], e2, List.getElem?_eq_getElem hl2⟩
theorem srcI_txt (z : Str) (t : Tok) : SrcI P w K it z.cps.size (fun _ => True) (fun i v => ∃ c, z.cps[i]? = some c ∧ v = .str ⟨#[c]⟩) (fun i h => h.IsStrIter it (strIterType z) z t i) where
  obj := fun i h ⟨o, ho, hc, hd⟩ => ⟨o, ho, fun v q => by rw [hd] at q; cases q⟩
  keep := fun i h h' st k => let ⟨o, ho, r⟩ := st; ⟨o, k o ho, r⟩
  dr := by
    intro X hP hw hK hc pins s σ H I hg hn
    subst hP hw hK
    refine ⟨[], _, _, Draws.text (handled_in1 (I.ok.hd hc)) it z t, (fun b hb => absurd hb (by simp)), fun i st => st, fun i h st => st, fun i u hu => ?_⟩
    obtain ⟨c, t', hc', rfl⟩ := hu
    exact ⟨.str ⟨#[c]⟩, ⟨t', rfl⟩, c, hc', rfl⟩
/-- how a walked thing begins -/
theorem src_begins {X : Cx} {pins : List (Addr × Obj)} {s : Shared} {σ : L2.St} {H : Hp} {x : V} {u : Value} {n : Nat} {G : Hp → Prop} {E : Nat → V → Prop} (S : Src x n G E) (I : Inv X pins σ H s) (hg : G H) (r : RelV x u) :
    ∃ (o : Obj) (Hs : Heap → Prop), Begins u o Hs ∧ Hs s.heap ∧ ∀ it, ∃ own, SrcI X.prog X.w X.K it n G E own ∧ ∀ h', h'.get? it = some o → own 0 h' := by
  cases S with
  | lst a xs =>
    cases (show u = Value.ref a from r)
    obtain ⟨its, rv, p, hz⟩ := I.list (SqL.of hg)
    exact ⟨_, _, begins_list a its.toArray, p.isList, fun it => ⟨_, srcI_list a xs, fun h' e => ⟨_, e, rfl, rfl⟩⟩⟩
  | tup a xs =>
    cases (show u = Value.ref a from r)
    obtain ⟨its, rv, p, hz⟩ := I.tuple (SqT.of hg)
    exact ⟨_, _, begins_tuple a its.toArray, p, fun it => ⟨_, srcI_tup a xs, fun h' e => ⟨_, e, rfl, rfl⟩⟩⟩
  | txt z =>
    obtain ⟨t, rfl⟩ := (show ∃ t, u = Value.str z t from r)
    exact ⟨_, _, begins_text z t, trivial, fun it => ⟨_, srcI_txt z t, fun h' e => ⟨_, e, rfl, rfl⟩⟩⟩
end
/-! ### from the library's walks that hand out new tuples to a loop's turns -/
/-- n turns while G holds, each gives a new tuple vs that Y tells -/
def ItN (n : Nat) (G : Hp → Prop) (Y : Nat → List V → Prop) : It :=
  ⟨fun i H => i < n ∧ G H, fun i H v H' => ∃ T vs, v = .ref T ∧ H T = none ∧ H' = upd H T (.tup vs) ∧ Y i vs, fun i H => i = n ∧ G H⟩
def YNew (Y : Nat → List V → Prop) : Nat → Hp → V → Hp → Prop := fun i H v H' => ∃ T vs, v = .ref T ∧ H T = none ∧ H' = upd H T (.tup vs) ∧ Y i vs
theorem walk_new {n : Nat} {G : Hp → Prop} {Y : Nat → List V → Prop} : Walk (ItN n G Y) n G (YNew Y) :=
  ⟨fun i _ hi q => ⟨hi, q⟩, fun _ q => ⟨rfl, q⟩, fun _ _ _ _ _ _ y => y⟩
theorem turn_of {P : Program} {w : World} {K : PySem.W.Frag} {elts : List Expr} {kk : Nat} {tpos : Pos} {e : Addr} {wr : List Addr} {n : Nat} {G : Hp → Prop} {own : Nat → Heap → Prop} {Y : Nat → List V → Prop} (hmem : e ∈ wr) (hY : ∀ i vs, Y i vs → vs.length ≤ sizeLine)
    (obj : ∀ i h, own i h → ∀ b ∈ wr, ∃ o, h.get? b = some o ∧ ∀ v, o.data ≠ .cell v)
    (keep : ∀ i h h', own i h → (∀ b ∈ wr, ∀ o, h.get? b = some o → h'.get? b = some o) → own i h')
    (dr : ∀ (X : Cx), X.prog = P → X.w = w → X.K = K → X.calm = true → ∀ (pins : List (Addr × Obj)) (s : Shared) (σ : L2.St) (H : Hp) (j : Nat), Inv X pins σ H s → (∀ b ∈ wr, H b = none) → own j s.heap → G H →
      ∃ fp wr0 Pt Sd Mid, (∀ b ∈ wr0, b ∈ wr) ∧ WalksT P w X.A e fp wr0 n Pt Sd Mid ∧ (∀ i, own i s.heap → Sd i s.heap) ∧ (∀ i h, Sd i h → own i h) ∧ (∀ i vals, i < n → Pt i vals → ∃ vs, Vals vs vals.toList ∧ Y i vs))
    (self : ∀ (A : Around) (i : Nat) (s : Shared) (Q : Value → Shared → Prop) (E : Value → Shared → Prop), own i s.heap → Q (.ref e) s → wpAny (model P w) A (pyIter (.ref e)) Q E s) :
    Turn P w K (.Tuple elts kk tpos) (ItN n G Y) wr e own where
  mem := hmem
  obj := obj
  keep := keep
  item := by
    intro X hP hw hK hc i pins s σ H E I hf st hg
    obtain ⟨fp, wr0, Pt, St', Mid, sub, W, h1, h2, h3⟩ := dr X hP hw hK hc pins s σ H i I (fun b hb => (hf b hb).1) st hg.2
    subst hP hw hK
    refine W.item i s _ _ hg.1 (h1 i st) fun T vals h' tk hp hT hTup hm fr => ?_
    refine ⟨_, rfl, W.go elts kk tpos i T { s with heap := h', toks := tk } _ _ hm fun h'' st2 fr2 => ?_⟩
    obtain ⟨vs, rv, hy⟩ := h3 i vals hg.1 hp
    have hTw : T ∉ wr := fun z => by
      obtain ⟨o, q, _⟩ := obj i s.heap st T z
      exact absurd (Heap.lt_size q) (Nat.not_lt.mpr hT)
    obtain ⟨oT, hTo, hTc, nT, hTd⟩ := hTup
    have hT2 : h''.get? T = some oT := fr2 T oT (fun z => hTw (sub T z)) hTo
    have new : ObjOk X.prog X.w (upd H T (.tup vs)) h'' T (.tup vs) := ⟨hY i vs hy, vals.toList, rv, ⟨oT, hT2, hTc, nT, by simpa using hTd⟩⟩
    have I1 : Inv X pins σ (upd H T (.tup vs)) { s with heap := h'', toks := tk } :=
      I.turnedNew (ch := wr) (fun b o hb q => fr2 b o (fun z => hb (sub b z)) (fr b o (fun z => hb (sub b z)) q)) hf hT new
    have nT : ∀ b ∈ wr, b ≠ T := fun b hb z => hTw (z ▸ hb)
    exact ⟨.ref T, _, I1, rfl, ⟨T, vs, rfl, I.hok.fresh hT, rfl, hy⟩, h2 _ _ st2, fun b hb => by rw [upd_ne (nT b hb)]; exact (hf b hb).1⟩
  done := by
    intro X hP hw hK hc i pins s σ H E I hf st hg
    obtain ⟨e1, hg⟩ := hg
    subst e1
    obtain ⟨fp, wr0, Pt, St', Mid, sub, W, h1, h2, h3⟩ := dr X hP hw hK hc pins s σ H i I (fun b hb => (hf b hb).1) st hg
    subst hP hw hK
    exact W.done s _ _ (h1 i st) fun h' tk fr => ⟨rfl, I.turnedL (ch := wr) (fun b o hb q => fr b o (fun z => hb (sub b z)) q) hf⟩
  self := self
end Kx
set_option Elab.async false
set_option linter.all false
set_option maxRecDepth 100000
set_option maxHeartbeats 2000000
namespace PySem
open Sem (wp)
/-- enumerate(v), v anything that begins -/
theorem meets_enumerate_new1B {v : Value} {o : Obj} {H : Heap → Prop} (B : Begins v o H) :
    Meets (Builtin.«enumerate.__new__» ⟨[.type "enumerate", v], []⟩) (fun _ R s => H s.heap ∧
      R (.ok (.ret (.ref (s.heap.push o).objs.size))) { s with heap := (s.heap.push o).push { cls := .type "enumerate", data := .fields #[.none, .bool false, .ref s.heap.objs.size, rawInt 0, .none, .none] } }) :=
  .of_wp fun prog w A R s h => by
    obtain ⟨hp, g, d, tk, os⟩ := s; obtain ⟨h1, h⟩ := h
    have hsub := sub_enumerate
    have q1 : ∀ {A' : Around} {E : Value → Shared → Prop} {Q : Value → Shared → Prop}, Q (.ref hp.objs.size) ⟨hp.push o, g, d, tk, os⟩ → wpAny (model prog w) A' (pyIter v) Q E ⟨hp, g, d, tk, os⟩ :=
      fun q => B.iter prog w _ _ ⟨hp, g, d, tk, os⟩ _ h1 q
    wp_walk using q1
    refine wpAny_stack_any fun st => wpAny_pure ?_
    split
    · rename_i c _ _ _ _ _
      cases (c == Value.type "enumerate")
      · wp_walk using q1
        exact ⟨_, rfl, h⟩
      · wp_walk using q1
        exact ⟨_, rfl, h⟩
    · wp_walk using q1
      exact ⟨_, rfl, h⟩
section
variable {prog : Program} {w : World} {A : Around} {E : Value → Shared → Prop} {s : Shared}
theorem enum_begins1 {v : Value} {o : Obj} {H : Heap → Prop} {Q : Value → Shared → Prop} (B : Begins v o H) (h1 : H s.heap)
    (h : ∀ h', IsEnum h' (s.heap.objs.size + 1) s.heap.objs.size 0 .none → h'.get? s.heap.objs.size = some o →
      (∀ b o, s.heap.get? b = some o → h'.get? b = some o) → Q (.ref (s.heap.objs.size + 1)) { s with heap := h' }) :
    wpAny (model prog w) A (call (.type "enumerate") [v]) Q E s := by
  refine callType_new F.called_enumerate (by decide) (F.typeCall_enumerate_1 _) (F.newCall_enumerate_1 _) (fun obj => F.args_object_init_2 obj _) F.entry_enumerate_new
    (meets_enumerate_new1B B) ⟨h1, ?_⟩
  have hz : (s.heap.push o).objs.size = s.heap.objs.size + 1 := Heap.size_push ..
  show _ ∧ _
  rw [hz]
  have he : IsEnum ((s.heap.push o).push { cls := .type "enumerate", data := .fields #[.none, .bool false, .ref s.heap.objs.size, rawInt 0, .none, .none] }) (s.heap.objs.size + 1) s.heap.objs.size 0 .none := by
    have := Heap.get?_push_size (s.heap.push o) (o := { cls := .type "enumerate", data := .fields #[.none, .bool false, .ref s.heap.objs.size, rawInt 0, .none, .none] }) rfl
    rw [hz] at this; exact this
  exact ⟨⟨_, he, rfl⟩, h _ he (Heap.get?_push_of_some _ (Heap.get?_push_size _ B.free)) fun b o x => Heap.get?_push_of_some _ (Heap.get?_push_of_some _ x)⟩
end
end PySem
namespace Kx
open PySem PySem.Spec PyProof.Rows L2
def YEn (E : Nat → V → Prop) : Nat → List V → Prop := fun i vs => ∃ y, vs = [.int (i : Nat), y] ∧ E i y
def YZ2 (E1 E2 : Nat → V → Prop) : Nat → List V → Prop := fun i vs => ∃ x y, vs = [x, y] ∧ E1 i x ∧ E2 i y
def YZ3 (E1 E2 E3 : Nat → V → Prop) : Nat → List V → Prop := fun i vs => ∃ x y z, vs = [x, y, z] ∧ E1 i x ∧ E2 i y ∧ E3 i z
theorem small3 {vs : List V} (h : vs.length ≤ 3) : vs.length ≤ sizeLine := Nat.le_trans h (by decide)
/-- enumerate(v) -/
def iEnumS (ta : TA) : TI := fun σ H R => ta σ H fun vs H1 => ∃ x n G E, vs = [x] ∧ Src x n G E ∧ G H1 ∧ R (ItN n G (YEn E)) H1
/-- zip(v1, v2), zip(v1, v2, v3) -/
def iZip2S (ta : TA) : TI := fun σ H R => ta σ H fun vs H1 => ∃ x1 n1 G1 E1 x2 n2 G2 E2, vs = [x1, x2] ∧ Src x1 n1 G1 E1 ∧ Src x2 n2 G2 E2 ∧ G1 H1 ∧ G2 H1 ∧ R (ItN (min n1 n2) (fun H => G1 H ∧ G2 H) (YZ2 E1 E2)) H1
def iZip3S (ta : TA) : TI := fun σ H R => ta σ H fun vs H1 => ∃ x1 n1 G1 E1 x2 n2 G2 E2 x3 n3 G3 E3, vs = [x1, x2, x3] ∧ Src x1 n1 G1 E1 ∧ Src x2 n2 G2 E2 ∧ Src x3 n3 G3 E3 ∧ G1 H1 ∧ G2 H1 ∧ G3 H1 ∧
  R (ItN (min (min n1 n2) n3) (fun H => G1 H ∧ G2 H ∧ G3 H) (YZ3 E1 E2 E3)) H1
section
variable {X : Cx}
theorem cell_ne {h : Heap} {b : Addr} {o : Obj} (hb : h.get? b = some o) (hd : ∀ v, o.data ≠ .cell v) : ∃ o, h.get? b = some o ∧ ∀ v, o.data ≠ .cell v := ⟨o, hb, hd⟩
theorem turn_enumS {P : Program} {w : World} {K : PySem.W.Frag} {elts : List Expr} {kk : Nat} {tpos : Pos} {e it : Addr} {n : Nat} {G : Hp → Prop} {E : Nat → V → Prop} {own : Nat → Heap → Prop} (hne : e ≠ it) (S : SrcI P w K it n G E own) :
    Turn P w K (.Tuple elts kk tpos) (ItN n G (YEn E)) [e, it] e (fun i h => (∃ old, IsEnum h e it (0 + ((i : Nat) : Int)) old) ∧ own i h) := by
  refine turn_of (by simp) (fun i vs ⟨y, e, _⟩ => by rw [e]; exact small3 (by simp)) (fun i h st b hb => ?_) (fun i h h' st k => ?_) (fun X hP hw hK hc pins s σ H j I hn st hg => ?_) (fun A i s Q E st h => ?_)
  · obtain ⟨⟨old, he⟩, ho⟩ := st
    have e' : b = e ∨ b = it := by simpa using hb
    rcases e' with z | z
    · rw [z]; exact ⟨_, he, fun v q => nomatch q⟩
    · rw [z]; exact S.obj i h ho
  · obtain ⟨⟨old, he⟩, ho⟩ := st
    exact ⟨⟨old, k e (by simp) _ he⟩, S.keep i h h' ho fun o q => k it (by simp) o q⟩
  · obtain ⟨fs, Pv, Sd, D, hf, h1, h2, h3⟩ := S.dr X hP hw hK hc pins s σ H I hg (hn it (by simp))
    have hef : e ∉ it :: fs := fun hm => by
      rcases List.mem_cons.mp hm with z | z
      · exact hne z
      · obtain ⟨o, q⟩ := hf e z
        rw [hn e (by simp)] at q
        cases q
    refine ⟨_, _, _, _, _, fun b hb => hb, WalksT.enumFrom 0 D e hne hef (List.mem_cons_self ..), fun i st => ⟨st.1, h1 i st.2⟩, fun i h st => ⟨st.1, h2 i h st.2⟩, fun i vals hi hv => ?_⟩
    obtain ⟨t, x, hx, rfl⟩ := hv
    obtain ⟨v, rv, ev⟩ := h3 i x hx
    refine ⟨[.int (i : Nat), v], .cons ⟨t, ?_⟩ (.cons rv .nil), v, rfl, ev⟩
    rw [Int.zero_add]
  · obtain ⟨⟨old, he⟩, ho⟩ := st
    exact wpAny_pyIter_enum he h
theorem pi_enumS {e : Expr} {ta : TA} {p pos tpos : Pos} {elts : List Expr} {kk : Nat} (hg : Gl X "enumerate") (hm : X.mg "enumerate" = none) (ha : PA X [e] ta) (hs : starEach [e] X.env = [(false, eval e X.env)] := by rfl) :
    PI X (.Tuple elts kk tpos) (.Call (.Name "enumerate" p) [e] [] pos) (iEnumS ta) := by
  refine ⟨fun pins s σ H R I h => ?_⟩
  refine Call_ (ld_blt I hg hm boot_enumerate (PyProof.Rows.callWith_type1 (thn (ha.run pos pins s σ H _ I h) fun us s1 ⟨vs, H1, I1, r1, q1⟩ => ?_) hs rfl))
  obtain ⟨x, n, G, E, ex, S, hg1, q⟩ := q1
  subst ex
  cases r1 with
  | cons r rr =>
    cases rr
    obtain ⟨o, Hs, B, b1, hown⟩ := src_begins S I1 hg1 r
    obtain ⟨own, SI, hst⟩ := hown s1.heap.objs.size
    refine enum_begins1 B b1 fun h' he hit hk => wpAny_pyIter_enum he ?_
    have I2 : Inv X pins σ H1 { s1 with heap := h' } := I1.kept (t' := s1.toks) hk
    refine ⟨s1.heap.objs.size + 1, [s1.heap.objs.size + 1, s1.heap.objs.size], _, _, H1, rfl, I2, turn_enumS (Nat.succ_ne_self _) SI, ⟨⟨.none, by rw [show (0 : Int) + ((0 : Nat) : Int) = 0 from rfl]; exact he⟩, hst h' hit⟩, fun b hb => ?_, q⟩
    have e' : b = s1.heap.objs.size + 1 ∨ b = s1.heap.objs.size := by simpa using hb
    have hle : s1.heap.objs.size ≤ b := by
      rcases e' with z | z
      · rw [z]; exact Nat.le_add_right _ _
      · rw [z]; exact Nat.le_refl _
    exact I1.fpOk hle (I1.hok.fresh hle)
theorem mem2 {b x y : Addr} {l : List Addr} (h : b ∈ x :: y :: l) : b = x ∨ b = y ∨ b ∈ l := by simpa using h
theorem turn_zip2S {P : Program} {w : World} {K : PySem.W.Frag} {elts : List Expr} {kk : Nat} {tpos : Pos} {z TI TO i1 i2 : Addr} {n1 n2 : Nat} {G1 G2 : Hp → Prop} {E1 E2 : Nat → V → Prop} {own1 own2 : Nat → Heap → Prop}
    (d : [z, TI, TO, i1, i2].Nodup) (S1 : SrcI P w K i1 n1 G1 E1 own1) (S2 : SrcI P w K i2 n2 G2 E2 own2) :
    Turn P w K (.Tuple elts kk tpos) (ItN (min n1 n2) (fun H => G1 H ∧ G2 H) (YZ2 E1 E2)) [z, TI, TO, i1, i2] z
      (fun i h => IsZip h z TI TO .none ∧ IsTupOf2 h TI (.ref i1) (.ref i2) ∧ (∃ a1 a2, IsTupOf2 h TO a1 a2) ∧ own1 i h ∧ own2 i h) := by
  simp only [List.nodup_cons, List.mem_cons, List.not_mem_nil, or_false, not_or, not_false_eq_true, List.nodup_nil, and_true] at d
  obtain ⟨⟨d1, d2, d3, d4⟩, ⟨d5, d6, d7⟩, ⟨d8, d9⟩, d10⟩ := d
  refine turn_of (by simp) (fun i vs ⟨x, y, e, _⟩ => by rw [e]; exact small3 (by simp)) (fun i h st b hb => ?_) (fun i h h' st k => ?_) (fun X hP hw hK hc pins s σ H j I hn st hg => ?_) (fun A i s Q E st h => ?_)
  · obtain ⟨hz, hTI, ⟨a1, a2, hTO⟩, o1, o2⟩ := st
    have e' : b = z ∨ b = TI ∨ b = TO ∨ b = i1 ∨ b = i2 := by simpa using hb
    rcases e' with q | q | q | q | q
    · rw [q]; exact ⟨_, hz, fun v q => nomatch q⟩
    · rw [q]; exact ⟨_, hTI, fun v q => nomatch q⟩
    · rw [q]; exact ⟨_, hTO, fun v q => nomatch q⟩
    · rw [q]; exact S1.obj i h o1
    · rw [q]; exact S2.obj i h o2
  · obtain ⟨hz, hTI, ⟨a1, a2, hTO⟩, o1, o2⟩ := st
    exact ⟨k z (by simp) _ hz, k TI (by simp) _ hTI, ⟨a1, a2, k TO (by simp) _ hTO⟩, S1.keep i h h' o1 fun o q => k i1 (by simp) o q, S2.keep i h h' o2 fun o q => k i2 (by simp) o q⟩
  · obtain ⟨f1, Pv1, Sd1, D1, hf1, a1, b1, c1⟩ := S1.dr X hP hw hK hc pins s σ H I hg.1 (hn i1 (by simp))
    obtain ⟨f2, Pv2, Sd2, D2, hf2, a2, b2, c2⟩ := S2.dr X hP hw hK hc pins s σ H I hg.2 (hn i2 (by simp))
    have no : ∀ {b : Addr} {fs : List Addr}, H b = none → (∀ b ∈ fs, ∃ o, H b = some o) → b ∉ fs := fun {b fs} h hf hm => by
      obtain ⟨o, q⟩ := hf b hm
      rw [h] at q; cases q
    have nc : ∀ {b c : Addr} {fs : List Addr}, b ≠ c → H b = none → (∀ b ∈ fs, ∃ o, H b = some o) → b ∉ c :: fs := fun {b c fs} h1 h2 h3 hm => (List.mem_cons.mp hm).elim h1 (no h2 h3)
    have SP : ZipSep2 z TI TO i1 i2 (i1 :: f1) (i2 :: f2) := {
      TIz := Ne.symm d1, TOz := Ne.symm d2, TITO := d5, TIi1 := d6, mem1 := List.mem_cons_self .., zf1 := nc d3 (hn z (by simp)) hf1, Tf1 := nc d8 (hn TO (by simp)) hf1,
      TIi2 := d7, mem2 := List.mem_cons_self .., zf2 := nc d4 (hn z (by simp)) hf2, Tf2 := nc d9 (hn TO (by simp)) hf2, sep1_2 := nc d10 (hn i1 (by simp)) hf2, sep2_1 := nc (Ne.symm d10) (hn i2 (by simp)) hf1 }
    refine ⟨_, _, _, _, _, (fun b hb => ?_), WalksT.zipD2 SP D1 D2, fun i st => ⟨st.1, st.2.1, st.2.2.1, a1 i st.2.2.2.1, a2 i st.2.2.2.2⟩, fun i h st => ⟨st.1, st.2.1, st.2.2.1, b1 i h st.2.2.2.1, b2 i h st.2.2.2.2⟩, fun i vals hi hv => ?_⟩
    · have e' : b = z ∨ b = TO ∨ b = i1 ∨ b = i2 := by simpa using hb
      rcases e' with q | q | q | q <;> rw [q] <;> simp
    · obtain ⟨x, y, hx, hy, rfl⟩ := hv
      obtain ⟨v1, r1, e1⟩ := c1 i x hx
      obtain ⟨v2, r2, e2⟩ := c2 i y hy
      exact ⟨[v1, v2], .cons r1 (.cons r2 .nil), v1, v2, rfl, e1, e2⟩
  · obtain ⟨hz, _⟩ := st
    exact wpAny_pyIter_zip hz h
theorem turn_zip3S {P : Program} {w : World} {K : PySem.W.Frag} {elts : List Expr} {kk : Nat} {tpos : Pos} {z TI TO i1 i2 i3 : Addr} {n1 n2 n3 : Nat} {G1 G2 G3 : Hp → Prop} {E1 E2 E3 : Nat → V → Prop} {own1 own2 own3 : Nat → Heap → Prop}
    (d : [z, TI, TO, i1, i2, i3].Nodup) (S1 : SrcI P w K i1 n1 G1 E1 own1) (S2 : SrcI P w K i2 n2 G2 E2 own2) (S3 : SrcI P w K i3 n3 G3 E3 own3) :
    Turn P w K (.Tuple elts kk tpos) (ItN (min (min n1 n2) n3) (fun H => G1 H ∧ G2 H ∧ G3 H) (YZ3 E1 E2 E3)) [z, TI, TO, i1, i2, i3] z
      (fun i h => IsZip h z TI TO .none ∧ IsTupOf3 h TI (.ref i1) (.ref i2) (.ref i3) ∧ (∃ a1 a2 a3, IsTupOf3 h TO a1 a2 a3) ∧ own1 i h ∧ own2 i h ∧ own3 i h) := by
  simp only [List.nodup_cons, List.mem_cons, List.not_mem_nil, or_false, not_or, not_false_eq_true, List.nodup_nil, and_true] at d
  obtain ⟨⟨d1, d2, d3, d4, d5⟩, ⟨d6, d7, d8, d9⟩, ⟨d10, d11, d12⟩, ⟨d13, d14⟩, d15⟩ := d
  refine turn_of (by simp) (fun i vs ⟨x, y, z, e, _⟩ => by rw [e]; exact small3 (by simp)) (fun i h st b hb => ?_) (fun i h h' st k => ?_) (fun X hP hw hK hc pins s σ H j I hn st hg => ?_) (fun A i s Q E st h => ?_)
  · obtain ⟨hz, hTI, ⟨a1, a2, a3, hTO⟩, o1, o2, o3⟩ := st
    have e' : b = z ∨ b = TI ∨ b = TO ∨ b = i1 ∨ b = i2 ∨ b = i3 := by simpa using hb
    rcases e' with q | q | q | q | q | q
    · rw [q]; exact ⟨_, hz, fun v q => nomatch q⟩
    · rw [q]; exact ⟨_, hTI, fun v q => nomatch q⟩
    · rw [q]; exact ⟨_, hTO, fun v q => nomatch q⟩
    · rw [q]; exact S1.obj i h o1
    · rw [q]; exact S2.obj i h o2
    · rw [q]; exact S3.obj i h o3
  · obtain ⟨hz, hTI, ⟨a1, a2, a3, hTO⟩, o1, o2, o3⟩ := st
    exact ⟨k z (by simp) _ hz, k TI (by simp) _ hTI, ⟨a1, a2, a3, k TO (by simp) _ hTO⟩, S1.keep i h h' o1 fun o q => k i1 (by simp) o q, S2.keep i h h' o2 fun o q => k i2 (by simp) o q, S3.keep i h h' o3 fun o q => k i3 (by simp) o q⟩
  · obtain ⟨f1, Pv1, Sd1, D1, hf1, a1, b1, c1⟩ := S1.dr X hP hw hK hc pins s σ H I hg.1 (hn i1 (by simp))
    obtain ⟨f2, Pv2, Sd2, D2, hf2, a2, b2, c2⟩ := S2.dr X hP hw hK hc pins s σ H I hg.2.1 (hn i2 (by simp))
    obtain ⟨f3, Pv3, Sd3, D3, hf3, a3, b3, c3⟩ := S3.dr X hP hw hK hc pins s σ H I hg.2.2 (hn i3 (by simp))
    have no : ∀ {b : Addr} {fs : List Addr}, H b = none → (∀ b ∈ fs, ∃ o, H b = some o) → b ∉ fs := fun {b fs} h hf hm => by
      obtain ⟨o, q⟩ := hf b hm
      rw [h] at q; cases q
    have nc : ∀ {b c : Addr} {fs : List Addr}, b ≠ c → H b = none → (∀ b ∈ fs, ∃ o, H b = some o) → b ∉ c :: fs := fun {b c fs} h1 h2 h3 hm => (List.mem_cons.mp hm).elim h1 (no h2 h3)
    have hZ := hn z (by simp)
    have hO := hn TO (by simp)
    have h1 := hn i1 (by simp)
    have h2 := hn i2 (by simp)
    have h3 := hn i3 (by simp)
    have SP : ZipSep3 z TI TO i1 i2 i3 (i1 :: f1) (i2 :: f2) (i3 :: f3) := {
      TIz := Ne.symm d1, TOz := Ne.symm d2, TITO := d6, TIi1 := d7, mem1 := List.mem_cons_self .., zf1 := nc d3 hZ hf1, Tf1 := nc d10 hO hf1,
      TIi2 := d8, mem2 := List.mem_cons_self .., zf2 := nc d4 hZ hf2, Tf2 := nc d11 hO hf2,
      TIi3 := d9, mem3 := List.mem_cons_self .., zf3 := nc d5 hZ hf3, Tf3 := nc d12 hO hf3,
      sep1_2 := nc d13 h1 hf2, sep1_3 := nc d14 h1 hf3, sep2_1 := nc (Ne.symm d13) h2 hf1, sep2_3 := nc d15 h2 hf3, sep3_1 := nc (Ne.symm d14) h3 hf1, sep3_2 := nc (Ne.symm d15) h3 hf2 }
    refine ⟨_, _, _, _, _, (fun b hb => ?_), WalksT.zipD3 SP D1 D2 D3, fun i st => ⟨st.1, st.2.1, st.2.2.1, a1 i st.2.2.2.1, a2 i st.2.2.2.2.1, a3 i st.2.2.2.2.2⟩, fun i h st => ⟨st.1, st.2.1, st.2.2.1, b1 i h st.2.2.2.1, b2 i h st.2.2.2.2.1, b3 i h st.2.2.2.2.2⟩, fun i vals hi hv => ?_⟩
    · have e' : b = z ∨ b = TO ∨ b = i1 ∨ b = i2 ∨ b = i3 := by simpa using hb
      rcases e' with q | q | q | q | q <;> rw [q] <;> simp
    · obtain ⟨x, y, u, hx, hy, hu, rfl⟩ := hv
      obtain ⟨v1, r1, e1⟩ := c1 i x hx
      obtain ⟨v2, r2, e2⟩ := c2 i y hy
      obtain ⟨v3, r3, e3⟩ := c3 i u hu
      exact ⟨[v1, v2, v3], .cons r1 (.cons r2 (.cons r3 .nil)), v1, v2, v3, rfl, e1, e2, e3⟩
  · obtain ⟨hz, _⟩ := st
    exact wpAny_pyIter_zip hz h
theorem pi_zip2S {e e2 : Expr} {ta : TA} {p pos tpos : Pos} {elts : List Expr} {kk : Nat} (hg : Gl X "zip") (hm : X.mg "zip" = none) (ha : PA X [e, e2] ta)
    (hs : starEach [e, e2] X.env = (false, eval e X.env) :: starEach [e2] X.env := by rfl) (hpl : (backTo pos (starEach [e2] X.env)).any (·.1) = false := by rfl) :
    PI X (.Tuple elts kk tpos) (.Call (.Name "zip" p) [e, e2] [] pos) (iZip2S ta) := by
  refine ⟨fun pins s σ H R I h => ?_⟩
  refine Call_ (ld_blt I hg hm boot_zip (PyProof.Rows.callWith_type1 (thn (ha.run pos pins s σ H _ I h) fun us s1 ⟨vs, H1, I1, r1, q1⟩ => ?_) hs hpl))
  obtain ⟨x1, n1, G1, E1, x2, n2, G2, E2, ex, S1, S2, hg1, hg2, q⟩ := q1
  subst ex
  cases r1 with
  | cons r rr =>
    cases rr with
    | cons r2 rr2 =>
      cases rr2
      obtain ⟨o1, Hs1, B1, b1, hown1⟩ := src_begins S1 I1 hg1 r
      obtain ⟨o2, Hs2, B2, b2, hown2⟩ := src_begins S2 I1 hg2 r2
      obtain ⟨own1, SI1, hst1⟩ := hown1 s1.heap.objs.size
      obtain ⟨own2, SI2, hst2⟩ := hown2 (s1.heap.objs.size + 1)
      refine zip_begins2 B1 B2 b1 b2 fun h' hz hTI hTO h1 h2 hsz hk => wpAny_pyIter_zip hz ?_
      have I2 : Inv X pins σ H1 { s1 with heap := h' } := I1.kept (t' := s1.toks) hk
      refine ⟨s1.heap.objs.size + 4, [s1.heap.objs.size + 4, s1.heap.objs.size + 2, s1.heap.objs.size + 3, s1.heap.objs.size, s1.heap.objs.size + 1], _, _, H1, rfl, I2, turn_zip2S (by simp) SI1 SI2, ⟨hz, hTI, ⟨_, _, hTO⟩, hst1 h' h1, hst2 h' h2⟩, fun b hb => ?_, q⟩
      have hle : s1.heap.objs.size ≤ b := by
        have e' : b = s1.heap.objs.size + 4 ∨ b = s1.heap.objs.size + 2 ∨ b = s1.heap.objs.size + 3 ∨ b = s1.heap.objs.size ∨ b = s1.heap.objs.size + 1 := by simpa using hb
        rcases e' with q | q | q | q | q <;> (rw [q]; first | exact Nat.le_add_right _ _ | exact Nat.le_refl _)
      exact I1.fpOk hle (I1.hok.fresh hle)
theorem pi_zip3S {e e2 e3 : Expr} {ta : TA} {p pos tpos : Pos} {elts : List Expr} {kk : Nat} (hg : Gl X "zip") (hm : X.mg "zip" = none) (ha : PA X [e, e2, e3] ta)
    (hs : starEach [e, e2, e3] X.env = (false, eval e X.env) :: starEach [e2, e3] X.env := by rfl) (hpl : (backTo pos (starEach [e2, e3] X.env)).any (·.1) = false := by rfl) :
    PI X (.Tuple elts kk tpos) (.Call (.Name "zip" p) [e, e2, e3] [] pos) (iZip3S ta) := by
  refine ⟨fun pins s σ H R I h => ?_⟩
  refine Call_ (ld_blt I hg hm boot_zip (PyProof.Rows.callWith_type1 (thn (ha.run pos pins s σ H _ I h) fun us s1 ⟨vs, H1, I1, r1, q1⟩ => ?_) hs hpl))
  obtain ⟨x1, n1, G1, E1, x2, n2, G2, E2, x3, n3, G3, E3, ex, S1, S2, S3, hg1, hg2, hg3, q⟩ := q1
  subst ex
  cases r1 with
  | cons r rr =>
    cases rr with
    | cons r2 rr2 =>
      cases rr2 with
      | cons r3 rr3 =>
        cases rr3
        obtain ⟨o1, Hs1, B1, b1, hown1⟩ := src_begins S1 I1 hg1 r
        obtain ⟨o2, Hs2, B2, b2, hown2⟩ := src_begins S2 I1 hg2 r2
        obtain ⟨o3, Hs3, B3, b3, hown3⟩ := src_begins S3 I1 hg3 r3
        obtain ⟨own1, SI1, hst1⟩ := hown1 s1.heap.objs.size
        obtain ⟨own2, SI2, hst2⟩ := hown2 (s1.heap.objs.size + 1)
        obtain ⟨own3, SI3, hst3⟩ := hown3 (s1.heap.objs.size + 2)
        refine zip_begins3 B1 B2 B3 b1 b2 b3 fun h' hz hTI hTO h1 h2 h3 hsz hk => wpAny_pyIter_zip hz ?_
        have I2 : Inv X pins σ H1 { s1 with heap := h' } := I1.kept (t' := s1.toks) hk
        refine ⟨s1.heap.objs.size + 5, [s1.heap.objs.size + 5, s1.heap.objs.size + 3, s1.heap.objs.size + 4, s1.heap.objs.size, s1.heap.objs.size + 1, s1.heap.objs.size + 2], _, _, H1, rfl, I2, turn_zip3S (by simp) SI1 SI2 SI3, ⟨hz, hTI, ⟨_, _, _, hTO⟩, hst1 h' h1, hst2 h' h2, hst3 h' h3⟩, fun b hb => ?_, q⟩
        have hle : s1.heap.objs.size ≤ b := by
          have e' : b = s1.heap.objs.size + 5 ∨ b = s1.heap.objs.size + 3 ∨ b = s1.heap.objs.size + 4 ∨ b = s1.heap.objs.size ∨ b = s1.heap.objs.size + 1 ∨ b = s1.heap.objs.size + 2 := by simpa using hb
          rcases e' with q | q | q | q | q | q <;> (rw [q]; first | exact Nat.le_add_right _ _ | exact Nat.le_refl _)
        exact I1.fpOk hle (I1.hok.fresh hle)
end
end Kx
set_option Elab.async false
set_option linter.all false
set_option maxRecDepth 100000
set_option maxHeartbeats 1000000
namespace Kx
open PySem PySem.Spec PyProof.Rows L2
/-! ### data -/
/-- tuples stay -/
def Tups (H H' : Hp) : Prop := ∀ b xs, H b = some (.tup xs) → H' b = some (.tup xs)
theorem Same.tups {H H' : Hp} (s : Same H H') : Tups H H' := fun b xs e => s b _ e
theorem Tups.refl (H : Hp) : Tups H H := fun _ _ h => h
theorem Tups.trans {H H1 H2 : Hp} (a : Tups H H1) (b : Tups H1 H2) : Tups H H2 := fun c o h => b c o (a c o h)
theorem tups_upd {H : Hp} {D : Addr} {o o' : HO} (e : H D = some o) (ho : ∀ xs, o ≠ .tup xs) : Tups H (upd H D o') := fun b xs hb => by
  rw [upd_ne (fun z => by rw [z, e] at hb; exact ho xs (Option.some.inj hb))]
  exact hb
theorem tups_upd_none {H : Hp} {D : Addr} {o' : HO} (e : H D = none) : Tups H (upd H D o') := fun b xs hb => by
  rw [upd_ne (ne_of_none hb e)]
  exact hb
mutual
/-- data of tuples alone -/
inductive Rt (H : Hp) : V → PyData → Prop
  | non : Rt H .non .none
  | bl (b : Bool) : Rt H (.bl b) (.bool b)
  | int (i : Int) : Rt H (.int i) (.int i)
  | str (z : Str) : Rt H (.str z) (.str z)
  | tup {a : Addr} {xs : List V} {ds : List PyData} : H a = some (.tup xs) → RtL H xs ds → Rt H (.ref a) (.tuple ds)
inductive RtL (H : Hp) : List V → List PyData → Prop
  | nil : RtL H [] []
  | cons {v : V} {vs : List V} {d : PyData} {ds : List PyData} : Rt H v d → RtL H vs ds → RtL H (v :: vs) (d :: ds)
end
mutual
/-- data as it is passed -/
inductive Rp (H : Hp) : V → PyData → Prop
  | non : Rp H .non .none
  | bl (b : Bool) : Rp H (.bl b) (.bool b)
  | int (i : Int) : Rp H (.int i) (.int i)
  | str (z : Str) : Rp H (.str z) (.str z)
  | lst {a : Addr} {xs : List V} {ds : List PyData} : H a = some (.lst xs) → RpL H xs ds → Rp H (.ref a) (.list ds)
  | tup {a : Addr} {xs : List V} {ds : List PyData} : H a = some (.tup xs) → RpL H xs ds → Rp H (.ref a) (.tuple ds)
  | dct {a : Addr} : H a = some (.dK []) → Rp H (.ref a) (.dict [])
inductive RpL (H : Hp) : List V → List PyData → Prop
  | nil : RpL H [] []
  | cons {v : V} {vs : List V} {d : PyData} {ds : List PyData} : Rp H v d → RpL H vs ds → RpL H (v :: vs) (d :: ds)
end
mutual
theorem Rt.tups {H H' : Hp} (s : Tups H H') : ∀ {v : V} {d : PyData}, Rt H v d → Rt H' v d
  | _, _, .non => .non
  | _, _, .bl b => .bl b
  | _, _, .int i => .int i
  | _, _, .str z => .str z
  | _, _, .tup e h => .tup (s _ _ e) (RtL.tups s h)
theorem RtL.tups {H H' : Hp} (s : Tups H H') : ∀ {vs : List V} {ds : List PyData}, RtL H vs ds → RtL H' vs ds
  | _, _, .nil => .nil
  | _, _, .cons h hs => .cons (Rt.tups s h) (RtL.tups s hs)
end
mutual
theorem Rp.same {H H' : Hp} (s : Same H H') : ∀ {v : V} {d : PyData}, Rp H v d → Rp H' v d
  | _, _, .non => .non
  | _, _, .bl b => .bl b
  | _, _, .int i => .int i
  | _, _, .str z => .str z
  | _, _, .lst e h => .lst (s _ _ e) (RpL.same s h)
  | _, _, .tup e h => .tup (s _ _ e) (RpL.same s h)
  | _, _, .dct e => .dct (s _ _ e)
theorem RpL.same {H H' : Hp} (s : Same H H') : ∀ {vs : List V} {ds : List PyData}, RpL H vs ds → RpL H' vs ds
  | _, _, .nil => .nil
  | _, _, .cons h hs => .cons (Rp.same s h) (RpL.same s hs)
end
mutual
theorem Rt.rp {H : Hp} : ∀ {v : V} {d : PyData}, Rt H v d → Rp H v d
  | _, _, .non => .non
  | _, _, .bl b => .bl b
  | _, _, .int i => .int i
  | _, _, .str z => .str z
  | _, _, .tup e h => .tup e (RtL.rp h)
theorem RtL.rp {H : Hp} : ∀ {vs : List V} {ds : List PyData}, RtL H vs ds → RpL H vs ds
  | _, _, .nil => .nil
  | _, _, .cons h hs => .cons (Rt.rp h) (RtL.rp hs)
end
theorem RpL.length {H : Hp} : ∀ {vs : List V} {ds : List PyData}, RpL H vs ds → vs.length = ds.length
  | _, _, .nil => rfl
  | _, _, .cons _ h => congrArg Nat.succ h.length
theorem RtL.length {H : Hp} : ∀ {vs : List V} {ds : List PyData}, RtL H vs ds → vs.length = ds.length
  | _, _, .nil => rfl
  | _, _, .cons _ h => congrArg Nat.succ h.length
theorem RpL.get {H : Hp} : ∀ {vs : List V} {ds : List PyData} {i : Nat} {v : V}, RpL H vs ds → vs[i]? = some v → ∃ d, ds[i]? = some d ∧ Rp H v d
  | _, _, 0, _, .cons h _, e => ⟨_, rfl, by cases e; exact h⟩
  | _, _, i + 1, _, .cons _ h, e => RpL.get (i := i) h e
theorem RtL.get {H : Hp} : ∀ {vs : List V} {ds : List PyData} {i : Nat} {v : V}, RtL H vs ds → vs[i]? = some v → ∃ d, ds[i]? = some d ∧ Rt H v d
  | _, _, 0, _, .cons h _, e => ⟨_, rfl, by cases e; exact h⟩
  | _, _, i + 1, _, .cons _ h, e => RtL.get (i := i) h e
theorem RtL.append {H : Hp} {v : V} {d : PyData} (h : Rt H v d) : ∀ {vs : List V} {ds : List PyData}, RtL H vs ds → RtL H (vs ++ [v]) (ds ++ [d])
  | _, _, .nil => .cons h .nil
  | _, _, .cons a b => .cons a (RtL.append h b)
/-! ### kinds of data -/
def kd : PyData → Kd
  | .none => .non | .bool _ => .bl | .int _ => .int | .str _ => .str | .list _ => .lst | .tuple _ => .tup | .dict _ => .dct
theorem Rp.ko {K : PySem.W.Frag} {H : Hp} {v : V} {d : PyData} (h : Rp H v d) : Ko K H v (kd d) := by
  cases h with
  | non => exact .base .non
  | bl b => exact .base (.bl b)
  | int i => exact .base (.int i)
  | str z => exact .base (.str z)
  | lst e _ => exact .base (.lst e)
  | tup e _ => exact .base (.tup e)
  | dct e => exact .base (.dK e)
def belowD (m : Int) : PyData → Bool
  | .int i => decide (0 ≤ i) && decide (i < m)
  | _ => false
theorem rp_below {H : Hp} {v : V} {d : PyData} (h : Rp H v d) (m : Int) : Kx.below v m = belowD m d := by
  cases h <;> rfl
/-- the items of a list or a tuple -/
def itemsD : PyData → Option (List PyData)
  | .list ds => some ds
  | .tuple ds => some ds
  | _ => none
/-! ### comprehensions that only lay new things -/
section
variable {J : It} {n : Nat} {G : Hp → Prop} {Y : Nat → Hp → V → Hp → Prop}
theorem lc_new (W : Walk J n G Y) {g : TG} {te : TE} {vs : List Nat} {σ : L2.St} {H1 : Hp} {D : Addr} {Qd : Hp → Prop} (hD : H1 D = none) (hn : n ≤ sizeLine) (Ev : Nat → Hp → V → Prop) (hE : ∀ i H H' v, Tups H H' → Ev i H v → Ev i H' v)
    (hG : ∀ H, Same H1 H → G H)
    (hs : ∀ i x H H' (Qk : VK), i < n → Same H1 H → Y i H x H' → (∀ y H4, Same H H4 → Ev i H4 y → Qk y H4) → g x (wipe σ vs) H' fun σ2 H2 => wipe σ2 vs = wipe σ vs ∧ te σ2 H2 Qk)
    (hd : ∀ H acc, Same H1 H → H D = some (.lst acc) → acc.length = n → (∀ i v, acc[i]? = some v → Ev i H v) → Qd H) :
    ∃ W : Nat → Nat → Hp → Prop, (∃ m, W 0 m (upd H1 D (.lst []))) ∧ ∀ i m H, W i m H →
      (J.stop i H ∧ Qd H) ∨ (J.go i H ∧ ∃ Nx : Hp → Prop, (∀ H', Nx H' → ∃ m', m' < m ∧ W (i + 1) m' H') ∧ ∀ x H', J.yld i H x H' → g x (wipe σ vs) H' fun σ2 H2 => wipe σ2 vs = wipe σ vs ∧ tYes σ2 H2 fun b H3 =>
        if b = true then te σ2 H3 fun y H4 => ∃ acc, H4 D = some (.lst acc) ∧ acc.length < sizeLine ∧ Nx (upd H4 D (.lst (acc ++ [y]))) else Nx H3) := by
  have up : ∀ {H : Hp} {o : HO}, Same H1 H → Same H1 (upd H D o) := fun {H o} s b u e => by
    rw [upd_ne (ne_of_none e hD)]
    exact s b u e
  refine lc_it W (tt := tYes) (fun i H => Same H1 H ∧ ∃ acc, H D = some (.lst acc) ∧ acc.length = i ∧ ∀ j v, acc[j]? = some v → Ev j H v) ⟨up (Same.refl _), [], upd_same, rfl, fun j v e => by simp at e⟩ (fun i H _ ⟨s, _⟩ => hG H s) ?_ fun H ⟨s, acc, e, l, h⟩ => hd H acc s e l h
  rintro i x H H' hi ⟨s, acc, e, l, hv⟩ y
  have q := hs i x H H' (fun y H4 => ∃ acc, H4 D = some (.lst acc) ∧ acc.length < sizeLine ∧ (Same H1 (upd H4 D (.lst (acc ++ [y]))) ∧ ∃ acc', (upd H4 D (.lst (acc ++ [y]))) D = some (.lst acc') ∧ acc'.length = i + 1 ∧ ∀ j v, acc'[j]? = some v → Ev j (upd H4 D (.lst (acc ++ [y]))) v)) hi s y
    (fun y H4 s4 ev => by
      have e4 : H4 D = some (.lst acc) := s4 _ _ e
      have tu : Tups H4 (upd H4 D (.lst (acc ++ [y]))) := tups_upd e4 fun xs z => by cases z
      refine ⟨acc, e4, by omega, up (s.trans s4), _, upd_same, by simp [l], fun j v hj => ?_⟩
      by_cases hlt : j < acc.length
      · rw [List.getElem?_append_left hlt] at hj
        exact hE j _ _ v ((Same.tups s4).trans tu) (hv j v hj)
      · rw [List.getElem?_append_right (by omega)] at hj
        have hj0 : j - acc.length = 0 := by
          cases hq : j - acc.length with
          | zero => rfl
          | succ k => rw [hq] at hj; simp at hj
        rw [hj0] at hj
        have ev' : v = y := by simpa using hj.symm
        have ej : j = i := by omega
        rw [ev', ej]
        exact hE i _ _ y tu ev)
  exact q
end
end Kx
set_option Elab.async false
set_option linter.all false
set_option maxRecDepth 100000
set_option maxHeartbeats 1000000
namespace Kx
open PySem PySem.Spec PyProof.Rows L2
theorem b_all : bootBuiltins "all" = some (.builtin "all") := by decide +kernel
section
variable {P : Program} {w : World} {K : PySem.W.Frag} {mg : Str → Option Value} {base : Heap}
/-! ### is_move -/
def moveD (l m : Int) (d : PyData) : Bool := match itemsD d with
  | some ds => decide ((ds.length : Int) = l) && ds.all (belowD m)
  | none => false
/-- a list or tuple of few things -/
def smallD (d : PyData) : Prop := ∀ ds, itemsD d = some ds → ds.length ≤ 100000
def sp_is_move (K : PySem.W.Frag) : Sp := fun vs H Q _ => ∃ (v : V) (d : PyData) (l m : Int), vs = [v, .int l, .int m] ∧ Rp H v d ∧ smallD d ∧ ∀ H', Same H H' → Q (.bl (moveD l m d)) H'
theorem itemsD_kd {d : PyData} (h : (kd d == .lst || kd d == .tup) = true) : ∃ ds, itemsD d = some ds := by
  cases d <;> first | exact ⟨_, rfl⟩ | (exact Bool.noConfusion h)
theorem itemsD_none {d : PyData} (h : (kd d == .lst || kd d == .tup) = false) : itemsD d = none := by
  cases d <;> first | rfl | (exact Bool.noConfusion h)
theorem ok_is_move (T : Txt K mg) : Cal P w K mg base CX0 3 "is_move" ["thing", "letters", "standings"] (sp_is_move K) := by
  obtain ⟨fd, F⟩ := F_is_move T
  refine cal_mk F (g_is_move T) sc_is_move (fun _ _ _ _ _ _ us hl => match us, hl with | [_, _, _], _ => rfl) (fun vs H Q E h => ?_) (fun cdv A outer s H vs Q E hr h => ?_)
  · obtain ⟨v, d, l, m, rfl, _⟩ := h; rfl
  · refine ⟨_, PSs.nox (pss_cons (ps_if (PW.pt (pw_or (pt_not (pt_val (pe_cal (ok_is_listing T) (hr.mono (by decide)) pass0 (pa_cons (pv 0) pa_nil))))
        (pw_or1 (pt_cmpR op_ne (pe_callB call_len (by rfl) (fr_len T) boot_len (pa_cons (pv 0) pa_nil)) (pv 1) (nomark _))))) (pss_one (ps_ret pe_bl)) pss_nil)
      (pss_one (ps_ret (pe_callB (cr_all rfl) (by rfl) (fr_all T) b_all (pa_cons (pe_lc (own := [("standing", 3)]) (g := gName 3) (tt := tYes) rfl sc_is_move.nd (pi_seq (pv 0)) (blkOk_by (N := N_is_move) (sc := defScope s_is_move) (by decide +kernel))
        (fun _ _ _ _ _ => pg_name (i := 3) sc_is_move.nd rfl (Or.inl rfl)) (fun _ _ _ _ _ => pts_nil) (fun _ _ _ _ _ => pe_cal (ok_is_below T) hr pass0 (pa_cons (pv 3) (pa_cons (pv 2) pa_nil)))) pa_nil))))), ?_⟩
    obtain ⟨v, d, l, m, rfl, rd, sm, q⟩ := h
    refine ⟨v, rfl, v, kd d, rfl, rd.ko, fun H1 s1 => ⟨_, rfl, ?_⟩⟩
    cases hb : (kd d == Kd.lst || kd d == Kd.tup) with
    | false =>
      refine iteT (iteT ?_)
      have e : moveD l m d = false := by unfold moveD; rw [itemsD_none hb]
      rw [e] at q
      exact q H1 s1
    | true =>
      refine iteF ?_
      obtain ⟨ds, hds⟩ := itemsD_kd hb
      have e : moveD l m d = (decide ((ds.length : Int) = l) && ds.all (belowD m)) := by unfold moveD; rw [hds]
      rw [e] at q
      -- the sequence at a
      obtain ⟨a, xs, rfl, hxs, hsq⟩ : ∃ a xs, v = .ref a ∧ RpL H1 xs ds ∧ ((H1 a = some (.lst xs)) ∨ H1 a = some (.tup xs)) := by
        have rd1 := rd.same s1
        cases rd1 with
        | lst e1 h1 => exact ⟨_, _, rfl, by cases hds; exact h1, .inl e1⟩
        | tup e1 h1 => exact ⟨_, _, rfl, by cases hds; exact h1, .inr e1⟩
        | _ => exact Bool.noConfusion hb
      have hl : xs.length = ds.length := hxs.length
      have hsz : xs.length ≤ sizeLine := Nat.le_trans (by rw [hl]; exact sm ds hds) (by decide)
      have hlen : LenV K (.ref a) H1 ds.length := by
        rcases hsq with h | h
        · exact .inl ⟨xs, SqL.of h, hl.symm⟩
        · exact .inr ⟨xs, SqT.of h, hl.symm⟩
      refine ⟨_, rfl, _, ds.length, rfl, hlen, _, rfl, rfl, _, rfl, ?_⟩
      by_cases hll : (ds.length : Int) = l
      · have e2 : (!decide (V.int (ds.length : Int) = V.int l)) = false := by rw [hll]; simp
        rw [e2]
        refine iteF ?_
        have hz : xs.length ≤ sizeLine := hsz
        have fin : ∀ (H' : Hp) (acc : List V) (D : Addr), Same H1 H' → H' D = some (.lst acc) → acc.length = xs.length → (∀ (i : Nat) (v : V), acc[i]? = some v → ∀ d, ds[i]? = some d → v = V.bl (belowD m d)) → ∃ (a : Addr) (bs : List Bool), [V.ref D] = [V.ref a] ∧ SqL K H' a (bs.map V.bl) ∧ Q (.bl (bs.all id)) H' := by
          intro H' acc D s' hD hla hacc
          have ea : acc = (ds.map (belowD m)).map V.bl := by
            apply List.ext_getElem?
            intro i
            by_cases hi : i < ds.length
            · have h1 : acc[i]? = some (acc[i]'(by omega)) := List.getElem?_eq_getElem (by omega)
              rw [h1, hacc i _ h1 ds[i] (List.getElem?_eq_getElem hi)]
              simp [hi]
            · rw [List.getElem?_eq_none (by omega), List.getElem?_eq_none (by simp; omega)]
          refine ⟨D, ds.map (belowD m), rfl, SqL.of (by rw [hD, ea]), ?_⟩
          have e3 : (ds.map (belowD m)).all id = ds.all (belowD m) := by rw [List.all_map]; rfl
          rw [e3]
          have e4 := q H' (s1.trans s')
          rw [hll, decide_eq_true rfl, Bool.true_and] at e4
          exact e4
        have turn : ∀ (i : Nat) (x : V) (H H' : Hp) (Qk : VK), i < xs.length → Same H1 H → YAt xs i H x H' → (∀ y H4, Same H H4 → (∀ d, ds[i]? = some d → y = V.bl (belowD m d)) → Qk y H4) → sp_is_below K [x, .int m] H' Qk E0 := by
          rintro i x H _ Qk hi sH ⟨rfl, hx⟩ hk
          obtain ⟨d', hd', rx⟩ := hxs.get hx
          have rx2 := rx.same sH
          refine ⟨x, m, kd d', rfl, rx2.ko, hk _ _ (Same.refl _) fun d e => ?_⟩
          rw [hd'] at e
          cases e
          rw [rp_below rx2 m]
        rcases hsq with h | h
        · refine ⟨_, rfl, a, xs, rfl, .inl ⟨SqL.of h, fun J WJ D hD => ?_⟩⟩
          exact lc_new WJ hD hz (fun (i : Nat) _ v => ∀ d, ds[i]? = some d → v = V.bl (belowD m d)) (fun _ _ _ _ _ h => h) (fun H s => SqL.of (s _ _ h))
            (fun i x H H' Qk hi sH hy hk => ⟨rfl, _, rfl, _, rfl, turn i x H H' Qk hi sH hy hk⟩) (fun H acc s hD hl h => fin H acc D s hD hl h)
        · refine ⟨_, rfl, a, xs, rfl, .inr ⟨SqT.of h, fun J WJ D hD => ?_⟩⟩
          exact lc_new WJ hD hz (fun (i : Nat) _ v => ∀ d, ds[i]? = some d → v = V.bl (belowD m d)) (fun _ _ _ _ _ h => h) (fun H s => SqT.of (s _ _ h))
            (fun i x H H' Qk hi sH hy hk => ⟨rfl, _, rfl, _, rfl, turn i x H H' Qk hi sH hy hk⟩) (fun H acc s hD hl h => fin H acc D s hD hl h)
      · have e2 : (!decide (V.int (ds.length : Int) = V.int l)) = true := by simp [hll]
        rw [e2]
        refine iteT ?_
        rw [decide_eq_false hll, Bool.false_and] at q
        exact q H1 s1
end
end Kx
set_option Elab.async false
set_option linter.all false
set_option maxRecDepth 100000
set_option maxHeartbeats 2000000
namespace Kx
open PySem PySem.Spec PyProof.Rows L2
/-! ### own errors: what the written part must say of a class, as a test -/
theorem clsB_ok {K : PySem.W.Frag} {C : Addr} (h : clsB K C = true) : ∃ nm q N bs bm sn sub ab col dd k0 k1 k2 k3 k5, K.lookup C = some (excClassObj nm q C N bs bm true sn sub ab col dd k0 k1 k2 k3 k5 "ValueError.__new__") ∧ PySem.HandSPX.refsVE bm = true := by
  unfold clsB at h
  split at h
  · rename_i ty od cd sl ho
    split at h
    · rename_i C' bm a0 a1 a2 a3 n a5 hm hs
      simp only [Bool.and_eq_true, decide_eq_true_eq, Bool.not_eq_true'] at h
      obtain ⟨⟨⟨⟨⟨h1, h2⟩, h3⟩, h4⟩, h5⟩, h6⟩ := h
      subst h1 h2 h3
      obtain ⟨nm, bs, mro, ns, qn, hd, sn, sb, ab, col, del⟩ := cd
      dsimp only at hm h4 h5
      subst hm h4 h5
      obtain ⟨sl⟩ := sl
      dsimp only at hs
      subst hs
      exact ⟨_, _, _, _, bm, _, _, _, _, od, a0, a1, a2, a3, a5, ho, h6⟩
    · cases h
  · cases h
end Kx
set_option Elab.async false
set_option linter.all false
set_option maxRecDepth 100000
set_option maxHeartbeats 2000000
namespace Kx
open PySem PySem.Spec PyProof.Rows L2
/-- an own error class, as it must stand -/
structure Ex (K : PySem.W.Frag) (x : Str) (fs : List Str) : Prop where
  c : OexC K (He.ga K x)
  ini : PySem.W.findIn K (.ref (He.ga K x)) "__init__" = some (some (.ref (He.ma K (He.ga K x) "__init__")))
  ty : PySem.W.typeIn K (.ref (He.ma K (He.ga K x) "__init__")) = some (.type "function")
  no : ∀ f ∈ fs, PySem.W.findIn K (.ref (He.ga K x)) f = some none
  xf : XfC K (He.ga K x)
theorem exB_ok {K : PySem.W.Frag} {x : Str} {fs : List Str} (h : exB K x fs = true) : Ex K x fs := by
  unfold exB at h
  simp only [Bool.and_eq_true, decide_eq_true_eq] at h
  obtain ⟨h1, h2, h3, h4, h5, h6, h789⟩ := h
  obtain ⟨h7, h8, h9⟩ : PySem.W.typeIn K (.ref (He.ma K (He.ga K x) "__init__")) = some (.type "function") ∧ fs.all (fun f => decide (PySem.W.findIn K (.ref (He.ga K x)) f = some none)) = true ∧ xfB K (He.ga K x) = true := by
    first | exact h789 | exact ⟨h789.1.1, h789.1.2, h789.2⟩
  exact ⟨⟨clsB_ok h1, h2, h3, h4, h5⟩, h6, h7, fun f hf => of_decide_eq_true (List.all_eq_true.mp h8 f hf), xfB_ok h9⟩
theorem ex_of {K mg} (T : Txt K mg) (i : Nat) {x : Str} {fs : List Str} (h : excl[i]? = some (x, fs) := by rfl) : Ex K x fs := by
  have e := (Bool.and_eq_true_iff.mp (Bool.and_eq_true_iff.mp T.ex).1).1
  exact exB_ok (List.all_eq_true.mp e (x, fs) (List.mem_of_getElem? h))
theorem said_of {K mg} (T : Txt K mg) (i : Nat) {x : Str} {fs : List Str} (h : excl[i]? = some (x, fs) := by rfl) : PySem.W.exmOne K (.ref (He.ga K x)) (.ref (He.ga K "SaidError")) = some true := by
  have e := (Bool.and_eq_true_iff.mp (Bool.and_eq_true_iff.mp T.ex).1).2
  exact of_decide_eq_true (List.all_eq_true.mp e x (List.mem_map.mpr ⟨(x, fs), List.mem_of_getElem? h, rfl⟩))
section
variable {X : Cx} {e : Expr} {es : List Expr} {ta : TA} {p pos : Pos}
/-- C(e, ..), where nothing is handled: an exception whose context is None -/
theorem pmk_oexN {CX : CXT} {x : Str} {C fI : Addr} {k : Nat} {fd : FuncData} {ps : List Str} {sp : Sp} (T : OexC X.K C) (iC : PySem.W.findIn X.K (.ref C) "__init__" = some (some (.ref fI))) (tI : PySem.W.typeIn X.K (.ref fI) = some (.type "function"))
    (F1 : FnOk X.prog X.w X.K X.mg X.base CX k fI fd ps sp) (hr : Room (k + 1) X.A) (hb : Binds X.K fd ps []) (hx : Passes CX X (fun _ _ _ => False)) (hg : Gl X x) (hm : X.mg x = some (.ref C)) (ha : PA X (e :: es) ta) {M : List V → Hp → XK → Prop}
    (hM : ∀ vs H1 Q, M vs H1 Q → vs.length ≤ 1000 ∧ ∀ a, H1 a = none → sp (.ref a :: vs) (upd H1 a (exo a C none)) (fun v H2 => v = .non ∧ ∃ (d : Addr) (fs : List (Str × V)), H2 a = some (exo a C (some d)) ∧ H2 d = some (exd d fs) ∧ H1 d = none ∧ Q (.ref C) (some d) (upd (del H2 a) d (.xd fs))) (fun _ _ _ => False))
    (hdb : (x == ("__debug__" : Str)) = false := by decide) (he : starEach (e :: es) X.env = (false, eval e X.env) :: starEach es X.env := by rfl) (hpl : (backTo pos (starEach es X.env)).any (·.1) = false := by rfl) :
    L2N.PMk X (.Call (.Name x p) (e :: es) [] pos) (fun σ H Q => ta σ H fun vs H1 => M vs H1 Q) := by
  intro pins s σ H Q I h
  obtain ⟨nm, q, N, bs, bm, sn, sub, ab, col, dd, k0, k1, k2, k3, k5, hC, hbm⟩ := T.cls
  refine wpAny_Call_Name_kw (ld_glob I hg hm ?_ hdb)
  refine PySem.W.callWith_K (h₀ := X.base) I.ok.mod.kin T.kC (thn (ha.run pos pins s σ H _ I h) fun us s1 hh => ?_) he hpl
  obtain ⟨vs, H1, I1, r1, hm1⟩ := hh
  obtain ⟨hz, q1⟩ := hM _ _ _ hm1
  refine ⟨I1.kIn, ?_⟩
  show wpAny _ _ (call (.ref C) us) _ _ _
  obtain ⟨hp, g, dr, tk, os⟩ := s1
  generalize ea0 : hp.objs.size + 1 = a0
  have hsz : hp.objs.size ≤ a0 := by rw [← ea0]; exact Nat.le_succ _
  have hq := q1 a0 (I1.hok.fresh hsz)
  have kk : ∀ b o, hp.get? b = some o → ((hp.push (PySem.W.kdv_tup us)).push (PySem.HandSPX.excO C hp.objs.size)).get? b = some o := fun b o z => Heap.get?_push_of_some _ (Heap.get?_push_of_some _ z)
  have hget : ((hp.push (PySem.W.kdv_tup us)).push (PySem.HandSPX.excO C hp.objs.size)).get? a0 = some (PySem.HandSPX.excO C hp.objs.size) := by
    rw [← ea0]
    heap_get
  have I2 : Inv X pins σ (upd H1 a0 (exo a0 C none)) ⟨(hp.push (PySem.W.kdv_tup us)).push (PySem.HandSPX.excO C hp.objs.size), g, dr, tk, os⟩ := I1.laid (t' := tk) kk hsz (exo_ok hget)
  have r2 : Vals (V.ref a0 :: vs) (Value.ref a0 :: us) := .cons rfl r1
  have hl : (Value.ref a0 :: us ++ []).length = ps.length := by
    rw [List.append_nil, ← F1.len _ _ _ _ hq, r2.length]
  have hus : us.length ≤ sizeLine := by
    rw [← Paired.length r1, sizeLine_eq]
    omega
  have b2 := hb _ (Value.ref a0 :: us) I2.kIn hl
  rw [List.append_nil] at b2
  subst ea0
  refine wpAny_call (PySem.HandSPX.call_own F.excBase_ValueError (fun Y => PySem.HandSPX.refsVE_contains Y bm hbm) (I1.kIn _ _ hC) (PySem.W.looks_findIn I1.kIn iC) (fun self => PySem.W.bind_fn I1.kIn self tI) hus
    (codeAny_mono (F1.run _ X.stack _ _ ⟨_, []⟩ _ _ _ (fun _ _ _ => False) (hr.make C us []) (I2.env0.make C us []) b2 r2 hq) fun r s' hq' => ?_))
  cases r with
  | error er => exact hx pins σ _ _ er s' I2 hq'
  | ok fl =>
    cases fl with
    | ret u =>
      obtain ⟨v, H2, os2, bare2, un2, hok2, rv, ev, d, fs, ea, ed, hd1, q2⟩ := hq'
      subst ev
      obtain ⟨h2, g2, d2, t2, os'⟩ := s'
      obtain ⟨t0, G, J, kG, ge, hoe, na⟩ := mk_end0 (d2 := d2) (t2 := t2) I1 hsz kk un2 hok2 os2 bare2 ea ed hd1
      exact ⟨rv, hp.objs.size + 1, _, _, ⟨G, g2, d2, t2, os'⟩, _, .ref C, some d, rfl, J, kG, ge, hoe, ⟨rfl, rfl, fun vs hv => by cases hv; rfl⟩, rfl, rfl, na, rfl, bare2, raises_own T.exC T.tyC, q2⟩
    | next => exact False.elim hq'
    | brk => exact False.elim hq'
    | cont => exact False.elim hq'
/-- self.f = e, twice at most: what an error's __init__ leaves -/
theorem heap_made {H1 : Hp} {a d : Addr} {C : Addr} {o : HO} {fs : List (Str × V)} (ha : H1 a = none) (hd : upd H1 a (exo a C none) d = none) (hne : d ≠ a) (H2 : Hp) (h2 : ∀ b, b ≠ a → b ≠ d → H2 b = H1 b) :
    upd (del H2 a) d (.xd fs) = upd H1 d (.xd fs) := by
  funext b
  by_cases hb : b = d
  · subst hb
    rw [upd_same, upd_same]
  · rw [upd_ne hb, upd_ne hb]
    by_cases hba : b = a
    · subst hba
      rw [del_same, ha]
    · rw [del_ne hba, h2 b hba hb]
end
end Kx
set_option Elab.async false
set_option linter.all false
set_option maxRecDepth 100000
set_option maxHeartbeats 2000000
namespace Kx
open PySem PySem.Spec PyProof.Rows L2
def sp_init1 (K : PySem.W.Frag) (C : Addr) (f : Str) : Sp := fun vs H Q _ => ∃ (a : Addr) (v : V), vs = [.ref a, v] ∧ OexC K C ∧ PySem.W.findIn K (.ref C) f = some none ∧ H a = some (exo a C none) ∧
  ∀ dx, H dx = none → dx ≠ a → Q .non (upd (upd H dx (exd dx [(f, v)])) a (exo a C (some dx)))
def sp_init2 (K : PySem.W.Frag) (C : Addr) (f g : Str) : Sp := fun vs H Q _ => ∃ (a : Addr) (v u : V), vs = [.ref a, v, u] ∧ OexC K C ∧ PySem.W.findIn K (.ref C) f = some none ∧ PySem.W.findIn K (.ref C) g = some none ∧ H a = some (exo a C none) ∧
  ∀ dx, H dx = none → dx ≠ a → Q .non (upd (upd (upd H dx (exd dx [(f, v)])) a (exo a C (some dx))) dx (exd dx [(g, u), (f, v)]))
section
variable {P : Program} {w : World} {K : PySem.W.Frag} {mg : Str → Option Value} {base : Heap} {C f : Addr} {fd : FuncData}
theorem ini_thing (F : FnP K "__init__" "WrongThing.__init__" s_WrongThing___init__ f fd) : FnOk P w K mg base CX0 1 f fd ["self", "thing"] (sp_init1 K C "thing") := by
  refine F.ok sc_WrongThing___init__ (fun vs H Q E h => ?_) (fun cdv A outer s H vs Q E hr h => ⟨_, PSs.nox (pss_one (ps_ost (pv 0) (pv 1))), ?_⟩)
  · obtain ⟨a, v, rfl, _⟩ := h; rfl
  · obtain ⟨a, v, rfl, T, hno, ha, q⟩ := h
    exact ⟨v, rfl, .ref a, rfl, a, C, rfl, T, hno, .inl ⟨ha, q⟩⟩
theorem ini_number (F : FnP K "__init__" "WrongItem.__init__" s_WrongItem___init__ f fd) : FnOk P w K mg base CX0 1 f fd ["self", "number"] (sp_init1 K C "number") := by
  refine F.ok sc_WrongItem___init__ (fun vs H Q E h => ?_) (fun cdv A outer s H vs Q E hr h => ⟨_, PSs.nox (pss_one (ps_ost (pv 0) (pv 1))), ?_⟩)
  · obtain ⟨a, v, rfl, _⟩ := h; rfl
  · obtain ⟨a, v, rfl, T, hno, ha, q⟩ := h
    exact ⟨v, rfl, .ref a, rfl, a, C, rfl, T, hno, .inl ⟨ha, q⟩⟩
theorem ini_at (F : FnP K "__init__" "BadRow.__init__" s_BadRow___init__ f fd) : FnOk P w K mg base CX0 1 f fd ["self", "at"] (sp_init1 K C "at") := by
  refine F.ok sc_BadRow___init__ (fun vs H Q E h => ?_) (fun cdv A outer s H vs Q E hr h => ⟨_, PSs.nox (pss_one (ps_ost (pv 0) (pv 1))), ?_⟩)
  · obtain ⟨a, v, rfl, _⟩ := h; rfl
  · obtain ⟨a, v, rfl, T, hno, ha, q⟩ := h
    exact ⟨v, rfl, .ref a, rfl, a, C, rfl, T, hno, .inl ⟨ha, q⟩⟩
theorem ini_reader (F : FnP K "__init__" "BadReader.__init__" s_BadReader___init__ f fd) : FnOk P w K mg base CX0 1 f fd ["self", "side", "number"] (sp_init2 K C "side" "number") := by
  refine F.ok sc_BadReader___init__ (fun vs H Q E h => ?_) (fun cdv A outer s H vs Q E hr h => ⟨_, PSs.nox (pss_cons (ps_ost (pv 0) (pv 1)) (pss_one (ps_ost (pv 0) (pv 2)))), ?_⟩)
  · obtain ⟨a, v, u, rfl, _⟩ := h; rfl
  · obtain ⟨a, v, u, rfl, T, hf, hg, ha, q⟩ := h
    refine ⟨v, rfl, .ref a, rfl, a, C, rfl, T, hf, .inl ⟨ha, fun dx n ne => ?_⟩⟩
    refine ⟨u, rfl, .ref a, rfl, a, C, rfl, T, hg, .inr ⟨dx, [("side", v)], upd_same, ?_, (by show 1 ≤ 900; decide), q dx n ne⟩⟩
    rw [upd_ne ne, upd_same]
end
/-! ### raising -/
section
variable {X : Cx} {e : Expr} {es : List Expr} {ta : TA} {p pos pos2 : Pos} {W : WX} {k : Nat} {x f g : Str} {ps : List Str} {fd : FuncData}
/-- what an error's making is worth: at every new d its own dict -/
def tRaise1 (C : Addr) (f : Str) (W : WX) (ta : TA) : TS := fun _ σ H => ta σ H fun vs H1 => ∃ v, vs = [v] ∧ ∀ d, H1 d = none → W (.ref C) (some d) σ (upd H1 d (.xd [(f, v)]))
def tRaise2 (C : Addr) (f g : Str) (W : WX) (ta : TA) : TS := fun _ σ H => ta σ H fun vs H1 => ∃ v u, vs = [v, u] ∧ ∀ d, H1 d = none → W (.ref C) (some d) σ (upd H1 d (.xd [(g, u), (f, v)]))
theorem ps_raise1 {fs : List Str} (T : Ex X.K x fs) (hf : f ∈ fs) (hc : X.calm = true) (F1 : FnOk X.prog X.w X.K X.mg X.base CX0 1 (He.ma X.K (He.ga X.K x) "__init__") fd ps (sp_init1 X.K (He.ga X.K x) f)) (hb : Binds X.K fd ps []) (hr : Room 2 X.A) (tk : L2N.Takes X W)
    (hm : X.mg x = some (.ref (He.ga X.K x))) (ha : PA X (e :: es) ta) (hg : Gl X x := by rfl) (hdb : (x == ("__debug__" : Str)) = false := by decide) (he : starEach (e :: es) X.env = (false, eval e X.env) :: starEach es X.env := by rfl)
    (hpl : (backTo pos (starEach es X.env)).any (·.1) = false := by rfl) : PS X (.Raise (some (.Call (.Name x p) (e :: es) [] pos)) none pos2) (tRaise1 (He.ga X.K x) f W ta) := by
  refine L2N.ps_raise hc tk (pmk_oexN T.c T.ini T.ty F1 hr hb pass0 hg hm ha (M := fun vs H1 Q => ∃ v, vs = [v] ∧ ∀ d, H1 d = none → Q (.ref (He.ga X.K x)) (some d) (upd H1 d (.xd [(f, v)]))) (fun vs H1 Q hM => ?_) hdb he hpl)
  obtain ⟨v, rfl, q⟩ := hM
  refine ⟨(by show 1 ≤ 1000; decide), fun a na => ⟨a, v, rfl, T.c, T.no f hf, upd_same, fun dx nx ne => ⟨rfl, dx, [(f, v)], upd_same, ?_, ?_, ?_⟩⟩⟩
  · rw [upd_ne ne, upd_same]
  · rw [upd_ne ne] at nx; exact nx
  · have nx' : H1 dx = none := by rw [upd_ne ne] at nx; exact nx
    rw [heap_made (o := exo a (He.ga X.K x) none) na nx ne _ fun b hb hd => by rw [upd_ne hb, upd_ne hd, upd_ne hb]]
    exact q dx nx'
theorem ps_raise2 {fs : List Str} (T : Ex X.K x fs) (hf : f ∈ fs) (hgm : g ∈ fs) (hc : X.calm = true) (F1 : FnOk X.prog X.w X.K X.mg X.base CX0 1 (He.ma X.K (He.ga X.K x) "__init__") fd ps (sp_init2 X.K (He.ga X.K x) f g)) (hb : Binds X.K fd ps []) (hr : Room 2 X.A) (tk : L2N.Takes X W)
    (hm : X.mg x = some (.ref (He.ga X.K x))) (ha : PA X (e :: es) ta) (hg : Gl X x := by rfl) (hdb : (x == ("__debug__" : Str)) = false := by decide) (he : starEach (e :: es) X.env = (false, eval e X.env) :: starEach es X.env := by rfl)
    (hpl : (backTo pos (starEach es X.env)).any (·.1) = false := by rfl) : PS X (.Raise (some (.Call (.Name x p) (e :: es) [] pos)) none pos2) (tRaise2 (He.ga X.K x) f g W ta) := by
  refine L2N.ps_raise hc tk (pmk_oexN T.c T.ini T.ty F1 hr hb pass0 hg hm ha (M := fun vs H1 Q => ∃ v u, vs = [v, u] ∧ ∀ d, H1 d = none → Q (.ref (He.ga X.K x)) (some d) (upd H1 d (.xd [(g, u), (f, v)]))) (fun vs H1 Q hM => ?_) hdb he hpl)
  obtain ⟨v, u, rfl, q⟩ := hM
  refine ⟨(by show 2 ≤ 1000; decide), fun a na => ⟨a, v, u, rfl, T.c, T.no f hf, T.no g hgm, upd_same, fun dx nx ne => ⟨rfl, dx, [(g, u), (f, v)], ?_, upd_same, ?_, ?_⟩⟩⟩
  · rw [upd_ne (Ne.symm ne), upd_same]
  · rw [upd_ne ne] at nx; exact nx
  · have nx' : H1 dx = none := by rw [upd_ne ne] at nx; exact nx
    rw [heap_made (o := exo a (He.ga X.K x) none) na nx ne _ fun b hb hd => by rw [upd_ne hd, upd_ne hb, upd_ne hd, upd_ne hb]]
    exact q dx nx'
end
end Kx
set_option Elab.async false
set_option linter.all false
set_option maxRecDepth 100000
set_option maxHeartbeats 2000000
namespace Kx
open PySem PySem.Spec PyProof.Rows L2
theorem b_tupleT : bootBuiltins "tuple" = some (.type "tuple") := b_tuple
/-- the first that is not so -/
def firstBad (p : PyData → Bool) : List PyData → Int → Option Int
  | [], _ => none
  | d :: ds, k => if p d then firstBad p ds (k + 1) else some k
def readerDue (l : Nat) (d : PyData) : Option Int := match itemsD d with
  | none => some (-1)
  | some ds => if 1 ≤ ds.length ∧ ds.length ≤ 40 then firstBad (moveD l ds.length) ds 0 else some (-1)
def tupOf (d : PyData) : PyData := .tuple ((itemsD d).getD [])
def keptD (d : PyData) : PyData := .tuple (((itemsD d).getD []).map tupOf)
theorem firstBad_at {p : PyData → Bool} : ∀ {ds : List PyData} {k : Int} {i : Nat} {d : PyData}, ds[i]? = some d → (∀ j d, j < i → ds[j]? = some d → p d = true) → p d = false → firstBad p ds k = some (k + i)
  | [], _, i, _, h, _, _ => by simp at h
  | d :: ds, k, 0, x, h, _, hp => by
    have e : d = x := by simpa using h
    unfold firstBad
    rw [e, hp]
    simp
  | d :: ds, k, i + 1, x, h, ha, hp => by
    have h0 := ha 0 d (Nat.succ_pos _) rfl
    unfold firstBad
    rw [if_pos h0, firstBad_at (k := k + 1) (i := i) (by simpa using h) (fun j y hj hy => ha (j + 1) y (by omega) (by simpa using hy)) hp]
    congr 1
    omega
theorem firstBad_none {p : PyData → Bool} : ∀ {ds : List PyData} {k : Int}, (∀ (j : Nat) d, ds[j]? = some d → p d = true) → firstBad p ds k = none
  | [], _, _ => rfl
  | d :: ds, k, h => by
    unfold firstBad
    rw [if_pos (h 0 d rfl)]
    exact firstBad_none fun j y hy => h (j + 1) y (by simpa using hy)
/-- ints alone -/
theorem rpL_ints {H : Hp} {m : Int} : ∀ {vs : List V} {ds : List PyData}, RpL H vs ds → ds.all (belowD m) = true → RtL H vs ds
  | _, _, .nil, _ => .nil
  | _, _, .cons h hs, e => by
    rw [List.all_cons, Bool.and_eq_true] at e
    refine .cons ?_ (rpL_ints hs e.2)
    cases h with
    | int i => exact .int i
    | _ => exact Bool.noConfusion e.1
/-- the data of a reader: few things, each of few things -/
def smallR (d : PyData) : Prop := ∀ ds, itemsD d = some ds → ds.length ≤ 100000 ∧ ∀ x ∈ ds, smallD x
section
variable {P : Program} {w : World} {K : PySem.W.Frag} {mg : Str → Option Value} {base : Heap}
def sp_kept_reader (K : PySem.W.Frag) : Sp := fun vs H Q E => ∃ (al side : Str) (v : V) (d : PyData), vs = [.str al, .str side, v] ∧ Rp H v d ∧ smallR d ∧ al.length ≤ 1000 ∧
  (∀ k, readerDue al.length d = some k → ∀ H', Same H H' → ∀ dx, H' dx = none → E (.ref (He.ga K "BadReader")) (some dx) (upd H' dx (.xd [("number", .int k), ("side", .str side)]))) ∧
  (readerDue al.length d = none → ∀ H' r, Same H H' → Rt H' r (keptD d) → Q r H')
/-- the sequence that stands there -/
theorem rp_seq {H : Hp} {v : V} {d : PyData} {ds : List PyData} (h : Rp H v d) (e : itemsD d = some ds) : ∃ a xs, v = .ref a ∧ RpL H xs ds ∧ (H a = some (.lst xs) ∨ H a = some (.tup xs)) := by
  cases h with
  | lst e1 h1 => cases e; exact ⟨_, _, rfl, h1, .inl e1⟩
  | tup e1 h1 => cases e; exact ⟨_, _, rfl, h1, .inr e1⟩
  | _ => cases e
theorem lenV_seq {H : Hp} {a : Addr} {xs : List V} (h : H a = some (.lst xs) ∨ H a = some (.tup xs)) : LenV K (.ref a) H xs.length := by
  rcases h with h | h
  · exact .inl ⟨xs, SqL.of h, rfl⟩
  · exact .inr ⟨xs, SqT.of h, rfl⟩
theorem src_seq {H : Hp} {a : Addr} {xs : List V} (h : H a = some (.lst xs) ∨ H a = some (.tup xs)) : ∃ G, Src (.ref a) xs.length G (fun i v => xs[i]? = some v) ∧ G H ∧ ∀ H', Same H H' → G H' := by
  rcases h with h | h
  · exact ⟨_, .lst a xs, h, fun H' s => s _ _ h⟩
  · exact ⟨_, .tup a xs, h, fun H' s => s _ _ h⟩
theorem lenV_str {K : PySem.W.Frag} {H : Hp} {z : Str} (h : z.length ≤ 100000) : LenV K (.str z) H z.length := ⟨Nat.le_trans h (by decide), rfl⟩
theorem dec_int (i j : Int) : decide (V.int i = V.int j) = decide (i = j) := by
  by_cases h : i = j
  · rw [h]; simp
  · simp [h]
theorem ok_kept_reader (T : Txt K mg) : Cal P w K mg base (L2N.CX P w) 4 "kept_reader" ["alphabet", "side", "thing"] (sp_kept_reader K) := by
  obtain ⟨fd, F⟩ := F_kept_reader T
  obtain ⟨fdR, FR⟩ := F_BadReader___init__ T
  obtain ⟨t40, h40⟩ := T.i40
  have bR : Binds K fdR ["self", "side", "number"] [] := FR.bindsN fun _ _ _ _ _ _ us hl => match us, hl with | [_, _, _], _ => rfl
  have ex : Ex K "BadReader" ["side", "number"] := ex_of T 5
  refine cal_mk F (g_kept_reader T) sc_kept_reader (fun _ _ _ _ _ _ us hl => match us, hl with | [_, _, _], _ => rfl) (fun vs H Q E h => ?_) (fun cdv A outer s H vs Q E hr h => ?_)
  · obtain ⟨al, side, v, d, rfl, _⟩ := h; rfl
  · refine ⟨_, (pss_cons (ps_if (PW.pt (pw_or (pt_not (pt_val (pe_cal (ok_is_listing T) (hr.mono (by decide)) pass0 (pa_cons (pv 2) pa_nil))))
          (pw_or1 (pt_not (pt_chain op_le op_le pe_int (pe_callB call_len (by rfl) (fr_len T) boot_len (pa_cons (pv 2) pa_nil)) (pe_glob (v := .int 40) (by rfl) h40 ⟨t40, rfl⟩))))))
          (pss_one (ps_raise2 ex (f := "side") (g := "number") (by decide) (by decide) rfl (ini_reader FR) bR (hr.mono (by decide)) (L2N.takes_of rfl rfl rfl rfl) (g_BadReader T) (pa_cons (pv 1) (pa_cons (pe_un un_neg pe_int) pa_nil)))) pss_nil)
      (pss_cons (ps_set (i := 3) sc_kept_reader.nd rfl (Or.inl rfl) (pe_lst pa_nil))
      (pss_cons (ps_for (passes_of rfl) rfl (pi_enumS (by rfl) (fr_enumerate T) (pa_cons (pv 2) pa_nil)) (pg_tup rfl (pgs_cons (pg_name (i := 4) sc_kept_reader.nd rfl (Or.inl rfl)) (pgs_cons (pg_name (i := 5) sc_kept_reader.nd rfl (Or.inl rfl)) pgs_nil)))
          (pss_cons (ps_if (pt_not (pt_val (pe_cal (ok_is_move T) hr pass0 (pa_cons (pv 5) (pa_cons (pe_callB call_len (by rfl) (fr_len T) boot_len (pa_cons (pv 0) pa_nil)) (pa_cons (pe_callB call_len (by rfl) (fr_len T) boot_len (pa_cons (pv 2) pa_nil)) pa_nil))))))
            (pss_one (ps_raise2 ex (f := "side") (g := "number") (by decide) (by decide) rfl (ini_reader FR) bR (hr.mono (by decide)) (L2N.takes_of rfl rfl rfl rfl) (g_BadReader T) (pa_cons (pv 1) (pa_cons (pv 4) pa_nil)))) pss_nil)
          (pss_one (ps_expr (pe_bm PySem.F.plainAttrs_list PySem.F.slot_list_append PySem.F.type_list_append mt_append (pv 3) (pa_cons (pe_callTy call_tuple_of (by rfl) (fr_tuple T) b_tuple (pa_cons (pv 5) pa_nil)) pa_nil))))))
      (pss_one (ps_ret (pe_callTy call_tuple_of (by rfl) (fr_tuple T) b_tuple (pa_cons (pv 3) pa_nil))))))), ?_⟩
    obtain ⟨al, side, v, d, rfl, rd, sm, hal, kE, kQ⟩ := h
    refine ⟨v, rfl, v, kd d, rfl, rd.ko, fun H1 s1 => ⟨_, rfl, ?_⟩⟩
    have rd1 := rd.same s1
    cases hb : (kd d == Kd.lst || kd d == Kd.tup) with
    | false =>
      refine iteT (iteT ?_)
      have e : readerDue al.length d = some (-1) := by unfold readerDue; rw [itemsD_none hb]
      refine ⟨.str side, rfl, 1, rfl, _, _, rfl, fun dx hd => ?_⟩
      exact kE (-1) e H1 s1 dx hd
    | true =>
      refine iteF ?_
      obtain ⟨ds, hds⟩ := itemsD_kd hb
      obtain ⟨a, xs, rfl, hxs, hsq⟩ := rp_seq rd1 hds
      have hl : xs.length = ds.length := hxs.length
      have hLenT : LenV K (.ref a) H1 xs.length := lenV_seq hsq
      have bad : ¬ (1 ≤ ds.length ∧ ds.length ≤ 40) → readerDue al.length d = some (-1) := fun hn => by unfold readerDue; rw [hds]; exact if_neg hn
      have good : (1 ≤ ds.length ∧ ds.length ≤ 40) → readerDue al.length d = firstBad (moveD al.length ds.length) ds 0 := fun hn => by unfold readerDue; rw [hds]; exact if_pos hn
      refine ⟨_, rfl, _, _, rfl, hLenT, 1, _, rfl, rfl, _, rfl, ?_⟩
      by_cases h1 : (1 : Int) ≤ (xs.length : Int)
      · rw [decide_eq_true h1]
        refine iteT ⟨_, 40, rfl, rfl, _, rfl, ?_⟩
        by_cases h2 : (xs.length : Int) ≤ 40
        · rw [decide_eq_true h2]
          refine iteF ?_
          have hn : 1 ≤ ds.length ∧ ds.length ≤ 40 := by omega
          refine ⟨by decide, fun kp hkp => ?_⟩
          obtain ⟨G, S, hG, hGs⟩ := src_seq hsq
          have s2 : Same H1 (upd H1 kp (.lst [])) := fun b o e => by rw [upd_ne (ne_of_none e hkp)]; exact e
          refine ⟨_, rfl, _, _, _, _, rfl, S, hGs _ s2, for_it walk_new (fun i σ H2 => ∃ (v4 v5 : Option V) (acc : List V), σ = [some (.str al), some (.str side), some (.ref a), some (.ref kp), v4, v5] ∧ Same H1 H2 ∧ H2 kp = some (.lst acc) ∧ RtL H2 acc ((ds.take i).map tupOf) ∧
            ∀ (j : Nat) x, j < i → ds[j]? = some x → moveD al.length ds.length x = true)
            ⟨none, none, [], rfl, s2, upd_same, by rw [List.take_zero]; exact .nil, fun j x hj => absurd hj (Nat.not_lt_zero _)⟩ (fun i σ H2 _ ⟨_, _, _, _, s3, _⟩ => hGs _ s3) ?_ ?_⟩
          · rintro i x σ H2 H3 hi ⟨v4, v5, acc, rfl, s3, hacc, hrt, hall⟩ ⟨Tt, vs, rfl, hTn, rfl, y, rfl, hy⟩
            obtain ⟨dy, hdy, ry⟩ := hxs.get hy
            have ry3 : Rp (upd H2 Tt (.tup [.int (i : Nat), y])) y dy := ry.same (s3.trans fun b o e => by rw [upd_ne (ne_of_none e hTn)]; exact e)
            have hTk : Tt ≠ kp := fun z => by rw [z, hacc] at hTn; cases hTn
            refine ⟨Tt, _, rfl, SqT.of upd_same, rfl, .int (i : Nat), _, rfl, y, _, rfl, rfl, ?_⟩
            have s4 : Same H2 (upd H2 Tt (.tup [.int (i : Nat), y])) := fun b o e => by rw [upd_ne (ne_of_none e hTn)]; exact e
            have hdm : dy ∈ ds := List.mem_of_getElem? hdy
            have hsq4 := hsq.imp (fun z => s4 _ _ (s3 _ _ z)) (fun z => s4 _ _ (s3 _ _ z))
            refine ⟨y, rfl, .str al, rfl, .str al, al.length, rfl, lenV_str (by omega), .ref a, rfl, .ref a, xs.length, rfl, lenV_seq hsq4, y, dy, _, _, rfl, ry3, (sm ds hds).2 dy hdm, fun H5 s5 => ⟨_, rfl, ?_⟩⟩
            have s15 : Same H H5 := s1.trans (s3.trans (s4.trans s5))
            rw [hl]
            cases hmv : moveD (al.length : Int) (ds.length : Int) dy with
            | false =>
              refine iteT ⟨.str side, rfl, .int (i : Nat), rfl, _, _, rfl, fun dx hdx => ?_⟩
              refine kE i ?_ H5 s15 dx hdx
              rw [good hn, firstBad_at hdy hall hmv, Int.zero_add]
            | true =>
              refine iteF ?_
              have ry5 := ry3.same s5
              have hk5 : H5 kp = some (.lst acc) := s5 _ _ (s4 _ _ hacc)
              have hrt5 := hrt.tups ((Same.tups s4).trans (Same.tups s5))
              have htk : (ds.take (i + 1)) = ds.take i ++ [dy] := by rw [List.take_succ, hdy]; rfl
              have hall' : ∀ (j : Nat) x, j < i + 1 → ds[j]? = some x → moveD al.length ds.length x = true := fun j x hj hx => by
                by_cases hji : j < i
                · exact hall j x hji hx
                · have : j = i := by omega
                  subst this
                  rw [hdy] at hx
                  cases hx
                  exact hmv
              have hmd : ∃ ms, itemsD dy = some ms ∧ ms.all (belowD ds.length) = true := by
                unfold moveD at hmv
                cases hi2 : itemsD dy with
                | none => rw [hi2] at hmv; cases hmv
                | some ms =>
                  rw [hi2, Bool.and_eq_true] at hmv
                  exact ⟨ms, rfl, hmv.2⟩
              obtain ⟨ms, hms, hint⟩ := hmd
              obtain ⟨ma, mxs, rfl, hmx, hmsq⟩ := rp_seq ry5 hms
              have etup : tupOf dy = .tuple ms := by unfold tupOf; rw [hms]; rfl
              have hlen : acc.length < sizeLine := by
                have e1 := hrt.length
                rw [List.length_map, List.length_take] at e1
                exact Nat.lt_of_le_of_lt (by omega : acc.length ≤ 40) (by decide)
              refine ⟨.ref kp, rfl, .inl ⟨rfl, _, SqL.of hk5⟩, .ref ma, rfl, ma, mxs, rfl, ?_⟩
              rcases hmsq with hm | hm
              · refine .inl ⟨SqL.of hm, fun p hp => ?_⟩
                have s6 : Same H5 (upd H5 p (.tup mxs)) := fun b o e => by rw [upd_ne (ne_of_none e hp)]; exact e
                have hk6 := s6 _ _ hk5
                refine ⟨kp, acc, _, rfl, rfl, hk6, hlen, ?_⟩
                have tu : Tups (upd H5 p (.tup mxs)) (upd (upd H5 p (.tup mxs)) kp (.lst (acc ++ [.ref p]))) := tups_upd hk6 fun xs z => by cases z
                refine ⟨_, _, _, rfl, ?_, upd_same, ?_, hall'⟩
                · intro b o e
                  rw [upd_ne (ne_of_none e hkp)]
                  exact s6 _ _ (s5 _ _ (s4 _ _ (s3 _ _ e)))
                · rw [htk, List.map_append]
                  refine RtL.append (d := tupOf dy) ?_ ((hrt5.tups (Same.tups s6)).tups tu)
                  rw [etup]
                  exact .tup (tu _ _ upd_same) (((rpL_ints hmx hint).tups (Same.tups s6)).tups tu)
              · refine .inr ⟨SqT.of hm, ?_⟩
                refine ⟨kp, acc, _, rfl, rfl, hk5, hlen, ?_⟩
                have tu : Tups H5 (upd H5 kp (.lst (acc ++ [.ref ma]))) := tups_upd hk5 fun xs z => by cases z
                refine ⟨_, _, _, rfl, ?_, upd_same, ?_, hall'⟩
                · intro b o e
                  rw [upd_ne (ne_of_none e hkp)]
                  exact s5 _ _ (s4 _ _ (s3 _ _ e))
                · rw [htk, List.map_append]
                  refine RtL.append (d := tupOf dy) ?_ (hrt5.tups tu)
                  rw [etup]
                  exact .tup (tu _ _ hm) ((rpL_ints hmx hint).tups tu)
          · rintro σ H2 ⟨v4, v5, acc, rfl, s3, hacc, hrt, hall⟩
            rw [hl, List.take_length] at hrt
            refine ⟨.ref kp, rfl, kp, acc, rfl, .inl ⟨SqL.of hacc, fun p hp => ?_⟩⟩
            have s6 : Same H2 (upd H2 p (.tup acc)) := fun b o e => by rw [upd_ne (ne_of_none e hp)]; exact e
            have hnone : readerDue al.length d = none := by
              rw [good hn]
              refine firstBad_none fun j x hx => hall j x ?_ hx
              rw [hl]
              exact (List.getElem?_eq_some_iff.mp hx).1
            refine kQ hnone _ _ (s1.trans (s3.trans s6)) ?_
            have e : keptD d = .tuple (ds.map tupOf) := by unfold keptD; rw [hds]; rfl
            rw [e]
            exact .tup upd_same (hrt.tups (Same.tups s6))
        · rw [decide_eq_false h2]
          refine iteT ⟨.str side, rfl, 1, rfl, _, _, rfl, fun dx hdx => ?_⟩
          exact kE (-1) (bad (by omega)) H1 s1 dx hdx
      · rw [decide_eq_false h1]
        refine iteF ⟨_, rfl, ?_⟩
        refine iteT ⟨.str side, rfl, 1, rfl, _, _, rfl, fun dx hdx => ?_⟩
        exact kE (-1) (bad (by omega)) H1 s1 dx hdx
end
end Kx
set_option Elab.async false
set_option linter.all false
set_option maxRecDepth 100000
set_option maxHeartbeats 2000000
namespace Kx
open PySem PySem.Spec PyProof.Rows L2
/-! ### s[::-1], s a text -/
def revS (z : Str) : Str := ⟨z.cps.toList.reverse.toArray⟩
theorem picked_rev (z : Str) : ((Builtin.Str.strSliceIndices none none (-1) z.length).filterMap (z.cps[·]?)).toArray = (revS z).cps := by
  have e : Builtin.Str.strSliceIndices none none (-1) z.length = sliceRange ((z.length : Int) - 1) (-1) (-1) := by
    unfold Builtin.Str.strSliceIndices
    rfl
  rw [e, PySem.W.krv_sliceRange, PySem.W.krv_range, List.filterMap_reverse]
  show ((List.range z.cps.size).filterMap (z.cps[·]?)).reverse.toArray = _
  rw [PySem.W.krv_all]
  rfl
section
variable {X : Cx}
def tRevS (te : TE) : TE := fun σ H Q => te σ H fun x H1 => ∃ z, x = .str z ∧ z.length ≤ sizeLine ∧ Q (.str (revS z)) H1
theorem pe_revS {e : Expr} {te : TE} {k : Nat} {p1 p2 p3 pos : Pos} (he : PE X e te) : PE X (.Subscript e (.Slice none none (some (.UnaryOp .USub (.Constant (.int 1) k p1) p2)) p3) pos) (tRevS te) := by
  refine ⟨fun pins s σ H Q I h => ?_⟩
  refine Subscript_ (thn (he.run pins s σ H _ I h) fun v s1 hh => ?_)
  obtain ⟨x, H1, I1, r1, z, ex, hz, q⟩ := hh
  subst ex
  obtain ⟨t, rfl⟩ := r1
  refine wpAny_Slice (thn ((po_none (X := X)).run pins s1 σ H1 (fun o H2 => o = none ∧ H2 = H1) I1 ⟨rfl, rfl⟩) fun vl s2 h2 => ?_)
  obtain ⟨l, H2, I2, pl, el, e2⟩ := h2
  subst el e2
  refine thn ((po_none (X := X)).run pins s2 σ H2 (fun o H3 => o = none ∧ H3 = H2) I2 ⟨rfl, rfl⟩) fun vu s3 h3 => ?_
  obtain ⟨u, H3, I3, pu, eu, e3⟩ := h3
  subst eu e3
  have hst : PO X (some (.UnaryOp .USub (.Constant (.int 1) k p1) p2)) (tPart (tUn (rU fun i => .int (-i)) (tC (.int 1)))) := po_some (pe_un un_neg pe_int)
  refine thn (hst.run pins s3 σ H3 (fun o H4 => o = some (-1) ∧ H4 = H3) I3 ⟨1, rfl, -1, rfl, rfl, rfl⟩) fun vs s4 h4 => ?_
  obtain ⟨o, H4, I4, ps, eo, e4⟩ := h4
  subst eo e4
  have I5 : Inv X pins σ H4 { s4 with heap := s4.heap.push { cls := .type "slice", data := .fields #[vl, vu, vs] } } := I4.kept (t' := s4.toks) fun b ob q => Heap.get?_push_of_some _ q
  obtain ⟨ll, rfl, el⟩ := IsPart.raw pl
  obtain ⟨lu, rfl, eu⟩ := IsPart.raw pu
  obtain ⟨ls, rfl, es⟩ := IsPart.raw ps
  refine tail_any (ops := [.str z t, .ref s4.heap.objs.size]) (typeIs_str _ z t) (F.slot_str_getitem.lookup) ?_ (by with_unfolding_all rfl)
  refine wpAny_getItem_str_slice (l := ll) (u := lu) (st := ls) ⟨_, Heap.get?_push_size _ rfl, rfl, rfl⟩ (by rw [es]; rfl) ?_
  have e9 : sliceMade z t ll lu ls = .str (revS z) := by
    unfold sliceMade slicePicked
    rw [el, eu, es]
    rw [if_neg (by simp)]
    show Made.str ⟨((Builtin.Str.strSliceIndices none none (-1) z.length).filterMap (z.cps[·]?)).toArray⟩ = _
    rw [picked_rev]
  rw [e9]
  refine ⟨?_, .str _, H4, I5.tok _, ⟨_, rfl⟩, q⟩
  show (z.cps.toList.reverse.toArray).size ≤ sizeLine
  rw [List.size_toArray, List.length_reverse, Array.length_toList]
  exact hz
end
end Kx
set_option Elab.async false
set_option linter.all false
set_option maxRecDepth 100000
set_option maxHeartbeats 2000000
namespace Kx
open PySem PySem.Spec PyProof.Rows L2
/-! ### readers as tables of numbers -/
abbrev Tab := List (List Nat)
def encM (m : List Nat) : PyData := .tuple (m.map fun k => .int (k : Nat))
def encR (t : Tab) : PyData := .tuple (t.map encM)
structure TabOk (t : Tab) (na : Nat) : Prop where
  ne : 0 < t.length
  le : t.length ≤ 40
  ml : ∀ m ∈ t, m.length = na
  lt : ∀ m ∈ t, ∀ k ∈ m, k < t.length
/-- how the letters of an alphabet are numbered -/
structure IxOk (al : Str) (ix : Nat → Nat) : Prop where
  find : ∀ c ∈ al.cps.toList, Txt.find al ⟨#[c]⟩ = ((ix c : Nat) : Int)
  lt : ∀ c ∈ al.cps.toList, ix c < al.length
def stepT (t : Tab) (p k : Nat) : Nat := (t.getD p []).getD k 0
def runT (t : Tab) (ix : Nat → Nat) (p : Nat) (cs : List Nat) : Nat := cs.foldl (fun p c => stepT t p (ix c)) p
def aheadT (t : Tab) (ix : Nat → Nat) : Nat → List Nat → List Nat
  | _, [] => []
  | p, c :: cs => p :: aheadT t ix (stepT t p (ix c)) cs
theorem aheadT_snoc (t : Tab) (ix : Nat → Nat) : ∀ (cs : List Nat) (p c : Nat), aheadT t ix p (cs ++ [c]) = aheadT t ix p cs ++ [runT t ix p cs]
  | [], _, _ => rfl
  | d :: cs, p, c => by
    show p :: aheadT t ix (stepT t p (ix d)) (cs ++ [c]) = p :: (aheadT t ix (stepT t p (ix d)) cs ++ [runT t ix (stepT t p (ix d)) cs])
    rw [aheadT_snoc]
theorem runT_snoc (t : Tab) (ix : Nat → Nat) (cs : List Nat) (p c : Nat) : runT t ix p (cs ++ [c]) = stepT t (runT t ix p cs) (ix c) := by
  unfold runT
  rw [List.foldl_append]
  rfl
theorem aheadT_length (t : Tab) (ix : Nat → Nat) : ∀ (cs : List Nat) (p : Nat), (aheadT t ix p cs).length = cs.length
  | [], _ => rfl
  | _ :: cs, p => congrArg Nat.succ (aheadT_length t ix cs _)
theorem stepT_lt {t : Tab} {na p k : Nat} (T : TabOk t na) (hp : p < t.length) (hk : k < na) : stepT t p k < t.length := by
  unfold stepT
  have hm : t.getD p [] = t[p] := by simp [List.getD_eq_getElem?_getD, hp]
  rw [hm]
  have ml := T.ml t[p] (List.getElem_mem hp)
  have hk2 : k < t[p].length := by omega
  have e2 : t[p].getD k 0 = t[p][k] := by simp [List.getD_eq_getElem?_getD, hk2]
  rw [e2]
  exact T.lt t[p] (List.getElem_mem hp) _ (List.getElem_mem hk2)
/-- the move of a standing, its item -/
theorem rt_move {H : Hp} {v : V} {t : Tab} {na p k : Nat} (h : Rt H v (encR t)) (T : TabOk t na) (hp : p < t.length) (hk : k < na) :
    ∃ a xs b ys, v = .ref a ∧ H a = some (.tup xs) ∧ xs[p]? = some (.ref b) ∧ H b = some (.tup ys) ∧ ys[k]? = some (.int (stepT t p k)) := by
  unfold encR at h
  cases h with
  | @tup a xs _ ha hx =>
    have hl := hx.length
    rw [List.length_map] at hl
    have hpx : p < xs.length := by omega
    obtain ⟨d, hd, rd⟩ := hx.get (i := p) (List.getElem?_eq_getElem hpx)
    have ed : d = encM t[p] := by
      rw [List.getElem?_map, List.getElem?_eq_getElem hp] at hd
      exact (Option.some.inj hd).symm
    subst ed
    unfold encM at rd
    generalize hv : xs[p] = y at rd
    cases rd with
    | @tup b ys _ hb hy =>
      have ml := T.ml t[p] (List.getElem_mem hp)
      have hl2 := hy.length
      rw [List.length_map] at hl2
      have hky : k < ys.length := by omega
      obtain ⟨d2, hd2, rd2⟩ := hy.get (i := k) (List.getElem?_eq_getElem hky)
      have hk2 : k < t[p].length := by omega
      rw [List.getElem?_map, List.getElem?_eq_getElem hk2] at hd2
      have e2 : d2 = .int ((t[p][k] : Nat) : Int) := (Option.some.inj hd2).symm
      subst e2
      refine ⟨a, xs, b, ys, rfl, ha, by rw [List.getElem?_eq_getElem hpx, hv], hb, ?_⟩
      rw [List.getElem?_eq_getElem hky]
      have e3 : stepT t p k = t[p][k] := by
        unfold stepT
        simp [List.getD_eq_getElem?_getD, hp, hk2]
      rw [e3]
      generalize ys[k] = z at rd2
      cases rd2
      rfl
section
variable {P : Program} {w : World} {K : PySem.W.Frag} {mg : Str → Option Value} {base : Heap}
def sp_standings_ahead : Sp := fun vs H Q _ => ∃ (al : Str) (vL : V) (row : Str) (t : Tab) (ix : Nat → Nat), vs = [.str al, vL, .str row] ∧ Rt H vL (encR t) ∧ TabOk t al.length ∧ IxOk al ix ∧ (∀ c ∈ row.cps.toList, c ∈ al.cps.toList) ∧ row.length ≤ 1000 ∧
  ∀ H' p, Same H H' → H p = none → H' p = some (.lst ((aheadT t ix 0 row.cps.toList).map fun k => V.int (k : Nat))) → Q (.ref p) H'
theorem ok_standings_ahead (T : Txt K mg) : Cal P w K mg base CX0 1 "standings_ahead" ["alphabet", "left", "row"] sp_standings_ahead := by
  obtain ⟨fd, F⟩ := F_standings_ahead T
  refine cal_mk F (g_standings_ahead T) sc_standings_ahead (fun _ _ _ _ _ _ us hl => match us, hl with | [_, _, _], _ => rfl) (fun vs H Q E h => ?_) (fun cdv A outer s H vs Q E hr h => ?_)
  · obtain ⟨al, vL, row, t, ix, rfl, _⟩ := h; rfl
  · refine ⟨_, PSs.nox (pss_cons (ps_set (i := 3) sc_standings_ahead.nd rfl (Or.inl rfl) (pe_lst pa_nil)) (pss_cons (ps_set (i := 4) sc_standings_ahead.nd rfl (Or.inl rfl) pe_int)
      (pss_cons (ps_for PassesOwn.never rfl (pi_str (pv 2)) (pg_name (i := 5) sc_standings_ahead.nd rfl (Or.inl rfl))
        (pss_cons (ps_expr (pe_bm PySem.F.plainAttrs_list PySem.F.slot_list_append PySem.F.type_list_append mt_append (pv 3) (pa_cons (pv 4) pa_nil)))
        (pss_one (ps_set (i := 4) sc_standings_ahead.nd rfl (Or.inl rfl) (pe_ix ix_tup (pe_ix ix_tup (pv 1) (pv 4) (fun _ _ => rfl)) (pe_m1 PySem.F.slot_str_find PySem.F.type_str_find mt_find (pv 0) (pv 5)) (fun _ _ => rfl))))))
      (pss_one (ps_ret (pv 3)))))), ?_⟩
    obtain ⟨al, vL, row, t, ix, rfl, rt, TO, IX, hrow, hlen, q⟩ := h
    refine ⟨(by decide), fun kp hkp => ?_⟩
    have s0 : Same H (upd H kp (.lst [])) := fun b o e => by rw [upd_ne (ne_of_none e hkp)]; exact e
    have hsz : row.cps.toList.length = row.cps.size := Array.length_toList
    refine ⟨_, rfl, row, rfl, for_it walk_str (fun i σ H2 => ∃ (v5 : Option V) (acc : List Nat), σ = [some (.str al), some vL, some (.str row), some (.ref kp), some (.int ((runT t ix 0 (row.cps.toList.take i) : Nat) : Int)), v5] ∧ Same H H2 ∧ H2 kp = some (.lst (acc.map fun k => V.int (k : Nat))) ∧
      acc = aheadT t ix 0 (row.cps.toList.take i) ∧ runT t ix 0 (row.cps.toList.take i) < t.length)
      ⟨none, [], rfl, s0, upd_same, rfl, TO.ne⟩ (fun _ _ _ _ _ => trivial) ?_ ?_⟩
    · rintro i x σ H2 H3 hi ⟨v5, acc, rfl, s2, hacc, rfl, hlt⟩ ⟨eH, c, hc, rfl⟩
      replace eH := eH.symm
      subst eH
      have hc' : row.cps.toList[i]? = some c := by rw [Array.getElem?_toList]; exact hc
      have hcm : c ∈ al.cps.toList := hrow c (List.mem_of_getElem? hc')
      have htk : row.cps.toList.take (i + 1) = row.cps.toList.take i ++ [c] := by rw [List.take_succ, hc']; rfl
      have hal : (aheadT t ix 0 (row.cps.toList.take i)).length ≤ 1000 := by
        rw [aheadT_length, List.length_take, hsz]
        have : row.cps.size ≤ 1000 := hlen
        omega
      refine ⟨.ref kp, rfl, .inl ⟨rfl, _, SqL.of hacc⟩, .int _, rfl, kp, _, _, rfl, rfl, hacc, by rw [List.length_map]; exact Nat.lt_of_le_of_lt hal (by decide), ?_⟩
      obtain ⟨a, xs, b, ys, rfl, ha, hb, hB, hy⟩ := rt_move rt TO hlt (IX.lt c hcm)
      have nka : a ≠ kp := fun z => by rw [z, hkp] at ha; cases ha
      have nkb : b ≠ kp := fun z => by rw [z, hkp] at hB; cases hB
      have s3 : Same H (upd H2 kp (.lst ((aheadT t ix 0 (row.cps.toList.take i)).map (fun k => V.int (k : Nat)) ++ [V.int ((runT t ix 0 (row.cps.toList.take i) : Nat) : Int)]))) := fun b o e => by
        rw [upd_ne (ne_of_none e hkp)]
        exact s2 b o e
      refine ⟨.ref a, rfl, .int _, rfl, a, xs, _, .ref b, rfl, rfl, SqT.of (s3 _ _ ha), atI_nat hb, .str al, rfl, ⟨al, rfl⟩, .str ⟨#[c]⟩, rfl, al, ⟨#[c]⟩, rfl, rfl, b, ys, _, .int ((stepT t (runT t ix 0 (row.cps.toList.take i)) (ix c) : Nat) : Int), rfl, rfl, SqT.of (s3 _ _ hB), ?_, ?_⟩
      · rw [IX.find c hcm]
        exact atI_nat hy
      · refine ⟨some (.str ⟨#[c]⟩), aheadT t ix 0 (row.cps.toList.take i) ++ [runT t ix 0 (row.cps.toList.take i)], ?_, s3, ?_, ?_, ?_⟩
        · rw [htk, runT_snoc]
          rfl
        · rw [upd_same, List.map_append]
          rfl
        · rw [htk, aheadT_snoc]
        · rw [htk, runT_snoc]
          exact stepT_lt TO hlt (IX.lt c hcm)
    · rintro σ H2 ⟨v5, acc, rfl, s2, hacc, rfl, hlt⟩
      refine ⟨.ref kp, rfl, ?_⟩
      refine q H2 kp s2 hkp ?_
      rw [← hsz, List.take_length] at hacc
      exact hacc
end
end Kx
set_option Elab.async false
set_option linter.all false
set_option maxRecDepth 100000
set_option maxHeartbeats 2000000
namespace Kx
open PySem PySem.Spec PyProof.Rows L2
def behindT (t : Tab) (ix : Nat → Nat) (cs : List Nat) : List Nat := (aheadT t ix 0 cs.reverse).reverse
theorem revS_list (z : Str) : (revS z).cps.toList = z.cps.toList.reverse := rfl
theorem revS_length (z : Str) : (revS z).length = z.length := by
  show (z.cps.toList.reverse.toArray).size = z.cps.size
  rw [List.size_toArray, List.length_reverse, Array.length_toList]
section
variable {P : Program} {w : World} {K : PySem.W.Frag} {mg : Str → Option Value} {base : Heap}
def sp_standings_behind : Sp := fun vs H Q _ => ∃ (al : Str) (vL : V) (row : Str) (t : Tab) (ix : Nat → Nat), vs = [.str al, vL, .str row] ∧ Rt H vL (encR t) ∧ TabOk t al.length ∧ IxOk al ix ∧ (∀ c ∈ row.cps.toList, c ∈ al.cps.toList) ∧ row.length ≤ 1000 ∧
  ∀ H' p, Same H H' → H p = none → H' p = some (.lst ((behindT t ix row.cps.toList).map fun k => V.int (k : Nat))) → Q (.ref p) H'
theorem ok_standings_behind (T : Txt K mg) : Cal P w K mg base CX0 2 "standings_behind" ["alphabet", "right", "row"] sp_standings_behind := by
  obtain ⟨fd, F⟩ := F_standings_behind T
  refine cal_mk F (g_standings_behind T) sc_standings_behind (fun _ _ _ _ _ _ us hl => match us, hl with | [_, _, _], _ => rfl) (fun vs H Q E h => ?_) (fun cdv A outer s H vs Q E hr h => ?_)
  · obtain ⟨al, vL, row, t, ix, rfl, _⟩ := h; rfl
  · refine ⟨_, PSs.nox (pss_one (ps_ret (pe_revL (pe_cal (ok_standings_ahead T) hr pass0 (pa_cons (pv 0) (pa_cons (pv 1) (pa_cons (pe_revS (pv 2)) pa_nil))))))), ?_⟩
    obtain ⟨al, vL, row, t, ix, rfl, rt, TO, IX, hrow, hlen, q⟩ := h
    refine ⟨.str al, rfl, vL, rfl, .str row, rfl, row, rfl, Nat.le_trans hlen (by decide), al, vL, revS row, t, ix, rfl, rt, TO, IX, fun c hc => hrow c ?_, by rw [revS_length]; exact hlen, fun H1 p s1 hp e1 => ?_⟩
    · rw [revS_list] at hc
      exact List.mem_reverse.mp hc
    · refine ⟨p, _, rfl, SqL.of e1, fun p2 hp2 => ?_⟩
      have s2 : Same H1 (upd H1 p2 (.lst ((aheadT t ix 0 (revS row).cps.toList).map fun k => V.int (k : Nat)).reverse)) := fun b o e => by rw [upd_ne (ne_of_none e hp2)]; exact e
      refine q _ p2 (s1.trans s2) (s1.free hp2) ?_
      rw [upd_same, ← List.map_reverse]
      rfl
/-! ### has_bit -/
def sp_has_bit : Sp := fun vs H Q _ => ∃ m n : Nat, vs = [.int (m : Nat), .int (n : Nat)] ∧ Q (.bl (m.testBit n)) H
theorem bit_is (m n : Nat) : decide (V.int (Builtin.bitAnd ((m : Int) / 2 ^ ((n : Int)).toNat) 1) = V.int 1) = m.testBit n := by
  have e1 : Builtin.bitAnd ((m : Int) / 2 ^ ((n : Int)).toNat) 1 = (((m / 2 ^ n) % 2 : Nat) : Int) := by
    rw [Int.toNat_natCast]
    have := PyProof.Rows.bitAnd_m1 ((m : Int) / 2 ^ n)
    rw [this]
    push_cast
    rfl
  rw [e1, Nat.testBit_eq_decide_div_mod_eq, dec_int]
  congr 1
  apply propext
  omega
theorem ok_has_bit (T : Txt K mg) : Cal P w K mg base CX0 1 "has_bit" ["mask", "number"] sp_has_bit := by
  obtain ⟨fd, F⟩ := F_has_bit T
  refine cal_mk F (g_has_bit T) sc_has_bit (fun _ _ _ _ _ _ us hl => match us, hl with | [_, _], _ => rfl) (fun vs H Q E h => ?_) (fun cdv A outer s H vs Q E hr h => ?_)
  · obtain ⟨m, n, rfl, _⟩ := h; rfl
  · refine ⟨_, PSs.nox (pss_one (ps_ret (pe_cmpR op_eq (pe_op op_and (pe_op op_shr (pv 0) (pv 1)) pe_int) pe_int (nomark _)))), ?_⟩
    obtain ⟨m, n, rfl, q⟩ := h
    refine ⟨_, rfl, _, rfl, _, _, rfl, rfl, Int.natCast_nonneg _, _, _, rfl, rfl, rfl, ?_⟩
    rw [← bit_is] at q
    exact q
end
end Kx
set_option Elab.async false
set_option linter.all false
set_option maxRecDepth 100000
set_option maxHeartbeats 2000000
namespace Kx
open PySem PySem.Spec PyProof.Rows L2
theorem cut1 (z : Str) : (cutS z (some 1) none).cps.toList = z.cps.toList.drop 1 := by
  unfold cutS
  have hz : z.cps.toList.length = z.length := Array.length_toList
  have e1 : HT.sIx z.length 0 (some 1) = min 1 z.length := by
    unfold HT.sIx
    simp
    try omega
  have e2 : HT.sIx z.length z.length none = z.length := rfl
  rw [e1, e2]
  show ((z.cps.toList.drop (min 1 z.length)).take (z.length - min 1 z.length)) = _
  rw [List.take_of_length_le (by rw [List.length_drop, hz]; exact Nat.le_refl _)]
  by_cases h : 1 ≤ z.length
  · rw [Nat.min_eq_left h]
  · have : z.length = 0 := by omega
    have hl : z.cps.toList = [] := List.length_eq_zero_iff.mp (by rw [hz]; exact this)
    rw [hl]
    simp
/-! ### alphabets -/
def lettersL : List Nat := ("abcdefgh" : Str).cps.toList
def ascL (l : List Nat) : Bool := (l.zip (l.drop 1)).all fun p => decide ([p.1] < [p.2])
def alphaL (l : List Nat) : Bool := decide (1 ≤ l.length ∧ l.length ≤ 8) && (l.all (fun c => decide (c ∈ lettersL)) && ascL l)
def alphaD : PyData → Bool
  | .str z => alphaL z.cps.toList
  | _ => false
/-- a text that is passed is not very long -/
def smallT (d : PyData) : Prop := ∀ z, d = .str z → z.length ≤ 100000
theorem len_abc : ("abcdefgh" : Str).length = 8 := by decide +kernel
section
variable {P : Program} {w : World} {K : PySem.W.Frag} {mg : Str → Option Value} {base : Heap}
def sp_is_alphabet : Sp := fun vs H Q _ => ∃ (v : V) (d : PyData), vs = [v] ∧ Rp H v d ∧ smallT d ∧ ∀ H', Same H H' → Q (.bl (alphaD d)) H'
theorem kd_str {d : PyData} (h : (kd d).is "str" = true) : ∃ z, d = .str z := by
  cases d <;> first | exact ⟨_, rfl⟩ | (exact Bool.noConfusion h)
theorem kd_nstr {d : PyData} (h : (kd d).is "str" = false) : alphaD d = false := by
  cases d <;> first | rfl | (exact Bool.noConfusion h)
/-- a list of bools that was just made is what all is asked of -/
theorem bls_of {acc : List V} {bs : List Bool} (hl : acc.length = bs.length) (h : ∀ (i : Nat) (v : V), acc[i]? = some v → ∀ b, bs[i]? = some b → v = .bl b) : acc = bs.map V.bl := by
  apply List.ext_getElem?
  intro i
  by_cases hi : i < bs.length
  · have h1 : acc[i]? = some (acc[i]'(by omega)) := List.getElem?_eq_getElem (by omega)
    rw [h1, h i _ h1 bs[i] (List.getElem?_eq_getElem hi)]
    simp [hi]
  · rw [List.getElem?_eq_none (by omega), List.getElem?_eq_none (by simp; omega)]
theorem ok_is_alphabet (T : Txt K mg) : Cal P w K mg base CX0 1 "is_alphabet" ["thing"] sp_is_alphabet := by
  obtain ⟨fd, F⟩ := F_is_alphabet T
  obtain ⟨t8, h8⟩ := T.s8
  refine cal_mk F (g_is_alphabet T) sc_is_alphabet (fun _ _ _ _ _ _ us hl => match us, hl with | [_], _ => rfl) (fun vs H Q E h => ?_) (fun cdv A outer s H vs Q E hr h => ?_)
  · obtain ⟨v, d, rfl, _⟩ := h; rfl
  · refine ⟨_, PSs.nox (pss_cons (ps_if (PW.pt (pw_or (pt_not (pt_val (pe_callB call_isB (by rfl) (fr_isinstance T) b_isinstance (pa_cons (pv 0) (pa_cons (pe_ty (fr_str T) b_str) pa_nil)))))
        (pw_or1 (pt_not (pt_chain op_le op_le pe_int (pe_callB call_len (by rfl) (fr_len T) boot_len (pa_cons (pv 0) pa_nil)) (pe_callB call_len (by rfl) (fr_len T) boot_len (pa_cons (pe_glob (v := .str "abcdefgh") (by rfl) h8 ⟨t8, rfl⟩) pa_nil))))))) (pss_one (ps_ret pe_bl)) pss_nil)
      (pss_cons (ps_set (i := 1) sc_is_alphabet.nd rfl (Or.inl rfl) (pe_callB (cr_all rfl) (by rfl) (fr_all T) b_all (pa_cons (pe_lc (own := [("letter", 2)]) (g := gName 2) (tt := tYes) rfl sc_is_alphabet.nd (pi_str (pv 0)) (blkOk_by (N := N_is_alphabet) (sc := defScope s_is_alphabet) (by decide +kernel))
        (fun _ _ _ _ _ => pg_name (i := 2) sc_is_alphabet.nd rfl (Or.inl rfl)) (fun _ _ _ _ _ => pts_nil) (fun _ _ _ _ _ => pe_cmpR op_in_sign (pv 2) (pe_glob (v := .str "abcdefgh") (by rfl) h8 ⟨t8, rfl⟩) rfl)) pa_nil)))
      (pss_one (ps_ret (pe_and (pv 1) (pe_one (pe_callB (cr_all rfl) (by rfl) (fr_all T) b_all (pa_cons (pe_lc (own := [("one", 3), ("other", 4)]) (g := gTup K 2 (gCons (gName 3) (gCons (gName 4) gNil))) (tt := tYes) rfl sc_is_alphabet.nd
        (pi_zip2S (by rfl) (fr_zip T) (pa_cons (pv 0) (pa_cons (pe_slice sl_str (pv 0) (po_some pe_int) po_none) pa_nil))) (blkOk_by (N := N_is_alphabet) (sc := defScope s_is_alphabet) (by decide +kernel))
        (fun _ _ _ _ _ => by exact pg_tup rfl (pgs_cons (pg_name (i := 3) sc_is_alphabet.nd rfl (Or.inl rfl)) (pgs_cons (pg_name (i := 4) sc_is_alphabet.nd rfl (Or.inl rfl)) pgs_nil))) (fun _ _ _ _ _ => pts_nil) (fun _ _ _ _ _ => pe_cmpR op_lt_str (pv 3) (pv 4) (nomark _))) pa_nil)))))))), ?_⟩
    obtain ⟨v, d, rfl, rd, sm, q⟩ := h
    refine ⟨v, rfl, v, "str", kd d, rfl, rd.ko, k_str _, _, rfl, ?_⟩
    cases hb : (kd d).is "str" with
    | false =>
      refine iteT (iteT ?_)
      rw [kd_nstr hb] at q
      exact q H (Same.refl H)
    | true =>
      refine iteF ?_
      obtain ⟨z, rfl⟩ := kd_str hb
      cases rd
      have hz : z.cps.toList.length = z.length := Array.length_toList
      have hzs : z.length ≤ 100000 := sm z rfl
      have hal : ¬ (1 ≤ z.length ∧ z.length ≤ 8) → alphaD (.str z) = false := fun hn => by
        show alphaL z.cps.toList = false
        unfold alphaL
        rw [hz, decide_eq_false hn, Bool.false_and]
      refine ⟨.str z, rfl, _, _, rfl, lenV_str hzs, 1, _, rfl, rfl, _, rfl, ?_⟩
      by_cases h1 : (1 : Int) ≤ (z.length : Int)
      · rw [decide_eq_true h1]
        refine iteT ⟨.str "abcdefgh", 8, rfl, ⟨by decide, len_abc.symm⟩, _, _, rfl, rfl, _, rfl, ?_⟩
        by_cases h2 : (z.length : Int) ≤ ((8 : Nat) : Int)
        · rw [decide_eq_true h2]
          refine iteF ?_
          refine ⟨.str z, rfl, z, rfl, fun D hD => ?_⟩
          refine lc_new walk_str hD (Nat.le_trans (by show z.length ≤ 100000; exact hzs) (by decide)) (fun (i : Nat) _ v => ∀ c, z.cps.toList[i]? = some c → v = V.bl (decide (c ∈ lettersL))) (fun _ _ _ _ _ h => h) (fun _ _ => trivial)
            (fun i x H2 H3 Qk hi sH hy hk => ?_) (fun H2 acc s2 hD2 hl hv => ?_)
          · obtain ⟨e, c, hc, rfl⟩ := hy
            subst e
            refine ⟨rfl, .str ⟨#[c]⟩, rfl, c, "abcdefgh", rfl, rfl, hk _ _ (Same.refl _) fun c' hc' => ?_⟩
            rw [Array.getElem?_toList, hc] at hc'
            cases hc'
            rfl
          · have ea : acc = (z.cps.toList.map fun c => decide (c ∈ lettersL)).map V.bl := by
              refine bls_of (by rw [List.length_map, hz]; exact hl) fun i v hi b hb => ?_
              rw [List.getElem?_map] at hb
              cases hc : z.cps.toList[i]? with
              | none => rw [hc] at hb; cases hb
              | some c =>
                rw [hc] at hb
                cases hb
                exact hv i v hi c hc
            refine ⟨D, _, rfl, SqL.of (by rw [hD2, ea]), ?_⟩
            refine ⟨_, rfl, _, rfl, ?_⟩
            have hmain : alphaD (.str z) = ((z.cps.toList.map fun c => decide (c ∈ lettersL)).all id && ascL z.cps.toList) := by
              show alphaL z.cps.toList = _
              unfold alphaL
              have hn : 1 ≤ z.length ∧ z.length ≤ 8 := by omega
              rw [hz, decide_eq_true hn, Bool.true_and, List.all_map]
              rfl
            cases hk1 : (z.cps.toList.map fun c => decide (c ∈ lettersL)).all id with
            | false =>
              refine iteF ?_
              rw [hmain, hk1, Bool.false_and] at q
              exact q H2 s2
            | true =>
              refine iteT ?_
              rw [hmain, hk1, Bool.true_and] at q
              refine ⟨.str z, rfl, .str z, rfl, 1, rfl, z, rfl, Nat.le_trans hzs (by decide), .str z, _, _, _, .str (cutS z (some 1) none), _, _, _, rfl, .txt z, .txt _, trivial, trivial, fun D2 hD3 => ?_⟩
              have hz2 : (cutS z (some 1) none).cps.size = z.length - 1 := by
                rw [← Array.length_toList, cut1, List.length_drop, hz]
              have hmin : min z.cps.size (cutS z (some 1) none).cps.size = z.length - 1 := by
                rw [hz2]
                show min z.length (z.length - 1) = z.length - 1
                omega
              refine lc_new (walk_new (n := min z.cps.size (cutS z (some 1) none).cps.size)) hD3 (by rw [hmin]; exact Nat.le_trans (Nat.sub_le _ _) (Nat.le_trans hzs (by decide)))
                (fun (i : Nat) _ v => ∀ c d, z.cps.toList[i]? = some c → (z.cps.toList.drop 1)[i]? = some d → v = V.bl (decide ([c] < [d]))) (fun _ _ _ _ _ h => h) (fun _ _ => ⟨trivial, trivial⟩)
                (fun i x H3 H4 Qk hi sH hy hk => ?_) (fun H3 acc2 s3 hD4 hl2 hv2 => ?_)
              · obtain ⟨Tt, vs, rfl, hTn, rfl, a, b, rfl, ⟨c, hc, rfl⟩, ⟨d, hd, rfl⟩⟩ := hy
                have s4 : Same H3 (upd H3 Tt (.tup [.str ⟨#[c]⟩, .str ⟨#[d]⟩])) := fun b o e => by rw [upd_ne (ne_of_none e hTn)]; exact e
                refine ⟨Tt, _, rfl, SqT.of upd_same, rfl, _, _, rfl, _, _, rfl, rfl, rfl, _, rfl, _, rfl, ⟨#[c]⟩, ⟨#[d]⟩, rfl, rfl, hk _ _ s4 fun c' d' hc' hd' => ?_⟩
                rw [Array.getElem?_toList, hc] at hc'
                rw [← cut1, Array.getElem?_toList, hd] at hd'
                cases hc'
                cases hd'
                rfl
              · have ea2 : acc2 = ((z.cps.toList.zip (z.cps.toList.drop 1)).map fun p => decide ([p.1] < [p.2])).map V.bl := by
                  refine bls_of (by rw [List.length_map, List.length_zip, List.length_drop, hz, hl2, hmin]; omega) fun i v hi b hb => ?_
                  rw [List.getElem?_map] at hb
                  cases hp : (z.cps.toList.zip (z.cps.toList.drop 1))[i]? with
                  | none => rw [hp] at hb; cases hb
                  | some p =>
                    rw [hp] at hb
                    cases hb
                    obtain ⟨h5, h6⟩ := List.getElem?_zip_eq_some.mp hp
                    exact hv2 i v hi _ _ h5 h6
                refine ⟨D2, _, rfl, SqL.of (by rw [hD4, ea2]), ?_⟩
                have e5 : ((z.cps.toList.zip (z.cps.toList.drop 1)).map fun p => decide ([p.1] < [p.2])).all id = ascL z.cps.toList := by
                  unfold ascL
                  rw [List.all_map]
                  rfl
                rw [e5]
                exact q H3 (s2.trans s3)
        · rw [decide_eq_false h2]
          refine iteT ?_
          rw [hal (by omega)] at q
          exact q H (Same.refl H)
      · rw [decide_eq_false h1]
        refine iteF ⟨_, rfl, ?_⟩
        refine iteT ?_
        rw [hal (by omega)] at q
        exact q H (Same.refl H)
end
end Kx
set_option Elab.async false
set_option linter.all false
set_option maxRecDepth 100000
set_option maxHeartbeats 2000000
namespace Kx
open PySem PySem.Spec PyProof.Rows L2
/-- a one-field error, at every new own dict -/
def errAt (C : Addr) (f : Str) (v : V) (H : Hp) (E : XK) : Prop := ∀ H', Same H H' → ∀ dx, H' dx = none → E (.ref C) (some dx) (upd H' dx (.xd [(f, v)]))
section
variable {P : Program} {w : World} {K : PySem.W.Frag} {mg : Str → Option Value} {base : Heap}
def sp_check_alphabet (K : PySem.W.Frag) : Sp := fun vs H Q E => ∃ (v : V) (d : PyData), vs = [v] ∧ Rp H v d ∧ smallT d ∧ (alphaD d = false → errAt (He.ga K "BadAlphabet") "thing" v H E) ∧ (alphaD d = true → ∀ H', Same H H' → Q .non H')
theorem ok_check_alphabet (T : Txt K mg) : Cal P w K mg base (L2N.CX P w) 3 "check_alphabet" ["thing"] (sp_check_alphabet K) := by
  obtain ⟨fd, F⟩ := F_check_alphabet T
  obtain ⟨fdR, FR⟩ := F_BadAlphabet___init__ T
  have bR : Binds K fdR ["self", "thing"] [] := FR.bindsN fun _ _ _ _ _ _ us hl => match us, hl with | [_, _], _ => rfl
  have ex : Ex K "BadAlphabet" ["thing"] := ex_of T 0
  refine cal_mk F (g_check_alphabet T) sc_check_alphabet (fun _ _ _ _ _ _ us hl => match us, hl with | [_], _ => rfl) (fun vs H Q E h => ?_) (fun cdv A outer s H vs Q E hr h => ?_)
  · obtain ⟨v, d, rfl, _⟩ := h; rfl
  · refine ⟨_, pss_one (ps_if (pt_not (pt_val (pe_cal (ok_is_alphabet T) (hr.mono (by decide)) pass0 (pa_cons (pv 0) pa_nil))))
      (pss_one (ps_raise1 ex (f := "thing") (by decide) rfl (ini_thing FR) bR hr (L2N.takes_of rfl rfl rfl rfl) (g_BadAlphabet T) (pa_cons (pv 0) pa_nil))) pss_nil), ?_⟩
    obtain ⟨v, d, rfl, rd, sm, kE, kQ⟩ := h
    refine ⟨v, rfl, v, d, rfl, rd, sm, fun H1 s1 => ⟨_, rfl, ?_⟩⟩
    cases hb : alphaD d with
    | false => exact iteT ⟨v, rfl, v, rfl, fun dx hd => kE hb H1 s1 dx hd⟩
    | true => exact iteF (kQ hb H1 s1)
/-! ### letters -/
def letterL (al : List Nat) : PyData → Bool
  | .str z => match z.cps.toList with
    | [c] => decide (c ∈ al)
    | _ => false
  | _ => false
def sp_is_letter : Sp := fun vs H Q _ => ∃ (al : Str) (v : V) (d : PyData), vs = [.str al, v] ∧ Rp H v d ∧ smallT d ∧ Q (.bl (letterL al.cps.toList d)) H
theorem kd_nstr2 {d : PyData} {al : List Nat} (h : (kd d).is "str" = false) : letterL al d = false := by
  cases d <;> first | rfl | (exact Bool.noConfusion h)
theorem ok_is_letter (T : Txt K mg) : Cal P w K mg base CX0 1 "is_letter" ["alphabet", "thing"] sp_is_letter := by
  obtain ⟨fd, F⟩ := F_is_letter T
  refine cal_mk F (g_is_letter T) sc_is_letter (fun _ _ _ _ _ _ us hl => match us, hl with | [_, _], _ => rfl) (fun vs H Q E h => ?_) (fun cdv A outer s H vs Q E hr h => ?_)
  · obtain ⟨al, v, d, rfl, _⟩ := h; rfl
  · refine ⟨_, PSs.nox (pss_one (ps_ret (pe_and (pe_callB call_isB (by rfl) (fr_isinstance T) b_isinstance (pa_cons (pv 1) (pa_cons (pe_ty (fr_str T) b_str) pa_nil)))
      (pe_and (pe_cmpR op_eq (pe_callB call_len (by rfl) (fr_len T) boot_len (pa_cons (pv 1) pa_nil)) pe_int (nomark _)) (pe_one (pe_cmpR op_in_sign (pv 1) (pv 0) rfl)))))), ?_⟩
    obtain ⟨al, v, d, rfl, rd, sm, q⟩ := h
    refine ⟨v, rfl, v, "str", kd d, rfl, rd.ko, k_str _, _, rfl, ?_⟩
    cases hb : (kd d).is "str" with
    | false =>
      refine iteF ?_
      rw [kd_nstr2 hb] at q
      exact q
    | true =>
      refine iteT ?_
      obtain ⟨z, rfl⟩ := kd_str hb
      cases rd
      have hz : z.cps.toList.length = z.length := Array.length_toList
      refine ⟨.str z, rfl, _, _, rfl, lenV_str (sm z rfl), rfl, _, rfl, ?_⟩
      rw [show decide (V.int (z.length : Int) = V.int 1) = decide ((z.length : Int) = 1) from dec_int _ _]
      by_cases h1 : (z.length : Int) = 1
      · rw [decide_eq_true h1]
        refine iteT ?_
        cases hl : z.cps.toList with
        | nil => rw [hl] at hz; simp at hz; omega
        | cons c r =>
          cases r with
          | cons c2 r2 => rw [hl] at hz; simp at hz; omega
          | nil =>
            have ez : z = ⟨#[c]⟩ := by
              obtain ⟨⟨l⟩⟩ := z
              have hl' : l = [c] := hl
              rw [hl']
            subst ez
            exact ⟨_, rfl, _, rfl, c, al, rfl, rfl, q⟩
      · rw [decide_eq_false h1]
        refine iteF ?_
        have e : letterL al.cps.toList (.str z) = false := by
          show (match z.cps.toList with | [c] => decide (c ∈ al.cps.toList) | _ => false) = false
          split
          · rename_i c hc
            rw [hc] at hz
            simp at hz
            omega
          · rfl
        rw [e] at q
        exact q
/-! ### rows -/
def firstNot (al : List Nat) : List Nat → Nat → Option Int
  | [], _ => none
  | c :: cs, k => if c ∈ al then firstNot al cs (k + 1) else some (k : Nat)
def wrongL (al : List Nat) : PyData → Option Int
  | .str z => if z.length ≤ 200 then firstNot al z.cps.toList 0 else some (-1)
  | _ => some (-1)
def optV : Option Int → V
  | none => .non
  | some k => .int k
theorem firstNot_at {al : List Nat} : ∀ {cs : List Nat} {k i c : Nat}, cs[i]? = some c → (∀ j x, j < i → cs[j]? = some x → x ∈ al) → c ∉ al → firstNot al cs k = some ((k + i : Nat) : Int)
  | [], _, i, _, h, _, _ => by simp at h
  | d :: cs, k, 0, x, h, _, hp => by
    have e : d = x := by simpa using h
    unfold firstNot
    rw [e, if_neg hp]
    rfl
  | d :: cs, k, i + 1, x, h, ha, hp => by
    have h0 := ha 0 d (Nat.succ_pos _) rfl
    unfold firstNot
    rw [if_pos h0, firstNot_at (k := k + 1) (i := i) (by simpa using h) (fun j y hj hy => ha (j + 1) y (by omega) (by simpa using hy)) hp]
    congr 2
    omega
theorem firstNot_none {al : List Nat} : ∀ {cs : List Nat} {k : Nat}, (∀ (j : Nat) x, cs[j]? = some x → x ∈ al) → firstNot al cs k = none
  | [], _, _ => rfl
  | d :: cs, k, h => by
    unfold firstNot
    rw [if_pos (h 0 d rfl)]
    exact firstNot_none fun j y hy => h (j + 1) y (by simpa using hy)
def sp_wrong_at : Sp := fun vs H Q _ => ∃ (al : Str) (v : V) (d : PyData), vs = [.str al, v] ∧ Rp H v d ∧ smallT d ∧ ∀ H', Same H H' → Q (optV (wrongL al.cps.toList d)) H'
theorem kd_nstr3 {d : PyData} {al : List Nat} (h : (kd d).is "str" = false) : wrongL al d = some (-1) := by
  cases d <;> first | rfl | (exact Bool.noConfusion h)
theorem ok_wrong_at (T : Txt K mg) : Cal P w K mg base CX0 1 "wrong_at" ["alphabet", "thing"] sp_wrong_at := by
  obtain ⟨fd, F⟩ := F_wrong_at T
  obtain ⟨t2, h200⟩ := T.i200
  refine cal_mk F (g_wrong_at T) sc_wrong_at (fun _ _ _ _ _ _ us hl => match us, hl with | [_, _], _ => rfl) (fun vs H Q E h => ?_) (fun cdv A outer s H vs Q E hr h => ?_)
  · obtain ⟨al, v, d, rfl, _⟩ := h; rfl
  · refine ⟨_, PSs.nox (pss_cons (ps_if (PW.pt (pw_or (pt_not (pt_val (pe_callB call_isB (by rfl) (fr_isinstance T) b_isinstance (pa_cons (pv 1) (pa_cons (pe_ty (fr_str T) b_str) pa_nil)))))
        (pw_or1 (pt_cmpR op_gt (pe_callB call_len (by rfl) (fr_len T) boot_len (pa_cons (pv 1) pa_nil)) (pe_glob (v := .int 200) (by rfl) h200 ⟨t2, rfl⟩) (nomark _))))) (pss_one (ps_ret (pe_un un_neg pe_int))) pss_nil)
      (pss_cons (ps_for PassesOwn.never rfl (pi_enumS (by rfl) (fr_enumerate T) (pa_cons (pv 1) pa_nil)) (pg_tup rfl (pgs_cons (pg_name (i := 2) sc_wrong_at.nd rfl (Or.inl rfl)) (pgs_cons (pg_name (i := 3) sc_wrong_at.nd rfl (Or.inl rfl)) pgs_nil)))
        (pss_one (ps_if (pt_cmpR op_notIn_sign (pv 3) (pv 0) rfl) (pss_one (ps_ret (pv 2))) pss_nil)))
      (pss_one (ps_ret pe_non)))), ?_⟩
    obtain ⟨al, v, d, rfl, rd, sm, q⟩ := h
    refine ⟨v, rfl, v, "str", kd d, rfl, rd.ko, k_str _, _, rfl, ?_⟩
    cases hb : (kd d).is "str" with
    | false =>
      refine iteT (iteT ?_)
      rw [kd_nstr3 hb] at q
      exact ⟨1, rfl, q H (Same.refl H)⟩
    | true =>
      refine iteF ?_
      obtain ⟨z, rfl⟩ := kd_str hb
      cases rd
      have hz : z.cps.toList.length = z.length := Array.length_toList
      refine ⟨.str z, rfl, _, _, rfl, lenV_str (sm z rfl), _, 200, rfl, rfl, _, rfl, ?_⟩
      by_cases h1 : (z.length : Int) > 200
      · rw [decide_eq_true h1]
        refine iteT ⟨1, rfl, ?_⟩
        have e : wrongL al.cps.toList (.str z) = some (-1) := if_neg (by omega)
        rw [e] at q
        exact q H (Same.refl H)
      · rw [decide_eq_false h1]
        refine iteF ?_
        have e : wrongL al.cps.toList (.str z) = firstNot al.cps.toList z.cps.toList 0 := if_pos (by omega)
        rw [e] at q
        refine ⟨_, rfl, .str z, _, _, _, rfl, .txt z, trivial, for_it walk_new (fun i σ H2 => ∃ (v2 v3 : Option V), σ = [some (.str al), some (.str z), v2, v3] ∧ Same H H2 ∧ ∀ (j : Nat) x, j < i → z.cps.toList[j]? = some x → x ∈ al.cps.toList)
          ⟨none, none, rfl, Same.refl H, fun j x hj => absurd hj (Nat.not_lt_zero _)⟩ (fun _ _ _ _ _ => trivial) ?_ ?_⟩
        · rintro i x σ H2 H3 hi ⟨v2, v3, rfl, s2, hall⟩ ⟨Tt, vs, rfl, hTn, rfl, y, rfl, c, hc, rfl⟩
          have s4 : Same H2 (upd H2 Tt (.tup [.int (i : Nat), .str ⟨#[c]⟩])) := fun b o e => by rw [upd_ne (ne_of_none e hTn)]; exact e
          have hc' : z.cps.toList[i]? = some c := by rw [Array.getElem?_toList]; exact hc
          refine ⟨Tt, _, rfl, SqT.of upd_same, rfl, _, _, rfl, _, _, rfl, rfl, .str ⟨#[c]⟩, rfl, .str al, rfl, c, al, rfl, rfl, _, rfl, ?_⟩
          by_cases hm : c ∈ al.cps.toList
          · rw [decide_eq_true hm]
            refine iteF ⟨_, _, rfl, s2.trans s4, fun j x hj hx => ?_⟩
            by_cases hji : j < i
            · exact hall j x hji hx
            · have : j = i := by omega
              subst this
              rw [hc'] at hx
              cases hx
              exact hm
          · rw [decide_eq_false hm]
            refine iteT ⟨.int (i : Nat), rfl, ?_⟩
            rw [firstNot_at hc' hall hm, Nat.zero_add] at q
            exact q _ (s2.trans s4)
        · rintro σ H2 ⟨v2, v3, rfl, s2, hall⟩
          rw [firstNot_none fun j x hx => hall j x (by rw [← Array.length_toList]; exact (List.getElem?_eq_some_iff.mp hx).1) hx] at q
          exact q H2 s2
def sp_check_row (K : PySem.W.Frag) : Sp := fun vs H Q E => ∃ (al : Str) (v : V) (d : PyData), vs = [.str al, v] ∧ Rp H v d ∧ smallT d ∧ (∀ k, wrongL al.cps.toList d = some k → errAt (He.ga K "BadRow") "at" (.int k) H E) ∧ (wrongL al.cps.toList d = none → ∀ H', Same H H' → Q .non H')
theorem ok_check_row (T : Txt K mg) : Cal P w K mg base (L2N.CX P w) 3 "check_row" ["alphabet", "thing"] (sp_check_row K) := by
  obtain ⟨fd, F⟩ := F_check_row T
  obtain ⟨fdR, FR⟩ := F_BadRow___init__ T
  have bR : Binds K fdR ["self", "at"] [] := FR.bindsN fun _ _ _ _ _ _ us hl => match us, hl with | [_, _], _ => rfl
  have ex : Ex K "BadRow" ["at"] := ex_of T 4
  refine cal_mk F (g_check_row T) sc_check_row (fun _ _ _ _ _ _ us hl => match us, hl with | [_, _], _ => rfl) (fun vs H Q E h => ?_) (fun cdv A outer s H vs Q E hr h => ?_)
  · obtain ⟨al, v, d, rfl, _⟩ := h; rfl
  · refine ⟨_, pss_cons (ps_set (i := 2) sc_check_row.nd rfl (Or.inl rfl) (pe_cal (ok_wrong_at T) (hr.mono (by decide)) pass0 (pa_cons (pv 0) (pa_cons (pv 1) pa_nil))))
      (pss_one (ps_if (pt_cmpR op_notN (pv 2) pe_non (nomark _)) (pss_one (ps_raise1 ex (f := "at") (by decide) rfl (ini_at FR) bR hr (L2N.takes_of rfl rfl rfl rfl) (g_BadRow T) (pa_cons (pv 2) pa_nil))) pss_nil)), ?_⟩
    obtain ⟨al, v, d, rfl, rd, sm, kE, kQ⟩ := h
    refine ⟨.str al, rfl, v, rfl, al, v, d, rfl, rd, sm, fun H1 s1 => ?_⟩
    cases hb : wrongL al.cps.toList d with
    | none =>
      refine ⟨_, rfl, rfl, _, rfl, ?_⟩
      exact iteF (kQ hb H1 s1)
    | some k =>
      refine ⟨_, rfl, rfl, _, rfl, ?_⟩
      exact iteT ⟨.int k, rfl, .int k, rfl, fun dx hd => kE k hb H1 s1 dx hd⟩
def sp_check_place (K : PySem.W.Frag) : Sp := fun vs H Q E => ∃ (row : Str) (v : V) (d : PyData), vs = [.str row, v] ∧ Rp H v d ∧ row.length ≤ 100000 ∧ (belowD row.length d = false → errAt (He.ga K "BadPlace") "thing" v H E) ∧ (belowD row.length d = true → Q .non H)
theorem ok_check_place (T : Txt K mg) : Cal P w K mg base (L2N.CX P w) 3 "check_place" ["row", "thing"] (sp_check_place K) := by
  obtain ⟨fd, F⟩ := F_check_place T
  obtain ⟨fdR, FR⟩ := F_BadPlace___init__ T
  have bR : Binds K fdR ["self", "thing"] [] := FR.bindsN fun _ _ _ _ _ _ us hl => match us, hl with | [_, _], _ => rfl
  have ex : Ex K "BadPlace" ["thing"] := ex_of T 1
  refine cal_mk F (g_check_place T) sc_check_place (fun _ _ _ _ _ _ us hl => match us, hl with | [_, _], _ => rfl) (fun vs H Q E h => ?_) (fun cdv A outer s H vs Q E hr h => ?_)
  · obtain ⟨row, v, d, rfl, _⟩ := h; rfl
  · refine ⟨_, pss_one (ps_if (pt_not (pt_val (pe_cal (ok_is_below T) hr pass0 (pa_cons (pv 1) (pa_cons (pe_callB call_len (by rfl) (fr_len T) boot_len (pa_cons (pv 0) pa_nil)) pa_nil)))))
      (pss_one (ps_raise1 ex (f := "thing") (by decide) rfl (ini_thing FR) bR hr (L2N.takes_of rfl rfl rfl rfl) (g_BadPlace T) (pa_cons (pv 1) pa_nil))) pss_nil), ?_⟩
    obtain ⟨row, v, d, rfl, rd, hr2, kE, kQ⟩ := h
    refine ⟨v, rfl, .str row, rfl, _, _, rfl, lenV_str hr2, v, _, kd d, rfl, rd.ko, _, rfl, ?_⟩
    rw [rp_below rd]
    cases hb : belowD row.length d with
    | false => exact iteT ⟨v, rfl, v, rfl, fun dx hd => kE hb H (Same.refl H) dx hd⟩
    | true => exact iteF (kQ hb)
end
end Kx
set_option Elab.async false
set_option linter.all false
set_option maxRecDepth 100000
set_option maxHeartbeats 2000000
namespace Kx
open PySem PySem.Spec PyProof.Rows L2
mutual
theorem Rt.dp {K : PySem.W.Frag} {H : Hp} : ∀ {v : V} {d : PyData}, Rt H v d → Dp K H v d
  | _, _, .non => .non
  | _, _, .bl b => .bl b
  | _, _, .int i => .int i
  | _, _, .str z => .str z
  | _, _, .tup e h => .tup (SqT.of e) (RtL.dp h)
theorem RtL.dp {K : PySem.W.Frag} {H : Hp} : ∀ {vs : List V} {ds : List PyData}, RtL H vs ds → DpAll K H vs ds
  | _, _, .nil => .nil
  | _, _, .cons h hs => .cons (Rt.dp h) (RtL.dp hs)
end
/-- a < b, alike data -/
def rLtD (K : PySem.W.Frag) : R2 := fun x y H Q => ∃ d e, Dp K H x d ∧ Dp K H y e ∧ PySem.W.alike d e = true ∧ d ≠ .none ∧ d.depth ≤ 60 ∧ Q (.bl (PySem.W.dataLt d e)) H
theorem op_ltD {X : Cx} (hu : X.A.units + 64 < cLine) : OpR X (compareOp .Lt) (rLtD X.K) := by
  intro pins s σ H x y v u Q I rx ry h
  obtain ⟨d, e, hd, he, ha, hn, hz, q⟩ := h
  obtain ⟨as, r1⟩ := Dp.reads I d x v hd rx
  obtain ⟨bs, r2⟩ := Dp.reads I e y u he ry
  exact PySem.W.rcLt_alike d e X.A s v u as bs r1 r2 ha hn (by have := Nat.min_le_left d.depth e.depth; omega) X.prog X.w _ _ ⟨.bl (PySem.W.dataLt d e), H, I, rfl, q⟩
/-! ### triples -/
def tripleD (al : List Nat) (nl nr : Int) (d : PyData) : Bool := match itemsD d with
  | some [a, b, c] => belowD nl a && (letterL al b && belowD nr c)
  | _ => false
def smallTri (d : PyData) : Prop := ∀ ds, itemsD d = some ds → ds.length ≤ 100000 ∧ ∀ x ∈ ds, smallT x
section
variable {P : Program} {w : World} {K : PySem.W.Frag} {mg : Str → Option Value} {base : Heap}
def sp_is_triple : Sp := fun vs H Q _ => ∃ (al : Str) (vl vr v : V) (dl dr : List PyData) (d : PyData), vs = [.str al, vl, vr, v] ∧ Rt H vl (.tuple dl) ∧ Rt H vr (.tuple dr) ∧ Rp H v d ∧ smallTri d ∧
  ∀ H', Same H H' → Q (.bl (tripleD al.cps.toList dl.length dr.length d)) H'
theorem rt_len {H : Hp} {v : V} {ds : List PyData} (h : Rt H v (.tuple ds)) : LenV K v H ds.length := by
  cases h with
  | tup e hs => exact .inr ⟨_, SqT.of e, hs.length.symm⟩
theorem seq_ix {H : Hp} {a : Addr} {xs : List V} {j : Nat} {y : V} {Q : VK} (h : H a = some (.lst xs) ∨ H a = some (.tup xs)) (hy : xs[j]? = some y) (q : Q y H) : rIx K (.ref a) (.int (j : Nat)) H Q := by
  rcases h with h | h
  · exact .inl ⟨a, xs, _, y, rfl, rfl, SqL.of h, atI_nat hy, q⟩
  · exact .inr (.inl ⟨a, xs, _, y, rfl, rfl, SqT.of h, atI_nat hy, q⟩)
theorem ok_is_triple (T : Txt K mg) : Cal P w K mg base CX0 3 "is_triple" ["alphabet", "left", "right", "thing"] sp_is_triple := by
  obtain ⟨fd, F⟩ := F_is_triple T
  refine cal_mk F (g_is_triple T) sc_is_triple (fun _ _ _ _ _ _ us hl => match us, hl with | [_, _, _, _], _ => rfl) (fun vs H Q E h => ?_) (fun cdv A outer s H vs Q E hr h => ?_)
  · obtain ⟨al, vl, vr, v, dl, dr, d, rfl, _⟩ := h; rfl
  · refine ⟨_, PSs.nox (pss_cons (ps_if (PW.pt (pw_or (pt_not (pt_val (pe_cal (ok_is_listing T) (hr.mono (by decide)) pass0 (pa_cons (pv 3) pa_nil))))
        (pw_or1 (pt_cmpR op_ne (pe_callB call_len (by rfl) (fr_len T) boot_len (pa_cons (pv 3) pa_nil)) pe_int (nomark _))))) (pss_one (ps_ret pe_bl)) pss_nil)
      (pss_cons (ps_set (i := 4) sc_is_triple.nd rfl (Or.inl rfl) (pe_and (pe_cal (ok_is_below T) hr pass0 (pa_cons (pe_ix ix_seq (pv 3) pe_int (fun _ _ => rfl)) (pa_cons (pe_callB call_len (by rfl) (fr_len T) boot_len (pa_cons (pv 1) pa_nil)) pa_nil)))
        (pe_one (pe_cal (ok_is_letter T) (hr.mono (by decide)) pass0 (pa_cons (pv 0) (pa_cons (pe_ix ix_seq (pv 3) pe_int (fun _ _ => rfl)) pa_nil))))))
      (pss_one (ps_ret (pe_and (pv 4) (pe_one (pe_cal (ok_is_below T) hr pass0 (pa_cons (pe_ix ix_seq (pv 3) pe_int (fun _ _ => rfl)) (pa_cons (pe_callB call_len (by rfl) (fr_len T) boot_len (pa_cons (pv 2) pa_nil)) pa_nil))))))))), ?_⟩
    obtain ⟨al, vl, vr, v, dl, dr, d, rfl, rl, rr, rd, sm, q⟩ := h
    refine ⟨v, rfl, v, kd d, rfl, rd.ko, fun H1 s1 => ⟨_, rfl, ?_⟩⟩
    have rd1 := rd.same s1
    cases hb : (kd d == Kd.lst || kd d == Kd.tup) with
    | false =>
      refine iteT (iteT ?_)
      have e : tripleD al.cps.toList dl.length dr.length d = false := by unfold tripleD; rw [itemsD_none hb]
      rw [e] at q
      exact q H1 s1
    | true =>
      refine iteF ?_
      obtain ⟨ds, hds⟩ := itemsD_kd hb
      obtain ⟨a, xs, rfl, hxs, hsq⟩ := rp_seq rd1 hds
      have hl : xs.length = ds.length := hxs.length
      refine ⟨_, rfl, _, _, rfl, lenV_seq hsq, rfl, _, rfl, ?_⟩
      rw [show decide (V.int (xs.length : Int) = V.int 3) = decide ((xs.length : Int) = 3) from dec_int _ _]
      by_cases h3 : (xs.length : Int) = 3
      · rw [decide_eq_true h3]
        refine iteF ?_
        have hd3 : ds.length = 3 := by omega
        match ds, hd3, hds, hxs, sm with
        | [d0, d1, d2], _, hds, hxs, sm =>
          have sms := (sm _ hds).2
          cases hxs with
          | @cons v0 xs1 _ _ r0 hx1 =>
            cases hx1 with
            | @cons v1 xs2 _ _ r1 hx2 =>
              cases hx2 with
              | @cons v2 xs3 _ _ r2 hx3 =>
                cases hx3
                have e : tripleD al.cps.toList dl.length dr.length d = (belowD dl.length d0 && (letterL al.cps.toList d1 && belowD dr.length d2)) := by unfold tripleD; rw [hds]
                rw [e] at q
                have rl1 := rl.tups (Same.tups s1)
                have rr1 := rr.tups (Same.tups s1)
                refine ⟨.ref a, rfl, seq_ix (j := 0) hsq rfl ⟨vl, rfl, _, _, rfl, rt_len rl1, v0, _, kd d0, rfl, r0.ko, _, rfl, ?_⟩⟩
                rw [rp_below r0]
                cases hb0 : belowD dl.length d0 with
                | false =>
                  refine iteF ⟨_, rfl, _, rfl, iteF ?_⟩
                  rw [hb0, Bool.false_and] at q
                  exact q H1 s1
                | true =>
                  rw [hb0, Bool.true_and] at q
                  refine iteT ⟨.str al, rfl, .ref a, rfl, seq_ix (j := 1) hsq rfl ⟨al, v1, d1, rfl, r1, sms d1 (by simp), _, rfl, _, rfl, ?_⟩⟩
                  cases hb1 : letterL al.cps.toList d1 with
                  | false =>
                    rw [hb1, Bool.false_and] at q
                    exact iteF (q H1 s1)
                  | true =>
                    rw [hb1, Bool.true_and] at q
                    refine iteT ⟨.ref a, rfl, seq_ix (j := 2) hsq rfl ⟨vr, rfl, _, _, rfl, rt_len rr1, v2, _, kd d2, rfl, r2.ko, ?_⟩⟩
                    rw [rp_below r2]
                    exact q H1 s1
      · rw [decide_eq_false h3]
        refine iteT ?_
        have e : tripleD al.cps.toList dl.length dr.length d = false := by
          unfold tripleD
          rw [hds]
          match ds, hl with
          | [], _ => rfl
          | [_], _ => rfl
          | [_, _], _ => rfl
          | [_, _, _], hl => exact absurd (by rw [hl]; rfl) h3
          | _ :: _ :: _ :: _ :: _, _ => rfl
        rw [e] at q
        exact q H1 s1
end
end Kx
set_option Elab.async false
set_option linter.all false
set_option maxRecDepth 100000
set_option maxHeartbeats 2000000
namespace Kx
open PySem PySem.Spec PyProof.Rows L2
def goMarked (al : List Nat) (nl nr : Int) : Option PyData → List PyData → Int → Option Int
  | _, [], _ => none
  | prev, d :: ds, k => if tripleD al nl nr d = true then (if (prev.all fun p => PySem.W.dataLt p (tupOf d)) = true then goMarked al nl nr (some (tupOf d)) ds (k + 1) else some k) else some k
def markedDue (al : List Nat) (nl nr : Int) (d : PyData) : Option Int := match itemsD d with
  | none => some (-1)
  | some ds => goMarked al nl nr none ds 0
theorem hu64 {A : Around} {k : Nat} (hr : Room k A) : A.units + 64 < cLine := by have := hr.un; omega
theorem goMarked_cons {al : List Nat} {nl nr : Int} {prev : Option PyData} {d : PyData} {ds : List PyData} {k : Int} : goMarked al nl nr prev (d :: ds) k = if tripleD al nl nr d = true then (if (prev.all fun p => PySem.W.dataLt p (tupOf d)) = true then goMarked al nl nr (some (tupOf d)) ds (k + 1) else some k) else some k := rfl
theorem triple_shape {al : List Nat} {nl nr : Int} {d : PyData} (h : tripleD al nl nr d = true) : ∃ a z c, itemsD d = some [.int a, .str z, .int c] := by
  unfold tripleD at h
  split at h
  · rename_i a b c hi
    rw [Bool.and_eq_true, Bool.and_eq_true] at h
    obtain ⟨h1, h2, h3⟩ := h
    cases a with
    | int a =>
      cases b with
      | str z =>
        cases c with
        | int c => exact ⟨a, z, c, hi⟩
        | _ => exact Bool.noConfusion h3
      | _ => exact Bool.noConfusion h2
    | _ => exact Bool.noConfusion h1
  · cases h
theorem rpL_flat {H : Hp} {vs : List V} {a c : Int} {z : Str} (h : RpL H vs [.int a, .str z, .int c]) : RtL H vs [.int a, .str z, .int c] := by
  cases h with
  | cons r0 h1 =>
    cases h1 with
    | cons r1 h2 =>
      cases h2 with
      | cons r2 h3 =>
        cases h3
        cases r0
        cases r1
        cases r2
        exact .cons (.int _) (.cons (.str _) (.cons (.int _) .nil))
theorem depth_tri (a c : Int) (z : Str) : (PyData.tuple [.int a, .str z, .int c]).depth ≤ 60 := by
  have : (PyData.tuple [.int a, .str z, .int c]).depth = (PyData.tuple [.int 0, .str "", .int 0]).depth := rfl
  rw [this]
  decide +kernel
theorem alike_tri (a c a' c' : Int) (z z' : Str) : PySem.W.alike (.tuple [.int a, .str z, .int c]) (.tuple [.int a', .str z', .int c']) = true := rfl
section
variable {P : Program} {w : World} {K : PySem.W.Frag} {mg : Str → Option Value} {base : Heap}
def smallM (d : PyData) : Prop := ∀ ds, itemsD d = some ds → ds.length ≤ 100000 ∧ ∀ x ∈ ds, smallTri x
def sp_kept_marked (K : PySem.W.Frag) : Sp := fun vs H Q E => ∃ (al : Str) (vl vr v : V) (dl dr : List PyData) (d : PyData), vs = [.str al, vl, vr, v] ∧ Rt H vl (.tuple dl) ∧ Rt H vr (.tuple dr) ∧ Rp H v d ∧ smallM d ∧
  (∀ k, markedDue al.cps.toList dl.length dr.length d = some k → errAt (He.ga K "BadMarked") "number" (.int k) H E) ∧
  (markedDue al.cps.toList dl.length dr.length d = none → ∀ H' r, Same H H' → Rt H' r (keptD d) → Q r H')
/-- tuple(x), x a list or a tuple: behind it the same things stand, and the data as a tuple -/
theorem tupled {H : Hp} {a : Addr} {xs : List V} {Q : VK} (h : H a = some (.lst xs) ∨ H a = some (.tup xs)) (q : ∀ H' p, Same H H' → H' p = some (.tup xs) → Q (.ref p) H') :
    ∃ p ys, [V.ref a] = [V.ref p] ∧ ((SqL K H p ys ∧ ∀ l, H l = none → Q (.ref l) (upd H l (.tup ys))) ∨ (SqT K H p ys ∧ Q (.ref p) H)) := by
  rcases h with h | h
  · exact ⟨a, xs, rfl, .inl ⟨SqL.of h, fun l hl => q _ l (fun b o e => by rw [upd_ne (ne_of_none e hl)]; exact e) upd_same⟩⟩
  · exact ⟨a, xs, rfl, .inr ⟨SqT.of h, q H a (Same.refl H) h⟩⟩
theorem ok_kept_marked (T : Txt K mg) : Cal P w K mg base (L2N.CX P w) 4 "kept_marked" ["alphabet", "left", "right", "thing"] (sp_kept_marked K) := by
  obtain ⟨fd, F⟩ := F_kept_marked T
  obtain ⟨fdR, FR⟩ := F_BadMarked___init__ T
  have bR : Binds K fdR ["self", "number"] [] := FR.bindsN fun _ _ _ _ _ _ us hl => match us, hl with | [_, _], _ => rfl
  have ex : Ex K "BadMarked" ["number"] := ex_of T 3
  refine cal_mk F (g_kept_marked T) sc_kept_marked (fun _ _ _ _ _ _ us hl => match us, hl with | [_, _, _, _], _ => rfl) (fun vs H Q E h => ?_) (fun cdv A outer s H vs Q E hr h => ?_)
  · obtain ⟨al, vl, vr, v, dl, dr, d, rfl, _⟩ := h; rfl
  · refine ⟨_, (pss_cons (ps_if (pt_not (pt_val (pe_cal (ok_is_listing T) (hr.mono (by decide)) pass0 (pa_cons (pv 3) pa_nil))))
          (pss_one (ps_raise1 ex (f := "number") (by decide) rfl (ini_number FR) bR (hr.mono (by decide)) (L2N.takes_of rfl rfl rfl rfl) (g_BadMarked T) (pa_cons (pe_un un_neg pe_int) pa_nil))) pss_nil)
      (pss_cons (ps_set (i := 4) sc_kept_marked.nd rfl (Or.inl rfl) (pe_lst pa_nil))
      (pss_cons (ps_for (passes_of rfl) rfl (pi_enumS (by rfl) (fr_enumerate T) (pa_cons (pv 3) pa_nil)) (pg_tup rfl (pgs_cons (pg_name (i := 5) sc_kept_marked.nd rfl (Or.inl rfl)) (pgs_cons (pg_name (i := 6) sc_kept_marked.nd rfl (Or.inl rfl)) pgs_nil)))
          (pss_cons (ps_if (pt_not (pt_val (pe_cal (ok_is_triple T) hr pass0 (pa_cons (pv 0) (pa_cons (pv 1) (pa_cons (pv 2) (pa_cons (pv 6) pa_nil)))))))
            (pss_one (ps_raise1 ex (f := "number") (by decide) rfl (ini_number FR) bR (hr.mono (by decide)) (L2N.takes_of rfl rfl rfl rfl) (g_BadMarked T) (pa_cons (pv 5) pa_nil))) pss_nil)
          (pss_cons (ps_if (PW.pt (pw_and (pt_truth (pv 4) (by intro _; rfl)) (pw_and1 (pt_not (pt_cmpR (op_ltD (hu64 hr)) (pe_ix ix_list (pv 4) (pe_un un_neg pe_int) (fun _ _ => rfl)) (pe_callTy call_tuple_of (by rfl) (fr_tuple T) b_tuple (pa_cons (pv 6) pa_nil)) (nomark _))))))
            (pss_one (ps_raise1 ex (f := "number") (by decide) rfl (ini_number FR) bR (hr.mono (by decide)) (L2N.takes_of rfl rfl rfl rfl) (g_BadMarked T) (pa_cons (pv 5) pa_nil))) pss_nil)
          (pss_one (ps_expr (pe_bm PySem.F.plainAttrs_list PySem.F.slot_list_append PySem.F.type_list_append mt_append (pv 4) (pa_cons (pe_callTy call_tuple_of (by rfl) (fr_tuple T) b_tuple (pa_cons (pv 6) pa_nil)) pa_nil)))))))
      (pss_one (ps_ret (pe_callTy call_tuple_of (by rfl) (fr_tuple T) b_tuple (pa_cons (pv 4) pa_nil))))))), ?_⟩
    obtain ⟨al, vl, vr, v, dl, dr, d, rfl, rl, rr, rd, sm, kE, kQ⟩ := h
    refine ⟨v, rfl, v, kd d, rfl, rd.ko, fun H1 s1 => ⟨_, rfl, ?_⟩⟩
    have rd1 := rd.same s1
    cases hb : (kd d == Kd.lst || kd d == Kd.tup) with
    | false =>
      refine iteT ?_
      have e : markedDue al.cps.toList dl.length dr.length d = some (-1) := by unfold markedDue; rw [itemsD_none hb]
      exact ⟨1, rfl, _, rfl, fun dx hd => kE (-1) e H1 s1 dx hd⟩
    | true =>
      refine iteF ?_
      obtain ⟨ds, hds⟩ := itemsD_kd hb
      obtain ⟨a, xs, rfl, hxs, hsq⟩ := rp_seq rd1 hds
      have hl : xs.length = ds.length := hxs.length
      have edue : markedDue al.cps.toList dl.length dr.length d = goMarked al.cps.toList dl.length dr.length none ds 0 := by unfold markedDue; rw [hds]
      refine ⟨by decide, fun kp hkp => ?_⟩
      obtain ⟨G, S, hG, hGs⟩ := src_seq hsq
      have s2 : Same H1 (upd H1 kp (.lst [])) := fun b o e => by rw [upd_ne (ne_of_none e hkp)]; exact e
      refine ⟨_, rfl, _, _, _, _, rfl, S, hGs _ s2, for_it walk_new (fun i σ H2 => ∃ (v5 v6 : Option V) (acc : List V), σ = [some (.str al), some vl, some vr, some (.ref a), some (.ref kp), v5, v6] ∧ Same H1 H2 ∧ H2 kp = some (.lst acc) ∧ RtL H2 acc ((ds.take i).map tupOf) ∧
        (∀ (j : Nat) x, j < i → ds[j]? = some x → tripleD al.cps.toList dl.length dr.length x = true) ∧
        goMarked al.cps.toList dl.length dr.length none ds 0 = goMarked al.cps.toList dl.length dr.length ((ds.take i).map tupOf).getLast? (ds.drop i) (i : Nat))
        ⟨none, none, [], rfl, s2, upd_same, by rw [List.take_zero]; exact .nil, fun j x hj => absurd hj (Nat.not_lt_zero _), rfl⟩ (fun i σ H2 _ ⟨_, _, _, _, s3, _⟩ => hGs _ s3) ?_ ?_⟩
      · rintro i x σ H2 H3 hi ⟨v5, v6, acc, rfl, s3, hacc, hrt, hall, hgo⟩ ⟨Tt, vs, rfl, hTn, rfl, y, rfl, hy⟩
        obtain ⟨dy, hdy, ry⟩ := hxs.get hy
        have s4 : Same H2 (upd H2 Tt (.tup [.int (i : Nat), y])) := fun b o e => by rw [upd_ne (ne_of_none e hTn)]; exact e
        have ry3 : Rp (upd H2 Tt (.tup [.int (i : Nat), y])) y dy := ry.same (s3.trans s4)
        have hdm : dy ∈ ds := List.mem_of_getElem? hdy
        have hid : i < ds.length := by omega
        have edrop : ds.drop i = dy :: ds.drop (i + 1) := by
          rw [List.drop_eq_getElem_cons hid]
          congr 1
          rw [List.getElem?_eq_getElem hid] at hdy
          exact Option.some.inj hdy
        have s14 : Same H (upd H2 Tt (.tup [.int (i : Nat), y])) := s1.trans (s3.trans s4)
        refine ⟨Tt, _, rfl, SqT.of upd_same, rfl, .int (i : Nat), _, rfl, y, _, rfl, rfl, ?_⟩
        refine ⟨.str al, rfl, vl, rfl, vr, rfl, y, rfl, al, vl, vr, y, dl, dr, dy, rfl, rl.tups (Same.tups s14), rr.tups (Same.tups s14), ry3, (sm ds hds).2 dy hdm, fun H5 s5 => ⟨_, rfl, ?_⟩⟩
        rw [edrop, goMarked_cons] at hgo
        cases htr : tripleD al.cps.toList dl.length dr.length dy with
        | false =>
          rw [htr, if_neg Bool.false_ne_true] at hgo
          exact iteT ⟨.int (i : Nat), rfl, _, rfl, fun dx hdx => kE i (edue.trans hgo) H5 (s14.trans s5) dx hdx⟩
        | true =>
          rw [htr, if_pos rfl] at hgo
          refine iteF ?_
          obtain ⟨pa, pz, pc, hit⟩ := triple_shape htr
          obtain ⟨ma, mxs, rfl, hmx, hmsq⟩ := rp_seq (ry3.same s5) hit
          have hmt := rpL_flat hmx
          have hk5 : H5 kp = some (.lst acc) := s5 _ _ (s4 _ _ hacc)
          have hrt5 := hrt.tups ((Same.tups s4).trans (Same.tups s5))
          have etup : tupOf dy = .tuple [.int pa, .str pz, .int pc] := by unfold tupOf; rw [hit]; rfl
          have htk : (ds.take (i + 1)) = ds.take i ++ [dy] := by rw [List.take_succ, hdy]; rfl
          have hal : acc.length = ((ds.take i).map tupOf).length := hrt.length
          have hsl : acc.length < sizeLine := by
            have := (sm ds hds).1
            rw [hal, List.length_map, List.length_take]
            exact Nat.lt_of_le_of_lt (by omega : min i ds.length ≤ 100000) (by decide)
          -- what follows once the new one is greater
          have app : ∀ H6, Same H5 H6 → goMarked al.cps.toList dl.length dr.length none ds 0 = goMarked al.cps.toList dl.length dr.length (some (tupOf dy)) (ds.drop (i + 1)) ((i : Nat) + 1 : Int) →
              ∀ (p : Addr), ∀ H7, Same H6 H7 → H7 p = some (.tup mxs) → ∃ (v5 v6 : Option V) (acc' : List V), [some (V.str al), some vl, some vr, some (V.ref a), some (V.ref kp), some (V.int (i : Nat)), some (V.ref ma)] = [some (.str al), some vl, some vr, some (.ref a), some (.ref kp), v5, v6] ∧
                Same H1 (upd H7 kp (.lst (acc ++ [.ref p]))) ∧ upd H7 kp (.lst (acc ++ [.ref p])) kp = some (.lst acc') ∧ RtL (upd H7 kp (.lst (acc ++ [.ref p]))) acc' ((ds.take (i + 1)).map tupOf) ∧
                (∀ (j : Nat) x, j < i + 1 → ds[j]? = some x → tripleD al.cps.toList dl.length dr.length x = true) ∧
                goMarked al.cps.toList dl.length dr.length none ds 0 = goMarked al.cps.toList dl.length dr.length ((ds.take (i + 1)).map tupOf).getLast? (ds.drop (i + 1)) ((i + 1 : Nat) : Int) := by
            intro H6 s6 hg6 p H7 s7 hp
            have s57 := s6.trans s7
            have hk7 : H7 kp = some (.lst acc) := s57 _ _ hk5
            have tu : Tups H7 (upd H7 kp (.lst (acc ++ [.ref p]))) := tups_upd hk7 fun xs z => by cases z
            refine ⟨_, _, _, rfl, ?_, upd_same, ?_, ?_, ?_⟩
            · intro b o e
              rw [upd_ne (ne_of_none e hkp)]
              exact s57 _ _ (s5 _ _ (s4 _ _ (s3 _ _ e)))
            · rw [htk, List.map_append]
              refine RtL.append (d := tupOf dy) ?_ ((hrt5.tups (Same.tups s57)).tups tu)
              rw [etup]
              exact .tup (tu _ _ hp) ((hmt.tups (Same.tups s57)).tups tu)
            · intro j x hj hx
              by_cases hji : j < i
              · exact hall j x hji hx
              · have : j = i := by omega
                subst this
                rw [hdy] at hx
                cases hx
                exact htr
            · rw [htk, List.map_append, hg6]
              simp
          have hsq5 : ∀ H6, Same H5 H6 → H6 ma = some (.lst mxs) ∨ H6 ma = some (.tup mxs) := fun H6 s6 => hmsq.imp (fun z => s6 _ _ z) (fun z => s6 _ _ z)
          -- kept and not kept[-1] < tuple(triple)
          cases hac : acc.reverse with
          | nil =>
            have e0 : acc = [] := by simpa using hac
            subst e0
            have hz0 : ((ds.take i).map tupOf) = [] := List.length_eq_zero_iff.mp hal.symm
            rw [hz0] at hgo
            refine ⟨.ref kp, rfl, false, .inl ⟨_, SqL.of hk5, rfl⟩, iteF (iteF ?_)⟩
            refine ⟨.ref kp, rfl, .inl ⟨rfl, _, SqL.of hk5⟩, .ref ma, rfl, ?_⟩
            rcases hsq5 H5 (Same.refl _) with hm | hm
            · refine ⟨ma, mxs, rfl, .inl ⟨SqL.of hm, fun l hl => ?_⟩⟩
              have s7 : Same H5 (upd H5 l (.tup mxs)) := fun b o e => by rw [upd_ne (ne_of_none e hl)]; exact e
              exact ⟨kp, [], _, rfl, rfl, s7 _ _ hk5, hsl, app H5 (Same.refl _) hgo l _ s7 upd_same⟩
            · exact ⟨ma, mxs, rfl, .inr ⟨SqT.of hm, kp, [], _, rfl, rfl, hk5, hsl, app H5 (Same.refl _) hgo ma H5 (Same.refl _) hm⟩⟩
          | cons lastV restR =>
            have e1 : acc = restR.reverse ++ [lastV] := by
              have := congrArg List.reverse hac
              simpa using this
            subst e1
            -- the last one's data
            have hlast : ∃ dp, ((ds.take i).map tupOf).getLast? = some dp ∧ Rt H5 lastV dp := by
              have hg := hrt5.get (i := restR.reverse.length) (v := lastV) (by simp)
              obtain ⟨dp, h1, h2⟩ := hg
              refine ⟨dp, ?_, h2⟩
              rw [List.getLast?_eq_getElem?, ← hal]
              simpa using h1
            obtain ⟨dp, hdp, hrp⟩ := hlast
            rw [hdp] at hgo
            have hshape : ∃ a' z' c', dp = .tuple [.int a', .str z', .int c'] := by
              have hmem := List.mem_of_getLast? hdp
              obtain ⟨d0, h0, rfl⟩ := List.mem_map.mp hmem
              obtain ⟨j, hj⟩ := List.mem_iff_getElem?.mp h0
              have hji : j < i := by
                have := (List.getElem?_eq_some_iff.mp hj).1
                rw [List.length_take] at this
                omega
              rw [List.getElem?_take_of_lt hji] at hj
              obtain ⟨a', z', c', hit'⟩ := triple_shape (hall j d0 hji hj)
              exact ⟨a', z', c', by unfold tupOf; rw [hit']; rfl⟩
            obtain ⟨pa', pz', pc', rfl⟩ := hshape
            refine ⟨.ref kp, rfl, true, .inl ⟨_, SqL.of hk5, by simp⟩, iteT ?_⟩
            refine ⟨.ref kp, rfl, 1, rfl, kp, _, _, lastV, rfl, rfl, SqL.of hk5, atI_last _ _, .ref ma, rfl, ?_⟩
            have elt : (Option.all (fun p => PySem.W.dataLt p (tupOf dy)) (some (.tuple [.int pa', .str pz', .int pc']))) = PySem.W.dataLt (.tuple [.int pa', .str pz', .int pc']) (.tuple [.int pa, .str pz, .int pc]) := by
              rw [← etup]
              rfl
            rw [elt] at hgo
            rcases hsq5 H5 (Same.refl _) with hm | hm
            · refine ⟨ma, mxs, rfl, .inl ⟨SqL.of hm, fun l hl => ?_⟩⟩
              have s6 : Same H5 (upd H5 l (.tup mxs)) := fun b o e => by rw [upd_ne (ne_of_none e hl)]; exact e
              refine ⟨_, _, (hrp.tups (Same.tups s6)).dp, (Rt.tup upd_same (hmt.tups (Same.tups s6))).dp, alike_tri _ _ _ _ _ _, (fun z => by cases z), depth_tri _ _ _, _, rfl, ?_⟩
              cases hlt : PySem.W.dataLt (.tuple [.int pa', .str pz', .int pc']) (.tuple [.int pa, .str pz, .int pc]) with
              | false =>
                rw [hlt, if_neg Bool.false_ne_true] at hgo
                exact iteT ⟨.int (i : Nat), rfl, _, rfl, fun dx hdx => kE i (edue.trans hgo) _ (s14.trans (s5.trans s6)) dx hdx⟩
              | true =>
                rw [hlt, if_pos rfl] at hgo
                refine iteF ?_
                have hk6 := s6 _ _ hk5
                refine ⟨.ref kp, rfl, .inl ⟨rfl, _, SqL.of hk6⟩, .ref ma, rfl, ma, mxs, rfl, .inl ⟨SqL.of (s6 _ _ hm), fun l2 hl2 => ?_⟩⟩
                have s7 : Same (upd H5 l (.tup mxs)) (upd (upd H5 l (.tup mxs)) l2 (.tup mxs)) := fun b o e => by rw [upd_ne (ne_of_none e hl2)]; exact e
                exact ⟨kp, _, _, rfl, rfl, s7 _ _ hk6, hsl, app _ s6 hgo l2 _ s7 upd_same⟩
            · refine ⟨ma, mxs, rfl, .inr ⟨SqT.of hm, ?_⟩⟩
              refine ⟨_, _, hrp.dp, (Rt.tup hm hmt).dp, alike_tri _ _ _ _ _ _, (fun z => by cases z), depth_tri _ _ _, _, rfl, ?_⟩
              cases hlt : PySem.W.dataLt (.tuple [.int pa', .str pz', .int pc']) (.tuple [.int pa, .str pz, .int pc]) with
              | false =>
                rw [hlt, if_neg Bool.false_ne_true] at hgo
                exact iteT ⟨.int (i : Nat), rfl, _, rfl, fun dx hdx => kE i (edue.trans hgo) _ (s14.trans s5) dx hdx⟩
              | true =>
                rw [hlt, if_pos rfl] at hgo
                refine iteF ?_
                exact ⟨.ref kp, rfl, .inl ⟨rfl, _, SqL.of hk5⟩, .ref ma, rfl, ma, mxs, rfl, .inr ⟨SqT.of hm, kp, _, _, rfl, rfl, hk5, hsl, app H5 (Same.refl _) hgo ma H5 (Same.refl _) hm⟩⟩
      · rintro σ H2 ⟨v5, v6, acc, rfl, s3, hacc, hrt, hall, hgo⟩
        rw [hl, List.take_length] at hrt
        rw [hl, List.drop_length] at hgo
        refine ⟨.ref kp, rfl, kp, acc, rfl, .inl ⟨SqL.of hacc, fun p hp0 => ?_⟩⟩
        have s7 : Same H2 (upd H2 p (.tup acc)) := fun b o e => by rw [upd_ne (ne_of_none e hp0)]; exact e
        have hp : upd H2 p (.tup acc) p = some (.tup acc) := upd_same
        have hnone : markedDue al.cps.toList dl.length dr.length d = none := edue.trans (by rw [hgo]; unfold goMarked; rfl)
        refine kQ hnone _ _ (s1.trans (s3.trans s7)) ?_
        have e : keptD d = .tuple (ds.map tupOf) := by unfold keptD; rw [hds]; rfl
        rw [e]
        exact .tup hp (hrt.tups (Same.tups s7))
end
end Kx
set_option Elab.async false
set_option linter.all false
set_option maxRecDepth 100000
set_option maxHeartbeats 2000000
namespace Kx
open PySem PySem.Spec PyProof.Rows L2
/-! ### a pair's data -/
abbrev Tri := Nat × Nat × Nat
def encTri (t : Tri) : PyData := .tuple [.int (t.1 : Nat), .str ⟨#[t.2.1]⟩, .int (t.2.2 : Nat)]
def encT (trs : List Tri) : PyData := .tuple (trs.map encTri)
/-- the marked right standings of a left standing and a letter's number, as a mask -/
def maskT (ix : Nat → Nat) (p k : Nat) (trs : List Tri) : Nat := trs.foldl (fun m t => if t.1 = p ∧ ix t.2.1 = k then m ||| 1 <<< t.2.2 else m) 0
def encK (ix : Nat → Nat) (nl na : Nat) (trs : List Tri) : PyData := .tuple ((List.range nl).map fun p => .tuple ((List.range na).map fun k => .int (maskT ix p k trs : Nat)))
def fldsP (al : Str) (vl vr vm vk : V) : List (Str × V) := [("alphabet", .str al), ("left", vl), ("right", vr), ("marked", vm), ("masks", vk)]
structure PairD where
  al : Str
  ix : Nat → Nat
  l : Tab
  r : Tab
  m : List Tri
/-- at x: such a pair -/
def PairAt (K : PySem.W.Frag) (H : Hp) (x : Addr) (D : PairD) : Prop := ∃ (dx : Addr) (vl vr vm vk : V), H x = some (.ins (He.ga K "Pair") dx (fldsP D.al vl vr vm vk)) ∧ H dx = some (.own x) ∧
  Rt H vl (encR D.l) ∧ Rt H vr (encR D.r) ∧ Rt H vm (encT D.m) ∧ Rt H vk (encK D.ix D.l.length D.al.length D.m)
structure PairOk (D : PairD) : Prop where
  al : D.al.length ≤ 8
  ix : IxOk D.al D.ix
  l : TabOk D.l D.al.length
  r : TabOk D.r D.al.length
  abc : ∀ c ∈ D.al.cps.toList, c < 0x110000
  m : ∀ t ∈ D.m, t.1 < D.l.length ∧ t.2.1 ∈ D.al.cps.toList ∧ t.2.2 < D.r.length
theorem PairAt.same {K : PySem.W.Frag} {H H' : Hp} {x : Addr} {D : PairD} (s : Same H H') (h : PairAt K H x D) : PairAt K H' x D := by
  obtain ⟨dx, vl, vr, vm, vk, h1, h2, h3, h4, h5, h6⟩ := h
  exact ⟨dx, vl, vr, vm, vk, s _ _ h1, s _ _ h2, h3.tups (Same.tups s), h4.tups (Same.tups s), h5.tups (Same.tups s), h6.tups (Same.tups s)⟩
/-- a table's row, its item -/
theorem rt_mask {H : Hp} {v : V} {ix : Nat → Nat} {nl na : Nat} {trs : List Tri} {p k : Nat} (h : Rt H v (encK ix nl na trs)) (hp : p < nl) (hk : k < na) :
    ∃ a xs b ys, v = .ref a ∧ H a = some (.tup xs) ∧ xs[p]? = some (.ref b) ∧ H b = some (.tup ys) ∧ ys[k]? = some (.int (maskT ix p k trs : Nat)) := by
  unfold encK at h
  cases h with
  | @tup a xs _ ha hx =>
    have hl := hx.length
    rw [List.length_map, List.length_range] at hl
    have hpx : p < xs.length := by omega
    obtain ⟨d, hd, rd⟩ := hx.get (i := p) (List.getElem?_eq_getElem hpx)
    rw [List.getElem?_map, List.getElem?_range hp] at hd
    have ed := (Option.some.inj hd).symm
    subst ed
    generalize hv : xs[p] = y at rd
    cases rd with
    | @tup b ys _ hb hy =>
      have hl2 := hy.length
      rw [List.length_map, List.length_range] at hl2
      have hky : k < ys.length := by omega
      obtain ⟨d2, hd2, rd2⟩ := hy.get (i := k) (List.getElem?_eq_getElem hky)
      rw [List.getElem?_map, List.getElem?_range hk] at hd2
      have e2 := (Option.some.inj hd2).symm
      subst e2
      refine ⟨a, xs, b, ys, rfl, ha, by rw [List.getElem?_eq_getElem hpx, hv], hb, ?_⟩
      rw [List.getElem?_eq_getElem hky]
      generalize ys[k] = z at rd2
      cases rd2
      rfl
/-- where it marks -/
def markAt (D : PairD) (p c q : Nat) : Bool := (maskT D.ix p (D.ix c) D.m).testBit q
def marksP (D : PairD) (cs : List Nat) : List Bool := ((aheadT D.l D.ix 0 cs).zip (cs.zip (behindT D.r D.ix cs))).map fun x => markAt D x.1 x.2.1 x.2.2
theorem behindT_length (t : Tab) (ix : Nat → Nat) (cs : List Nat) : (behindT t ix cs).length = cs.length := by
  unfold behindT
  rw [List.length_reverse, aheadT_length, List.length_reverse]
theorem runT_lt {t : Tab} {na : Nat} {ix : Nat → Nat} (T : TabOk t na) : ∀ (cs : List Nat) (p : Nat), (∀ c ∈ cs, ix c < na) → p < t.length → runT t ix p cs < t.length
  | [], p, _, hp => hp
  | c :: cs, p, hc, hp => runT_lt T cs (stepT t p (ix c)) (fun d hd => hc d (List.mem_cons_of_mem _ hd)) (stepT_lt T hp (hc c (List.mem_cons_self ..)))
theorem aheadT_lt {t : Tab} {na : Nat} {ix : Nat → Nat} (T : TabOk t na) : ∀ (cs : List Nat) (p : Nat), (∀ c ∈ cs, ix c < na) → p < t.length → ∀ x ∈ aheadT t ix p cs, x < t.length
  | [], _, _, _, x, hx => by cases hx
  | c :: cs, p, hc, hp, x, hx => by
    rcases List.mem_cons.mp (show x ∈ p :: aheadT t ix (stepT t p (ix c)) cs from hx) with e | hx
    · rw [e]; exact hp
    · exact aheadT_lt T cs _ (fun d hd => hc d (List.mem_cons_of_mem _ hd)) (stepT_lt T hp (hc c (List.mem_cons_self ..))) x hx
section
variable {P : Program} {w : World} {K : PySem.W.Frag} {mg : Str → Option Value} {base : Heap}
def encB (bs : List Bool) : PyData := .tuple (bs.map .bool)
theorem rtL_bls {H : Hp} : ∀ (bs : List Bool), RtL H (bs.map V.bl) (bs.map PyData.bool)
  | [] => .nil
  | b :: bs => .cons (.bl b) (rtL_bls bs)
def sp_marks_in (K : PySem.W.Frag) : Sp := fun vs H Q _ => ∃ (x : Addr) (D : PairD) (row : Str), vs = [.ref x, .str row] ∧ PairAt K H x D ∧ PairOk D ∧ (∀ c ∈ row.cps.toList, c ∈ D.al.cps.toList) ∧ row.length ≤ 1000 ∧
  ∀ H' r, Same H H' → Rt H' r (encB (marksP D row.cps.toList)) → Q r H'
theorem ok_marks_in (T : Txt K mg) : Cal P w K mg base CX0 3 "marks_in" ["pair", "row"] (sp_marks_in K) := by
  obtain ⟨fd, F⟩ := F_marks_in T
  refine cal_mk F (g_marks_in T) sc_marks_in (fun _ _ _ _ _ _ us hl => match us, hl with | [_, _], _ => rfl) (fun vs H Q E h => ?_) (fun cdv A outer s H vs Q E hr h => ?_)
  · obtain ⟨x, D, row, rfl, _⟩ := h; rfl
  · refine ⟨_, PSs.nox (pss_cons (ps_set (i := 2) sc_marks_in.nd rfl (Or.inl rfl) (pe_cal (ok_standings_ahead T) (hr.mono (by decide)) pass0 (pa_cons (pe_fld (pv 0) rfl) (pa_cons (pe_fld (pv 0) rfl) (pa_cons (pv 1) pa_nil)))))
      (pss_cons (ps_set (i := 3) sc_marks_in.nd rfl (Or.inl rfl) (pe_cal (ok_standings_behind T) hr pass0 (pa_cons (pe_fld (pv 0) rfl) (pa_cons (pe_fld (pv 0) rfl) (pa_cons (pv 1) pa_nil)))))
      (pss_cons (ps_setLc (i := 4) (own := [("letter", 5)]) (g := gName 5) (tt := tYes) rfl sc_marks_in.nd rfl rfl (sw_true rfl rfl rfl (by decide +kernel)) (pi_str (pv 1)) (blkOk_by (N := N_marks_in) (sc := defScope s_marks_in) (by decide +kernel))
        (fun _ _ _ _ _ => pg_name (i := 5) sc_marks_in.nd rfl (Or.inl rfl)) (fun _ _ _ _ _ => pts_nil) (fun _ _ _ _ _ => by refine pe_m1 (to := tFld K (tVar 0) "alphabet") (te := tVar 5) PySem.F.slot_str_find PySem.F.type_str_find mt_find ?_ (pv 5); exact pe_fld (pv 0) rfl))
      (pss_one (ps_ret (pe_callTy call_tuple_of (by rfl) (fr_tuple T) b_tuple (pa_cons (pe_lc (own := [("p", 6), ("k", 7), ("q", 8)]) (g := gTup K 3 (gCons (gName 6) (gCons (gName 7) (gCons (gName 8) gNil)))) (tt := tYes) rfl sc_marks_in.nd
        (pi_zip3S (by rfl) (fr_zip T) (pa_cons (pv 2) (pa_cons (pv 4) (pa_cons (pv 3) pa_nil)))) (blkOk_by (N := N_marks_in) (sc := defScope s_marks_in) (by decide +kernel))
        (fun _ _ _ _ _ => by exact pg_tup rfl (pgs_cons (pg_name (i := 6) sc_marks_in.nd rfl (Or.inl rfl)) (pgs_cons (pg_name (i := 7) sc_marks_in.nd rfl (Or.inl rfl)) (pgs_cons (pg_name (i := 8) sc_marks_in.nd rfl (Or.inl rfl)) pgs_nil)))) (fun _ _ _ _ _ => pts_nil)
        (fun _ _ _ _ _ => by refine pe_cal (ok_has_bit T) (hr.mono (by decide)) pass0 (pa_cons (te := tOp (rIxT K) (tOp (rIxT K) (tFld K (tVar 0) "masks") (tVar 6)) (tVar 7)) (pe_ix ix_tup (pe_ix ix_tup ?_ (pv 6) (fun _ _ => rfl)) (pv 7) (fun _ _ => rfl)) (pa_cons (pv 8) pa_nil)); exact pe_fld (pv 0) rfl)) pa_nil))))))), ?_⟩
    obtain ⟨x, D, row, rfl, PA, PO, hrow, hlen, q⟩ := h
    obtain ⟨dx, vl, vr, vm, vk, h1, h2, h3, h4, h5, h6⟩ := PA
    have C := cls_Pair T
    have hsz : row.cps.toList.length = row.length := Array.length_toList
    have hix : ∀ c ∈ row.cps.toList, D.ix c < D.al.length := fun c hc => PO.ix.lt c (hrow c hc)
    -- ahead
    refine ⟨.ref x, rfl, x, _, dx, _, _, rfl, h1, C, noat_alphabet T, rfl, .ref x, rfl, x, _, dx, _, _, rfl, h1, C, noat_left T, rfl, .str row, rfl, D.al, vl, row, D.l, D.ix, rfl, h3, PO.l, PO.ix, hrow, hlen, fun H1 pA s1 nA eA => ?_⟩
    have h1a := s1 _ _ h1
    refine ⟨.ref x, rfl, x, _, dx, _, _, rfl, h1a, C, noat_alphabet T, rfl, .ref x, rfl, x, _, dx, _, _, rfl, h1a, C, noat_right T, rfl, .str row, rfl, D.al, vr, row, D.r, D.ix, rfl, h4.tups (Same.tups s1), PO.r, PO.ix, hrow, hlen, fun H2 pB s2 nB eB => ?_⟩
    have h1b := s2 _ _ h1a
    have eA2 := s2 _ _ eA
    -- letters
    refine ⟨.str row, rfl, row, rfl, fun L hL => ?_⟩
    refine lc_new walk_str hL (Nat.le_trans (by show row.length ≤ 1000; exact hlen) (by decide)) (fun (i : Nat) _ v => ∀ c, row.cps.toList[i]? = some c → v = V.int ((D.ix c : Nat) : Int)) (fun _ _ _ _ _ h => h) (fun _ _ => trivial)
      (fun i y H3 H4 Qk hi sH hy hk => ?_) (fun H3 acc s3 hL3 hl hv => ?_)
    · obtain ⟨e, c, hc, rfl⟩ := hy
      subst e
      have hc' : row.cps.toList[i]? = some c := by rw [Array.getElem?_toList]; exact hc
      refine ⟨rfl, .ref x, rfl, x, _, dx, _, _, rfl, sH _ _ h1b, C, noat_alphabet T, rfl, ⟨D.al, rfl⟩, .str ⟨#[c]⟩, rfl, D.al, ⟨#[c]⟩, rfl, rfl, hk _ _ (Same.refl _) fun c' h' => ?_⟩
      rw [hc'] at h'
      cases h'
      rw [PO.ix.find c (hrow c (List.mem_of_getElem? hc'))]
    · have eacc : acc = (row.cps.toList.map D.ix).map fun k => V.int ((k : Nat) : Int) := by
        apply List.ext_getElem?
        intro i
        by_cases hi : i < row.cps.toList.length
        · have h9 : i < acc.length := by rw [hl]; rw [hsz] at hi; exact hi
          rw [List.getElem?_eq_getElem h9, hv i _ (List.getElem?_eq_getElem h9) row.cps.toList[i] (List.getElem?_eq_getElem hi), List.getElem?_map, List.getElem?_map, List.getElem?_eq_getElem hi]
          rfl
        · rw [List.getElem?_eq_none (by rw [hl]; rw [hsz] at hi; exact Nat.le_of_not_lt hi), List.getElem?_eq_none (by rw [List.length_map, List.length_map]; omega)]
      subst eacc
      have eA3 := s3 _ _ eA2
      have eB3 := s3 _ _ eB
      have h13 := s3 _ _ h1b
      -- the marks
      refine ⟨.ref pA, rfl, .ref L, rfl, .ref pB, rfl, .ref pA, _, _, _, .ref L, _, _, _, .ref pB, _, _, _, rfl, .lst pA _, .lst L _, .lst pB _, eA3, hL3, eB3, fun D2 hD2 => ?_⟩
      have hmin : min (min ((aheadT D.l D.ix 0 row.cps.toList).map fun k => V.int ((k : Nat) : Int)).length ((row.cps.toList.map D.ix).map fun k => V.int ((k : Nat) : Int)).length) ((behindT D.r D.ix row.cps.toList).map fun k => V.int ((k : Nat) : Int)).length = row.length := by
        rw [List.length_map, List.length_map, List.length_map, List.length_map, aheadT_length, behindT_length, hsz]
        omega
      have s13 : Same H H3 := s1.trans (s2.trans s3)
      have h63 := h6.tups (Same.tups s13)
      refine lc_new (walk_new (Y := YZ3 _ _ _)) hD2 (by rw [hmin]; exact Nat.le_trans hlen (by decide)) (fun (i : Nat) _ v => ∀ b, (marksP D row.cps.toList)[i]? = some b → v = V.bl b) (fun _ _ _ _ _ h => h) (fun H4 s4 => ⟨s4 _ _ eA3, s4 _ _ hL3, s4 _ _ eB3⟩)
        (fun i y H4 H5 Qk hi sH hy hk => ?_) (fun H4 acc s4 hD4 hl2 hv2 => ?_)
      · obtain ⟨Tt, vs, rfl, hTn, rfl, a, b, c, rfl, ha, hb, hc⟩ := hy
        rw [hmin] at hi
        have s5 : Same H4 (upd H4 Tt (.tup [a, b, c])) := fun b o e => by rw [upd_ne (ne_of_none e hTn)]; exact e
        have hiA : i < (aheadT D.l D.ix 0 row.cps.toList).length := by rw [aheadT_length, hsz]; exact hi
        have hiB : i < (behindT D.r D.ix row.cps.toList).length := by rw [behindT_length, hsz]; exact hi
        have hiR : i < row.cps.toList.length := by rw [hsz]; exact hi
        have ea : a = V.int (((aheadT D.l D.ix 0 row.cps.toList)[i] : Nat) : Int) := by
          rw [List.getElem?_map, List.getElem?_eq_getElem hiA] at ha
          exact (Option.some.inj ha).symm
        have eb : b = V.int ((D.ix row.cps.toList[i] : Nat) : Int) := by
          rw [List.getElem?_map, List.getElem?_map, List.getElem?_eq_getElem hiR] at hb
          exact (Option.some.inj hb).symm
        have ec : c = V.int (((behindT D.r D.ix row.cps.toList)[i] : Nat) : Int) := by
          rw [List.getElem?_map, List.getElem?_eq_getElem hiB] at hc
          exact (Option.some.inj hc).symm
        subst ea eb ec
        have hpl : (aheadT D.l D.ix 0 row.cps.toList)[i] < D.l.length := aheadT_lt PO.l _ _ hix PO.l.ne _ (List.getElem_mem hiA)
        have s35 : Same H3 (upd H4 Tt (.tup [V.int (((aheadT D.l D.ix 0 row.cps.toList)[i] : Nat) : Int), V.int ((D.ix row.cps.toList[i] : Nat) : Int), V.int (((behindT D.r D.ix row.cps.toList)[i] : Nat) : Int)])) := sH.trans s5
        obtain ⟨ma, mxs, mb, mys, rfl, m1, m2, m3, m4⟩ := rt_mask (h63.tups (Same.tups s35)) hpl (hix _ (List.getElem_mem hiR))
        refine ⟨Tt, _, rfl, SqT.of upd_same, rfl, _, _, rfl, _, _, rfl, _, _, rfl, rfl, rfl, .ref x, rfl, x, _, dx, _, .ref ma, rfl, s35 _ _ h13, C, noat_masks T, rfl, _, rfl, ma, mxs, _, .ref mb, rfl, rfl, SqT.of m1, atI_nat m2, _, rfl, mb, mys, _, _, rfl, rfl, SqT.of m3, atI_nat m4, _, rfl, _, _, rfl, hk _ _ s5 fun bb hbb => ?_⟩
        unfold marksP at hbb
        rw [List.getElem?_map] at hbb
        have hz : ((aheadT D.l D.ix 0 row.cps.toList).zip (row.cps.toList.zip (behindT D.r D.ix row.cps.toList)))[i]? = some ((aheadT D.l D.ix 0 row.cps.toList)[i], row.cps.toList[i], (behindT D.r D.ix row.cps.toList)[i]) :=
          List.getElem?_zip_eq_some.mpr ⟨List.getElem?_eq_getElem hiA, List.getElem?_zip_eq_some.mpr ⟨List.getElem?_eq_getElem hiR, List.getElem?_eq_getElem hiB⟩⟩
        rw [hz] at hbb
        cases hbb
        rfl
      · have hml : (marksP D row.cps.toList).length = row.length := by
          unfold marksP
          rw [List.length_map, List.length_zip, List.length_zip, aheadT_length, behindT_length, hsz]
          omega
        have ea : acc = (marksP D row.cps.toList).map V.bl := bls_of (by rw [hml, hl2, hmin]) fun i v hi b hb => hv2 i v hi b hb
        refine ⟨D2, acc, rfl, .inl ⟨SqL.of hD4, fun p hp => ?_⟩⟩
        have s6 : Same H4 (upd H4 p (.tup acc)) := fun b o e => by rw [upd_ne (ne_of_none e hp)]; exact e
        refine q _ _ (s13.trans (s4.trans s6)) ?_
        unfold encB
        rw [ea]
        exact .tup upd_same (rtL_bls _)
end
end Kx
set_option Elab.async false
set_option linter.all false
set_option maxRecDepth 100000
set_option maxHeartbeats 2000000
namespace Kx
open PySem PySem.Spec PyProof.Rows L2
/-! ### what right things are worth -/
def ixF (al : Str) (c : Nat) : Nat := (Txt.find al ⟨#[c]⟩).toNat
theorem find_in {al : Str} {c : Nat} (h : c ∈ al.cps.toList) : 0 ≤ Txt.find al ⟨#[c]⟩ ∧ Txt.find al ⟨#[c]⟩ < (al.length : Int) := by
  have h1 := PySem.StrLaws.found_one al c
  rw [decide_eq_true h] at h1
  have e0 : (Builtin.Str.occurrences al ⟨#[c]⟩ 0 al.length 1).isEmpty = false := by
    cases hq : (Builtin.Str.occurrences al ⟨#[c]⟩ 0 al.length 1).isEmpty with
    | false => rfl
    | true => rw [hq] at h1; cases h1
  have h2 : Txt.find al ⟨#[c]⟩ ≠ -1 := by
    unfold Txt.find
    cases ho : Builtin.Str.occurrences al ⟨#[c]⟩ 0 al.length 1 with
    | nil => rw [ho] at e0; cases e0
    | cons i r => intro z; simp at z; try omega
  have h3 := PyProof.Rows.fact_find al ⟨#[c]⟩
  have h4 : ((⟨#[c]⟩ : Str).length : Int) = 1 := rfl
  rcases h3 with h3 | h3
  · exact absurd h3 h2
  · omega
theorem ixOk (al : Str) : IxOk al (ixF al) where
  find := fun c hc => by
    have := (find_in hc).1
    unfold ixF
    omega
  lt := fun c hc => by
    have h := find_in hc
    unfold ixF
    omega
def natD : PyData → Nat
  | .int i => i.toNat
  | _ => 0
def moveT (x : PyData) : List Nat := ((itemsD x).getD []).map natD
theorem ints_back {m : Int} : ∀ {ms : List PyData}, ms.all (belowD m) = true → (ms.map natD).map (fun k => PyData.int (k : Nat)) = ms ∧ ∀ k ∈ ms.map natD, (k : Int) < m
  | [], _ => ⟨rfl, fun k hk => absurd hk (by simp)⟩
  | d :: ms, h => by
    rw [List.all_cons, Bool.and_eq_true] at h
    obtain ⟨h1, h2⟩ := ints_back h.2
    cases d with
    | int i =>
      have hb : (decide (0 ≤ i) && decide (i < m)) = true := h.1
      rw [Bool.and_eq_true, decide_eq_true_eq, decide_eq_true_eq] at hb
      have ei : ((natD (.int i) : Nat) : Int) = i := Int.toNat_of_nonneg hb.1
      constructor
      · rw [List.map_cons, List.map_cons, h1, ei]
      · intro k hk
        rcases List.mem_cons.mp hk with e | hk
        · rw [e, ei]; exact hb.2
        · exact h2 k hk
    | _ => exact Bool.noConfusion h.1
theorem move_back {l m : Nat} {x : PyData} (h : moveD l m x = true) : encM (moveT x) = tupOf x ∧ (moveT x).length = l ∧ ∀ k ∈ moveT x, k < m := by
  unfold moveD at h
  cases hi : itemsD x with
  | none => rw [hi] at h; cases h
  | some ms =>
    rw [hi, Bool.and_eq_true, decide_eq_true_eq] at h
    obtain ⟨h1, h2⟩ := h
    obtain ⟨h3, h4⟩ := ints_back h2
    have em : moveT x = ms.map natD := by unfold moveT; rw [hi]; rfl
    refine ⟨?_, ?_, ?_⟩
    · unfold encM tupOf
      rw [em, hi, h3]
      rfl
    · rw [em, List.length_map]; omega
    · rw [em]
      intro k hk
      have := h4 k hk
      omega
theorem firstBad_all {p : PyData → Bool} : ∀ {ds : List PyData} {k : Int}, firstBad p ds k = none → ∀ x ∈ ds, p x = true
  | [], _, _, x, hx => by cases hx
  | d :: ds, k, h, x, hx => by
    unfold firstBad at h
    by_cases hp : p d = true
    · rw [if_pos hp] at h
      rcases List.mem_cons.mp hx with e | hx
      · rw [e]; exact hp
      · exact firstBad_all h x hx
    · rw [if_neg hp] at h; cases h
def tabD (d : PyData) : Tab := ((itemsD d).getD []).map moveT
theorem reader_back {na : Nat} {d : PyData} (h : readerDue na d = none) : keptD d = encR (tabD d) ∧ TabOk (tabD d) na := by
  unfold readerDue at h
  cases hi : itemsD d with
  | none => rw [hi] at h; cases h
  | some ds =>
    rw [hi] at h
    dsimp only at h
    by_cases hn : 1 ≤ ds.length ∧ ds.length ≤ 40
    · rw [if_pos hn] at h
      have hall := firstBad_all h
      have et : tabD d = ds.map moveT := by unfold tabD; rw [hi]; rfl
      have el : (tabD d).length = ds.length := by rw [et, List.length_map]
      constructor
      · unfold keptD encR
        rw [et, hi, List.map_map]
        congr 1
        show ds.map tupOf = ds.map (encM ∘ moveT)
        exact List.map_congr_left fun x hx => (move_back (hall x hx)).1.symm
      · refine ⟨by omega, by omega, fun m hm => ?_, fun m hm k hk => ?_⟩
        · rw [et] at hm
          obtain ⟨x, hx, rfl⟩ := List.mem_map.mp hm
          exact (move_back (hall x hx)).2.1
        · rw [et] at hm
          obtain ⟨x, hx, rfl⟩ := List.mem_map.mp hm
          rw [el]
          exact (move_back (hall x hx)).2.2 k hk
    · rw [if_neg hn] at h; cases h
def triD (x : PyData) : Tri := match itemsD x with
  | some [.int a, .str z, .int c] => (a.toNat, z.cps.toList.headD 0, c.toNat)
  | _ => (0, 0, 0)
theorem triple_back {al : List Nat} {nl nr : Nat} {x : PyData} (h : tripleD al nl nr x = true) : encTri (triD x) = tupOf x ∧ (triD x).1 < nl ∧ (triD x).2.1 ∈ al ∧ (triD x).2.2 < nr := by
  obtain ⟨a, z, c, hi⟩ := triple_shape h
  unfold tripleD at h
  rw [hi] at h
  have h' : ((decide (0 ≤ a) && decide (a < (nl : Int))) && ((match z.cps.toList with | [c] => decide (c ∈ al) | _ => false) && (decide (0 ≤ c) && decide (c < (nr : Int))))) = true := h
  simp only [Bool.and_eq_true, decide_eq_true_eq] at h'
  obtain ⟨⟨a0, a1⟩, hz, c0, c1⟩ := h'
  have et : triD x = (a.toNat, z.cps.toList.headD 0, c.toNat) := by unfold triD; rw [hi]
  have hzz : ∃ k, z = ⟨#[k]⟩ ∧ k ∈ al := by
    obtain ⟨⟨l⟩⟩ := z
    cases l with
    | nil => exact Bool.noConfusion hz
    | cons k r =>
      cases r with
      | nil => exact ⟨k, rfl, of_decide_eq_true hz⟩
      | cons k2 r2 => exact Bool.noConfusion hz
  obtain ⟨k, rfl, hk⟩ := hzz
  rw [et]
  refine ⟨?_, ?_, hk, ?_⟩
  · unfold encTri tupOf
    rw [hi]
    show PyData.tuple [.int ((a.toNat : Nat) : Int), .str ⟨#[k]⟩, .int ((c.toNat : Nat) : Int)] = .tuple [.int a, .str ⟨#[k]⟩, .int c]
    rw [Int.toNat_of_nonneg a0, Int.toNat_of_nonneg c0]
  · show a.toNat < nl
    omega
  · show c.toNat < nr
    omega
theorem goMarked_all {al : List Nat} {nl nr : Int} : ∀ {ds : List PyData} {prev : Option PyData} {k : Int}, goMarked al nl nr prev ds k = none → ∀ x ∈ ds, tripleD al nl nr x = true
  | [], _, _, _, x, hx => by cases hx
  | d :: ds, prev, k, h, x, hx => by
    rw [goMarked_cons] at h
    by_cases hp : tripleD al nl nr d = true
    · rw [if_pos hp] at h
      rcases List.mem_cons.mp hx with e | hx
      · rw [e]; exact hp
      · by_cases hq : (prev.all fun p => PySem.W.dataLt p (tupOf d)) = true
        · rw [if_pos hq] at h
          exact goMarked_all h x hx
        · rw [if_neg hq] at h; cases h
    · rw [if_neg hp] at h; cases h
def trisD (d : PyData) : List Tri := ((itemsD d).getD []).map triD
theorem marked_back {al : List Nat} {nl nr : Nat} {d : PyData} (h : markedDue al nl nr d = none) : keptD d = encT (trisD d) ∧ ∀ t ∈ trisD d, t.1 < nl ∧ t.2.1 ∈ al ∧ t.2.2 < nr := by
  unfold markedDue at h
  cases hi : itemsD d with
  | none => rw [hi] at h; cases h
  | some ds =>
    rw [hi] at h
    have hall := goMarked_all h
    have et : trisD d = ds.map triD := by unfold trisD; rw [hi]; rfl
    constructor
    · unfold keptD encT
      rw [et, hi, List.map_map]
      congr 1
      show ds.map tupOf = ds.map (encTri ∘ triD)
      exact List.map_congr_left fun x hx => (triple_back (hall x hx)).1.symm
    · intro t ht
      rw [et] at ht
      obtain ⟨x, hx, rfl⟩ := List.mem_map.mp ht
      exact (triple_back (hall x hx)).2
theorem tabD_length {d : PyData} {ds : List PyData} (h : itemsD d = some ds) : (tabD d).length = ds.length := by
  unfold tabD
  rw [h]
  exact List.length_map ..
end Kx
set_option Elab.async false
set_option linter.all false
set_option maxRecDepth 100000
set_option maxHeartbeats 4000000
namespace Kx
open PySem PySem.Spec PyProof.Rows L2
theorem asc_pair : ∀ {l : List Nat}, ascL l = true → l.Pairwise (· < ·)
  | [], _ => .nil
  | [a], _ => List.pairwise_singleton ..
  | a :: b :: l, h => by
    unfold ascL at h
    simp only [List.drop_succ_cons, List.drop_zero, List.zip_cons_cons, List.all_cons, Bool.and_eq_true, decide_eq_true_eq] at h
    have hab : a < b := by
      have := h.1
      cases this with
      | rel h => exact h
      | cons h => cases h
    have ih : (b :: l).Pairwise (· < ·) := asc_pair (by unfold ascL; simpa using h.2)
    refine List.pairwise_cons.mpr ⟨fun c hc => ?_, ih⟩
    rcases List.mem_cons.mp hc with e | hc
    · rw [e]; exact hab
    · exact Nat.lt_trans hab (List.rel_of_pairwise_cons ih hc)
theorem asc_nodup {l : List Nat} (h : ascL l = true) : l.Nodup := (asc_pair h).imp fun h => Nat.ne_of_lt h
/-! ### the mask of a letter -/
def maskC (p c : Nat) (trs : List Tri) : Nat := trs.foldl (fun m t => if t.1 = p ∧ t.2.1 = c then m ||| 1 <<< t.2.2 else m) 0
theorem maskC_snoc (p c : Nat) (trs : List Tri) (t : Tri) : maskC p c (trs ++ [t]) = if t.1 = p ∧ t.2.1 = c then maskC p c trs ||| 1 <<< t.2.2 else maskC p c trs := by
  unfold maskC
  rw [List.foldl_append]
  rfl
theorem find_at {al : Str} {j c : Nat} (h : al.cps.toList[j]? = some c) (hn : al.cps.toList.Nodup) : ixF al c = j := by
  have hc : c ∈ al.cps.toList := List.mem_of_getElem? h
  have h1 := find_in hc
  obtain ⟨i, e, hi⟩ : ∃ i : Nat, Txt.find al ⟨#[c]⟩ = (i : Int) ∧ al.cps.toList[i]? = some c := by
    unfold Txt.find at h1 ⊢
    cases ho : Builtin.Str.occurrences al ⟨#[c]⟩ 0 al.length 1 with
    | nil => rw [ho] at h1; exact absurd h1.1 (by decide)
    | cons i r =>
      have hs := (PySem.StrLaws.occ_spec al ⟨#[c]⟩ 0 al.length 1 i (by rw [ho]; exact .head _)).2
      exact ⟨i, rfl, (PySem.StrLaws.subAt_one al c i).mp ⟨(PySem.StrLaws.occ_spec al ⟨#[c]⟩ 0 al.length 1 i (by rw [ho]; exact .head _)).1, hs⟩⟩
  unfold ixF
  rw [e, Int.toNat_natCast]
  exact (List.getElem?_inj (List.getElem?_eq_some_iff.mp hi).1 hn).mp (hi.trans h.symm)
theorem ix_inj {al : Str} {c d : Nat} (hn : al.cps.toList.Nodup) (hc : c ∈ al.cps.toList) (hd : d ∈ al.cps.toList) (e : ixF al c = ixF al d) : c = d := by
  obtain ⟨i, hi⟩ := List.mem_iff_getElem?.mp hc
  obtain ⟨j, hj⟩ := List.mem_iff_getElem?.mp hd
  rw [find_at hi hn, find_at hj hn] at e
  subst e
  exact Option.some.inj (hi.symm.trans hj)
theorem maskT_C {al : Str} {p j c : Nat} (h : al.cps.toList[j]? = some c) (hn : al.cps.toList.Nodup) : ∀ (trs : List Tri), (∀ t ∈ trs, t.2.1 ∈ al.cps.toList) → maskT (ixF al) p j trs = maskC p c trs := by
  suffices H : ∀ (trs : List Tri) (m : Nat), (∀ t ∈ trs, t.2.1 ∈ al.cps.toList) → trs.foldl (fun m t => if t.1 = p ∧ ixF al t.2.1 = j then m ||| 1 <<< t.2.2 else m) m = trs.foldl (fun m t => if t.1 = p ∧ t.2.1 = c then m ||| 1 <<< t.2.2 else m) m by
    exact fun trs ht => H trs 0 ht
  intro trs
  induction trs with
  | nil => exact fun _ _ => rfl
  | cons t trs ih =>
    intro m ht
    rw [List.foldl_cons, List.foldl_cons, ih _ fun u hu => ht u (List.mem_cons_of_mem _ hu)]
    have e : (t.1 = p ∧ ixF al t.2.1 = j) ↔ (t.1 = p ∧ t.2.1 = c) := by
      constructor
      · rintro ⟨h1, h2⟩
        exact ⟨h1, ix_inj hn (ht t (List.mem_cons_self ..)) (List.mem_of_getElem? h) (h2.trans (find_at h hn).symm)⟩
      · rintro ⟨h1, h2⟩
        exact ⟨h1, by rw [h2]; exact find_at h hn⟩
    simp only [e]
/-! ### masks_of_triples -/
abbrev keyT (p c : Nat) : List L2.Key := [Sum.inl (p : Nat), Sum.inr ⟨#[c]⟩]
theorem keyT_inj {p c p' c' : Nat} (h : keyT p c = keyT p' c') : p = p' ∧ c = c' := by
  injection h with h1 h2
  injection h2 with h2 _
  have e1 := Sum.inl.inj h1
  have e2 := Sum.inr.inj h2
  refine ⟨by omega, ?_⟩
  have e3 : (⟨#[c]⟩ : Str).cps.toList = (⟨#[c']⟩ : Str).cps.toList := by rw [e2]
  exact List.cons.inj e3 |>.1
/-- the dict holds the masks of these triples -/
def DictM (kvs : List (List L2.Key × V)) (trs : List Tri) : Prop := ∀ p c : Nat, (valV kvs (keyT p c)).getD (.int 0) = .int (maskC p c trs : Nat)
theorem dictM_put {kvs : List (List L2.Key × V)} {trs : List Tri} {t : Tri} (h : DictM kvs trs) : DictM (putK kvs (keyT t.1 t.2.1) (.int (maskC t.1 t.2.1 trs ||| 1 <<< t.2.2 : Nat))) (trs ++ [t]) := by
  intro p c
  rw [valV_put, maskC_snoc]
  by_cases e : t.1 = p ∧ t.2.1 = c
  · obtain ⟨e1, e2⟩ := e
    subst e1 e2
    rw [if_pos rfl, if_pos ⟨rfl, rfl⟩]
    rfl
  · rw [if_neg (fun z => e (by obtain ⟨h1, h2⟩ := keyT_inj z; exact ⟨h1.symm, h2.symm⟩)), if_neg e]
    exact h p c
theorem bor_mask (m q : Nat) : Builtin.bitOr (m : Nat) (1 * 2 ^ ((q : Nat) : Int).toNat) = ((m ||| 1 <<< q : Nat) : Int) := by
  have e : (1 : Int) * 2 ^ ((q : Nat) : Int).toNat = ((2 ^ q : Nat) : Int) := by rw [Int.toNat_natCast, Int.one_mul]; norm_cast
  rw [e, L2.bitOr_nn (Int.natCast_nonneg _) (Int.natCast_nonneg _), Int.toNat_natCast, Int.toNat_natCast, Nat.one_shiftLeft]
def rTupO (K : PySem.W.Frag) : List V → Hp → VK → Prop := fun xs H Q => ∃ p ys, xs = [V.ref p] ∧ ((SqL K H p ys ∧ ∀ l : Addr, H l = none → Q (V.ref l) (upd H l (.tup ys))) ∨ (SqT K H p ys ∧ Q (V.ref p) H))
theorem same_upd {H : Hp} {t : Addr} {o : HO} (ht : H t = none) : Same H (upd H t o) := fun b u hb => by rw [upd_ne (ne_of_none hb ht)]; exact hb
theorem putK_le {κ : Type} [DecidableEq κ] (c : List (κ × V)) (k : κ) (x : V) : (putK c k x).length ≤ c.length + 1 := by
  unfold putK
  split
  · rw [List.length_map]; omega
  · rw [List.length_append]; exact Nat.le_refl _
theorem hu1 {A : Around} {k : Nat} (hr : Room k A) : A.units + 1 < cLine := by have := hr.un; omega
theorem rtL_ints {H : Hp} (f : Nat → Nat) : ∀ l : List Nat, RtL H (l.map fun k => V.int (f k : Nat)) (l.map fun k => PyData.int (f k : Nat))
  | [] => .nil
  | k :: l => .cons (.int _) (rtL_ints f l)
theorem rtL_by {H : Hp} : ∀ {vs : List V} {ds : List PyData}, vs.length = ds.length → (∀ (i : Nat) (v : V) (d : PyData), vs[i]? = some v → ds[i]? = some d → Rt H v d) → RtL H vs ds
  | [], [], _, _ => .nil
  | v :: vs, d :: ds, h, g => .cons (g 0 v d rfl rfl) (rtL_by (Nat.succ.inj h) fun i a b ha hb => g (i + 1) a b ha hb)
section
variable {P : Program} {w : World} {K : PySem.W.Frag} {mg : Str → Option Value} {base : Heap}
/-- what masks_of_triples is worth -/
def sp_masks_of_triples : Sp := fun vs H Q _ => ∃ (al : Str) (nl : Nat) (v : V) (trs : List Tri), vs = [.str al, .int (nl : Nat), v] ∧ Rt H v (encT trs) ∧ al.cps.toList.Nodup ∧ al.length ≤ 8 ∧ nl ≤ 40 ∧ trs.length ≤ 100000 ∧ (∀ t ∈ trs, t.1 < nl ∧ t.2.1 ∈ al.cps.toList ∧ t.2.2 < 40) ∧
  ∀ H' r, Same H H' → Rt H' r (encK (ixF al) nl al.length trs) → Q r H'
theorem ok_masks_of_triples (T : Txt K mg) : Cal P w K mg base CX0 2 "masks_of_triples" ["alphabet", "many", "marked"] sp_masks_of_triples := by
  obtain ⟨fd, F⟩ := F_masks_of_triples T
  refine cal_mk F (g_masks_of_triples T) sc_masks_of_triples (fun _ _ _ _ _ _ us hl => match us, hl with | [_, _, _], _ => rfl) (fun vs H Q E h => ?_) (fun cdv A outer s H vs Q E hr h => ?_)
  · obtain ⟨al, nl, v, trs, rfl, _⟩ := h; rfl
  · refine ⟨_, PSs.nox (pss_cons (ps_set (i := 3) sc_masks_of_triples.nd rfl (Or.inr rfl) pe_dnewT)
      (pss_cons (ps_for PassesOwn.never rfl (pi_seq (pv 2)) (pg_tup rfl (pgs_cons (pg_name (i := 4) sc_masks_of_triples.nd rfl (Or.inl rfl)) (pgs_cons (pg_name (i := 5) sc_masks_of_triples.nd rfl (Or.inl rfl)) (pgs_cons (pg_name (i := 6) sc_masks_of_triples.nd rfl (Or.inl rfl)) pgs_nil))))
        (pss_one (ps_dput (hu1 hr) (pv 3) (pe_tup (pa_cons (pv 4) (pa_cons (pv 5) pa_nil))) (pe_op op_or (pe_dget2 (hu1 hr) (pv 3) (pe_tup (pa_cons (pv 4) (pa_cons (pv 5) pa_nil))) pe_int ⟨rfl, rfl, rfl, rfl⟩) (pe_op op_shl pe_int (pv 6))) (by rfl))))
      (pss_one (ps_ret (pe_callTy call_tuple_of (by rfl) (fr_tuple T) b_tuple (pa_cons (pe_lc (own := [("standing", 4)]) (g := gName 4) (tt := tYes) rfl sc_masks_of_triples.nd (pi_range1 (by rfl) (fr_range T) (pa_cons (pv 1) pa_nil)) (blkOk_by (N := N_masks_of_triples) (sc := defScope s_masks_of_triples) (by decide +kernel))
        (fun _ _ _ _ _ => pg_name (i := 4) sc_masks_of_triples.nd rfl (Or.inr rfl)) (fun _ _ _ _ _ => pts_nil)
        (fun _ _ _ _ _ => by
          refine pe_callTy (r := rTupO K) call_tuple_of (by rfl) (fr_tuple T) b_tuple (pa_cons (pe_lc (te := tDGet2 (tVar 3) (tTup (tCons (tVar 4) (tCons (tVar 5) tNil))) (tC (.int 0))) (wi := iStr (tVar 0)) (own := [("letter", 5)]) (g := gName 5) (tt := tYes) rfl sc_masks_of_triples.nd (pi_str (pv 0)) ?_
            (fun _ _ _ _ _ => pg_name (i := 5) sc_masks_of_triples.nd rfl (Or.inl rfl)) (fun _ _ _ _ _ => pts_nil) (fun _ _ _ _ _ => ?_)) pa_nil)
          · refine blkOk_by ?_
            simp only [cxOf, Cx.nox, Cx.blk, compEnvC]
            change blkC _ (relabel _ (envOfC "masks_of_triples" (defScope s_masks_of_triples) 0 0 Value.none)) _ _ = true
            decide +kernel
          · exact pe_dget2 (hu1 hr) (pv 3) (pe_tup (pa_cons (pv 4) (pa_cons (pv 5) pa_nil))) pe_int ⟨rfl, rfl, rfl, rfl⟩)) pa_nil)))))), ?_⟩
    obtain ⟨al, nl, v, trs, rfl, rt, hnd, h8, h40, hlen, ht, q⟩ := h
    obtain ⟨a, xs, rfl, ha, hx⟩ : ∃ a xs, v = .ref a ∧ H a = some (.tup xs) ∧ RtL H xs (trs.map encTri) := by
      unfold encT at rt
      cases rt with
      | tup e h => exact ⟨_, _, rfl, e, h⟩
    have hxl : xs.length = trs.length := by have := hx.length; rwa [List.length_map] at this
    intro D hD
    have f0 := same_upd (o := .dT []) hD
    refine ⟨.ref a, rfl, a, xs, rfl, .inr ⟨SqT.of (f0 _ _ ha), fun J W => ?_⟩⟩
    refine for_it W (fun i σ H2 => ∃ (v4 v5 v6 : Option V) (kvs : List (List L2.Key × V)), σ = [some (.str al), some (.int (nl : Nat)), some (.ref a), some (.ref D), v4, v5, v6] ∧ H2 D = some (.dT kvs) ∧ kvs.length ≤ i ∧ DictM kvs (trs.take i) ∧ Same H H2)
      ⟨none, none, none, [], rfl, upd_same, Nat.le_refl _, fun _ _ => rfl, f0⟩ (fun i σ H2 _ ⟨_, _, _, _, _, _, _, _, s⟩ => SqT.of (s _ _ ha)) ?_ ?_
    · rintro i x σ H2 H3 hi ⟨v4, v5, v6, kvs, rfl, hDk, hkl, hm, s2⟩ ⟨eH, hxi⟩
      replace eH := eH.symm
      subst eH
      have hit : i < trs.length := by rw [← hxl]; exact hi
      obtain ⟨d, hd, rd⟩ := hx.get hxi
      rw [List.getElem?_map, List.getElem?_eq_getElem hit] at hd
      have ed := (Option.some.inj hd).symm
      subst ed
      have htk : trs.take (i + 1) = trs.take i ++ [trs[i]] := by rw [List.take_succ, List.getElem?_eq_getElem hit]; rfl
      have hti := ht trs[i] (List.getElem_mem hit)
      generalize trs[i] = t at rd htk hti
      unfold encTri at rd
      obtain ⟨b, rfl, hb⟩ : ∃ b, x = .ref b ∧ H b = some (.tup [.int (t.1 : Nat), .str ⟨#[t.2.1]⟩, .int (t.2.2 : Nat)]) := by
        cases rd with
        | tup e h =>
          cases h with
          | cons r0 h1 => cases h1 with
            | cons r1 h2 => cases h2 with
              | cons r2 h3 =>
                cases h3
                cases r0
                cases r1
                cases r2
                exact ⟨_, rfl, e⟩
      refine ⟨b, _, rfl, SqT.of (s2 _ _ hb), rfl, _, _, rfl, _, _, rfl, _, _, rfl, rfl, ?_⟩
      have hDb : ∀ {o}, H D = some o → False := fun e => by rw [hD] at e; cases e
      refine ⟨.ref D, rfl, D, rfl, .inr ⟨kvs, .inl hDk⟩, .int (t.1 : Nat), rfl, .str ⟨#[t.2.1]⟩, rfl, (by show 2 ≤ sizeLine; decide), fun p hp => ⟨_, DGet.t (k := keyT t.1 t.2.1) (by rw [upd_ne (fun z => by rw [← z, hDk] at hp; cases hp)]; exact hDk) upd_same, ?_⟩⟩
      have hpD : p ≠ D := fun z => by rw [z, hDk] at hp; cases hp
      rw [hm t.1 t.2.1]
      refine ⟨.int (t.2.2 : Nat), rfl, 1, _, rfl, rfl, ⟨by omega, by omega, by decide⟩, _, _, rfl, rfl, .ref D, rfl, .int (t.1 : Nat), rfl, .str ⟨#[t.2.1]⟩, rfl, (by show 2 ≤ sizeLine; decide), fun p2 hp2 => ?_⟩
      have hDk2 : upd H2 p (.tup [.int (t.1 : Nat), .str ⟨#[t.2.1]⟩]) D = some (.dT kvs) := by rw [upd_ne (Ne.symm hpD)]; exact hDk
      have hp2D : p2 ≠ D := fun z => by rw [z, hDk2] at hp2; cases hp2
      refine ⟨D, _, rfl, DPut.t (k := keyT t.1 t.2.1) (by rw [upd_ne (Ne.symm hp2D)]; exact hDk2) upd_same (Nat.lt_of_le_of_lt hkl (Nat.lt_of_lt_of_le (by omega : i < 100001) (by decide))), ?_⟩
      refine ⟨_, _, _, _, rfl, upd_same, Nat.le_trans (putK_le _ _ _) (by omega), ?_, ?_⟩
      · rw [htk]
        have e9 : (fun i j => V.int (Builtin.bitOr i j)) ((maskC t.1 t.2.1 (trs.take i) : Nat) : Int) (1 * 2 ^ ((t.2.2 : Nat) : Int).toNat) = .int (maskC t.1 t.2.1 (trs.take i) ||| 1 <<< t.2.2 : Nat) := congrArg V.int (bor_mask _ _)
        rw [e9]
        exact dictM_put hm
      · intro c o e
        rw [upd_ne (fun z => by rw [z] at e; exact hDb e)]
        exact (s2.trans ((same_upd hp).trans (same_upd hp2))) c o e
    · rintro σ H2 ⟨v4, v5, v6, kvs, rfl, hDk, hkl, hm, s2⟩
      rw [hxl, List.take_length] at hm
      refine ⟨.int (nl : Nat), rfl, (nl : Nat), rfl, by omega, by omega, fun L hL => ?_⟩
      have en : ((nl : Nat) : Int).toNat = nl := by omega
      rw [en]
      refine lc_new (walk_range (n := nl)) hL (Nat.le_trans h40 (by decide)) (fun (i : Nat) H3 v => Rt H3 v (.tuple ((List.range al.length).map fun k => .int (maskT (ixF al) i k trs : Nat)))) (fun _ _ _ _ s h => h.tups s) (fun _ _ => trivial)
        (fun i x H3 H4 Qk hi s3 hy hk => ?_) (fun H3 acc s3 hL3 hl hv => ?_)
      · obtain ⟨eH, ex0⟩ := hy
        replace eH := eH.symm
        subst eH
        replace ex0 : x = .int (i : Nat) := ex0.trans (congrArg V.int (Int.zero_add _))
        subst ex0
        refine ⟨rfl, .str al, rfl, al, rfl, fun L2 hL2 => ?_⟩
        have hsz : al.cps.toList.length = al.length := Array.length_toList
        refine lc_new walk_str hL2 (by show al.length ≤ sizeLine; exact Nat.le_trans h8 (by decide)) (fun (j : Nat) _ v => v = .int (maskT (ixF al) i j trs : Nat)) (fun _ _ _ _ _ h => h) (fun _ _ => trivial)
          (fun j y H5 H6 Qk2 hj s5 hy hk2 => ?_) (fun H5 acc s5 hL5 hl hv => ?_)
        · obtain ⟨eH, c, hc, rfl⟩ := hy
          replace eH := eH.symm
          subst eH
          have hc' : al.cps.toList[j]? = some c := by rw [Array.getElem?_toList]; exact hc
          have hDk5 : H5 D = some (.dT kvs) := s5 _ _ (s3 _ _ hDk)
          refine ⟨rfl, .ref D, rfl, D, rfl, .inr ⟨kvs, .inl hDk5⟩, .int (i : Nat), rfl, .str ⟨#[c]⟩, rfl, (by show 2 ≤ sizeLine; decide), fun p hp => ⟨_, DGet.t (k := keyT i c) (by rw [upd_ne (fun z => by rw [← z, hDk5] at hp; cases hp)]; exact hDk5) upd_same, ?_⟩⟩
          rw [hm i c]
          exact hk2 _ _ (same_upd hp) (by rw [maskT_C hc' hnd trs fun t h => (ht t h).2.1])
        · have ea : acc = (List.range al.length).map fun k => V.int (maskT (ixF al) i k trs : Nat) := by
            apply List.ext_getElem?
            intro j
            have hl : acc.length = al.length := hl
            by_cases hj : j < al.length
            · have h9 : j < acc.length := by rw [hl]; exact hj
              rw [List.getElem?_eq_getElem h9, hv j _ (List.getElem?_eq_getElem h9), List.getElem?_map, List.getElem?_range hj]
              rfl
            · rw [List.getElem?_eq_none (by omega), List.getElem?_eq_none (by rw [List.length_map, List.length_range]; omega)]
          refine ⟨L2, acc, rfl, .inl ⟨SqL.of hL5, fun l hl => ?_⟩⟩
          refine hk _ _ (s5.trans (same_upd hl)) ?_
          rw [ea]
          exact .tup upd_same (rtL_ints _ _)
      · refine ⟨L, acc, rfl, .inl ⟨SqL.of hL3, fun l hl2 => ?_⟩⟩
        refine q _ _ (s2.trans (s3.trans (same_upd hl2))) ?_
        unfold encK
        refine .tup upd_same (rtL_by (by rw [hl, List.length_map, List.length_range]) fun i v d hi hd => ?_)
        have hin : i < nl := by have := (List.getElem?_eq_some_iff.mp hi).1; rw [hl] at this; exact this
        rw [List.getElem?_map, List.getElem?_range hin] at hd
        cases hd
        exact (hv i v hi).tups (Same.tups (same_upd hl2))
end
end Kx
set_option Elab.async false
set_option linter.all false
set_option maxRecDepth 100000
set_option maxHeartbeats 2000000
namespace Kx
open PySem PySem.Spec PyProof.Rows L2
/-- all that was tracked stands, but x's own fields -/
def SameX (x : Addr) (H H' : Hp) : Prop := ∀ b o, b ≠ x → H b = some o → H' b = some o
theorem sX {x : Addr} {H H' : Hp} (s : Same H H') : SameX x H H' := fun b o _ e => s b o e
theorem SameX.trans {x : Addr} {H H1 H2 : Hp} (a : SameX x H H1) (b : SameX x H1 H2) : SameX x H H2 := fun c o hc h => b c o hc (a c o hc h)
theorem SameX.tups {x : Addr} {H H' : Hp} (s : SameX x H H') (hx : ∀ xs, H x ≠ some (.tup xs)) : Tups H H' := fun b xs e => s b _ (fun z => hx xs (z ▸ e)) e
theorem sameX_upd {x : Addr} {H : Hp} {o : HO} : SameX x H (upd H x o) := fun b u hb e => by rw [upd_ne hb]; exact e
mutual
theorem Rp.samex {x : Addr} {H H' : Hp} {C dx : Addr} {fs : List (Str × V)} (hx : H x = some (.ins C dx fs)) (s : SameX x H H') : ∀ {v : V} {d : PyData}, Rp H v d → Rp H' v d
  | _, _, .non => .non
  | _, _, .bl b => .bl b
  | _, _, .int i => .int i
  | _, _, .str z => .str z
  | _, _, .lst e h => .lst (s _ _ (fun z => by rw [z, hx] at e; cases e) e) (RpL.samex hx s h)
  | _, _, .tup e h => .tup (s _ _ (fun z => by rw [z, hx] at e; cases e) e) (RpL.samex hx s h)
  | _, _, .dct e => .dct (s _ _ (fun z => by rw [z, hx] at e; cases e) e)
theorem RpL.samex {x : Addr} {H H' : Hp} {C dx : Addr} {fs : List (Str × V)} (hx : H x = some (.ins C dx fs)) (s : SameX x H H') : ∀ {vs : List V} {ds : List PyData}, RpL H vs ds → RpL H' vs ds
  | _, _, .nil => .nil
  | _, _, .cons h hs => .cons (Rp.samex hx s h) (RpL.samex hx s hs)
end
section
variable {P : Program} {w : World} {K : PySem.W.Frag} {mg : Str → Option Value} {base : Heap}
/-- what is passed to Pair, and what is wrong of it first -/
def alS : PyData → Str
  | .str z => z
  | _ => ⟨#[]⟩
def lenD (d : PyData) : Nat := ((itemsD d).getD []).length
inductive PDue where
  | alph | left (k : Int) | right (k : Int) | marked (k : Int) | ok
def pairDue (a l r m : PyData) : PDue := if alphaD a = true then
    (match readerDue (alS a).length l with
    | some k => .left k
    | none => match readerDue (alS a).length r with
      | some k => .right k
      | none => match markedDue (alS a).cps.toList (lenD l) (lenD r) m with
        | some k => .marked k
        | none => .ok)
  else .alph
def pairD (a l r m : PyData) : PairD := ⟨alS a, ixF (alS a), tabD l, tabD r, trisD m⟩
/-- the error due, at a heap -/
def pairErr (K : PySem.W.Frag) (va : V) (due : PDue) (H : Hp) (E : XK) : Prop := ∀ dx, H dx = none → match due with
  | .alph => E (.ref (He.ga K "BadAlphabet")) (some dx) (upd H dx (.xd [("thing", va)]))
  | .left k => E (.ref (He.ga K "BadReader")) (some dx) (upd H dx (.xd [("number", .int k), ("side", .str "left")]))
  | .right k => E (.ref (He.ga K "BadReader")) (some dx) (upd H dx (.xd [("number", .int k), ("side", .str "right")]))
  | .marked k => E (.ref (He.ga K "BadMarked")) (some dx) (upd H dx (.xd [("number", .int k)]))
  | .ok => True
def smallA (a l r m : PyData) : Prop := smallT a ∧ smallR l ∧ smallR r ∧ smallM m
def sp_Pair_init (K : PySem.W.Frag) : Sp := fun vs H Q E => ∃ (x dx : Addr) (va vl vr vm : V) (a l r m : PyData), vs = [.ref x, va, vl, vr, vm] ∧ H x = some (.ins (He.ga K "Pair") dx []) ∧ H dx = some (.own x) ∧ dx ≠ x ∧
  Rp H va a ∧ Rp H vl l ∧ Rp H vr r ∧ Rp H vm m ∧ smallA a l r m ∧
  (∀ H', SameX x H H' → pairErr K va (pairDue a l r m) H' E) ∧
  (pairDue a l r m = .ok → ∀ H', SameX x H H' → PairAt K H' x (pairD a l r m) → PairOk (pairD a l r m) → Q .non H')
theorem trisD_length (m : PyData) : (trisD m).length = lenD m := by unfold trisD lenD; exact List.length_map ..
theorem ok_Pair_init {f : Addr} {fd : FuncData} (T : Txt K mg) (F : FnP K "__init__" "Pair.__init__" s_Pair___init__ f fd) (GM : Cal P w K mg base CX0 2 "masks_of_triples" ["alphabet", "many", "marked"] sp_masks_of_triples) :
    FnOk P w K mg base (L2N.CX P w) 5 f fd ["self", "alphabet", "left", "right", "marked"] (sp_Pair_init K) := by
  refine F.ok sc_Pair___init__ (fun vs H Q E h => ?_) (fun cdv A outer s H vs Q E hr h => ?_)
  · obtain ⟨x, dx, va, vl, vr, vm, a, l, r, m, rfl, _⟩ := h; rfl
  · have tk := @L2N.takes_of (cxOf (L2N.CX P w) P w K mg base N_Pair___init__ "Pair.__init__" (defScope s_Pair___init__) f cdv A outer s H E)
    refine ⟨_, (pss_cons (ps_expr (pe_cal (E := E) (ok_check_alphabet T) (hr.mono (by decide)) (L2N.passes_call (L2N.takes_of rfl rfl rfl rfl) (fun _ _ _ _ h => h)) (pa_cons (pv 1) pa_nil)))
      (pss_cons (ps_fld (pv 0) (pv 1) rfl)
      (pss_cons (ps_fld (pv 0) (pe_cal (E := E) (ok_kept_reader T) hr (L2N.passes_call (L2N.takes_of rfl rfl rfl rfl) (fun _ _ _ _ h => h)) (pa_cons (pv 1) (pa_cons pe_str (pa_cons (pv 2) pa_nil)))) rfl)
      (pss_cons (ps_fld (pv 0) (pe_cal (E := E) (ok_kept_reader T) hr (L2N.passes_call (L2N.takes_of rfl rfl rfl rfl) (fun _ _ _ _ h => h)) (pa_cons (pv 1) (pa_cons pe_str (pa_cons (pv 3) pa_nil)))) rfl)
      (pss_cons (ps_fld (pv 0) (pe_cal (E := E) (ok_kept_marked T) hr (L2N.passes_call (L2N.takes_of rfl rfl rfl rfl) (fun _ _ _ _ h => h)) (pa_cons (pv 1) (pa_cons (pe_fld (pv 0) rfl) (pa_cons (pe_fld (pv 0) rfl) (pa_cons (pv 4) pa_nil))))) rfl)
      (pss_one (ps_fld (pv 0) (pe_cal GM (hr.mono (by decide)) pass0 (pa_cons (pv 1) (pa_cons (pe_callB call_len (by rfl) (fr_len T) boot_len (pa_cons (pe_fld (pv 0) rfl) pa_nil)) (pa_cons (pe_fld (pv 0) rfl) pa_nil)))) rfl))))))), ?_⟩
    obtain ⟨x, dx, va, vl, vr, vm, a, l, r, m, rfl, hx, hdx, hne, ra, rl, rr, rm, sm, kE, kQ⟩ := h
    have C := cls_Pair T
    -- the alphabet
    refine ⟨va, rfl, va, a, rfl, ra, sm.1, fun hb H1 s1 d1 hd1 => ?_, fun hb H1 s1 => ?_⟩
    · have e : pairDue a l r m = .alph := by unfold pairDue; rw [if_neg (by rw [hb]; exact Bool.false_ne_true)]
      have := kE H1 (sX s1) d1 hd1
      rw [e] at this
      exact this
    obtain ⟨z, rfl⟩ : ∃ z, a = .str z := by
      cases a <;> first | exact ⟨_, rfl⟩ | (exact Bool.noConfusion hb)
    have hz8 : z.length ≤ 8 := by
      have h1 : alphaL z.cps.toList = true := hb
      unfold alphaL at h1
      rw [Bool.and_eq_true, decide_eq_true_eq] at h1
      have h2 : z.cps.toList.length = z.length := Array.length_toList
      omega
    have hnd : z.cps.toList.Nodup := by
      have h1 : alphaL z.cps.toList = true := hb
      unfold alphaL at h1
      rw [Bool.and_eq_true, Bool.and_eq_true] at h1
      exact asc_nodup h1.2.2
    have habc : ∀ c ∈ z.cps.toList, c < 0x110000 := by
      have h1 : alphaL z.cps.toList = true := hb
      unfold alphaL at h1
      rw [Bool.and_eq_true, Bool.and_eq_true] at h1
      intro c hc
      have h2 := of_decide_eq_true (List.all_eq_true.mp h1.2.1 c hc)
      have h3 : ∀ x ∈ lettersL, x < 0x110000 := by decide +kernel
      exact h3 c h2
    have eva : va = .str z := by cases ra; rfl
    subst eva
    have dueL : ∀ k, readerDue z.length l = some k → pairDue (.str z) l r m = .left k := fun k hk => by
      unfold pairDue
      rw [if_pos hb]
      show (match readerDue z.length l with | some k => PDue.left k | none => _) = _
      rw [hk]
    have dueL0 : readerDue z.length l = none → pairDue (.str z) l r m = (match readerDue z.length r with
      | some k => .right k
      | none => match markedDue z.cps.toList (lenD l) (lenD r) m with
        | some k => .marked k
        | none => .ok) := fun hk => by
      unfold pairDue
      rw [if_pos hb]
      show (match readerDue z.length l with | some k => PDue.left k | none => _) = _
      rw [hk]
      rfl
    have hx1 := s1 _ _ hx
    refine ⟨.str z, rfl, .ref x, rfl, x, _, dx, [], rfl, hx1, C, noat_alphabet T, (by decide), ?_⟩
    -- left
    have s2 : SameX x H (upd H1 x (.ins (He.ga K "Pair") dx (putF "alphabet" (.str z) []))) := (sX s1).trans sameX_upd
    refine ⟨.str z, rfl, vl, rfl, z, "left", vl, l, rfl, rl.samex hx s2, sm.2.1, Nat.le_trans hz8 (by decide), fun k hk H3 s3 d3 hd3 => ?_, fun hk H3 r3 s3 t3 => ?_⟩
    · have := kE H3 (s2.trans (sX s3)) d3 hd3
      rw [dueL k hk] at this
      exact this
    have eD2 := dueL0 hk
    obtain ⟨eL, tL⟩ := reader_back hk
    rw [eL] at t3
    refine ⟨.ref x, rfl, x, _, dx, _, rfl, s3 _ _ upd_same, C, noat_left T, (by show 1 < 1000; decide), ?_⟩
    -- right
    have s4 : SameX x H (upd H3 x (.ins (He.ga K "Pair") dx (putF "left" r3 (putF "alphabet" (.str z) [])))) := (s2.trans (sX s3)).trans sameX_upd
    have t4 : Rt (upd H3 x (.ins (He.ga K "Pair") dx (putF "left" r3 (putF "alphabet" (.str z) [])))) r3 (encR (tabD l)) := t3.tups (sameX_upd.tups fun xs e => by rw [s3 _ _ upd_same] at e; cases e)
    refine ⟨.str z, rfl, vr, rfl, z, "right", vr, r, rfl, rr.samex hx s4, sm.2.2.1, Nat.le_trans hz8 (by decide), fun k hk H5 s5 d5 hd5 => ?_, fun hk H5 r5 s5 t5 => ?_⟩
    · have := kE H5 (s4.trans (sX s5)) d5 hd5
      rw [eD2, hk] at this
      exact this
    rw [hk] at eD2
    obtain ⟨eR, tR⟩ := reader_back hk
    rw [eR] at t5
    refine ⟨.ref x, rfl, x, _, dx, _, rfl, s5 _ _ upd_same, C, noat_right T, (by show 2 < 1000; decide), ?_⟩
    -- marked
    have s6 : SameX x H (upd H5 x (.ins (He.ga K "Pair") dx (putF "right" r5 (putF "left" r3 (putF "alphabet" (.str z) []))))) := (s4.trans (sX s5)).trans sameX_upd
    have nt5 : Tups H5 (upd H5 x (.ins (He.ga K "Pair") dx (putF "right" r5 (putF "left" r3 (putF "alphabet" (.str z) []))))) := sameX_upd.tups fun xs e => by rw [s5 _ _ upd_same] at e; cases e
    have t6 := (t4.tups (Same.tups s5)).tups nt5
    have u6 := t5.tups nt5
    have hlL : ((tabD l).map encM).length = lenD l := by unfold tabD lenD; rw [List.length_map, List.length_map]
    have hlR : ((tabD r).map encM).length = lenD r := by unfold tabD lenD; rw [List.length_map, List.length_map]
    refine ⟨.str z, rfl, .ref x, rfl, x, _, dx, _, r3, rfl, upd_same, C, noat_left T, rfl, .ref x, rfl, x, _, dx, _, r5, rfl, upd_same, C, noat_right T, rfl, vm, rfl, z, r3, r5, vm, _, _, m, rfl, t6, u6, rm.samex hx s6, sm.2.2.2, fun k hk H7 s7 d7 hd7 => ?_, fun hk H7 r7 s7 t7 => ?_⟩
    · have := kE H7 (s6.trans (sX s7)) d7 hd7
      rw [hlL, hlR] at hk
      rw [eD2] at this
      dsimp only at this
      rw [hk] at this
      exact this
    rw [hlL, hlR] at hk
    dsimp only at eD2
    rw [hk] at eD2
    obtain ⟨eM, tM⟩ := marked_back hk
    rw [eM] at t7
    refine ⟨.ref x, rfl, x, _, dx, _, rfl, s7 _ _ upd_same, C, noat_marked T, (by show 3 < 1000; decide), ?_⟩
    -- masks
    have s8 : SameX x H (upd H7 x (.ins (He.ga K "Pair") dx (putF "marked" r7 (putF "right" r5 (putF "left" r3 (putF "alphabet" (.str z) [])))))) := (s6.trans (sX s7)).trans sameX_upd
    have nt7 : Tups H7 (upd H7 x (.ins (He.ga K "Pair") dx (putF "marked" r7 (putF "right" r5 (putF "left" r3 (putF "alphabet" (.str z) [])))))) := sameX_upd.tups fun xs e => by rw [s7 _ _ upd_same] at e; cases e
    have t8 := (t6.tups (Same.tups s7)).tups nt7
    have u8 := (u6.tups (Same.tups s7)).tups nt7
    have w8 := t7.tups nt7
    obtain ⟨aL, xsL, rfl, hL, hxL⟩ : ∃ aL xsL, r3 = .ref aL ∧ (upd H7 x (.ins (He.ga K "Pair") dx (putF "marked" r7 (putF "right" r5 (putF "left" r3 (putF "alphabet" (.str z) [])))))) aL = some (.tup xsL) ∧ xsL.length = lenD l := by
      unfold encR at t8
      cases t8 with
      | tup e1 h1 => exact ⟨_, _, rfl, e1, h1.length.trans hlL⟩
    have hll : (tabD l).length = lenD l := by rw [← hlL, List.length_map]
    have hrr : (tabD r).length = lenD r := by rw [← hlR, List.length_map]
    have hm9 : (trisD m).length ≤ 100000 := by
      rw [trisD_length]
      unfold lenD
      cases hi : itemsD m with
      | none => exact Nat.zero_le _
      | some ds => exact (sm.2.2.2 ds hi).1
    refine ⟨.str z, rfl, .ref x, rfl, x, _, dx, _, _, rfl, upd_same, C, noat_left T, rfl, .ref aL, lenD l, rfl, .inr ⟨xsL, SqT.of hL, hxL.symm⟩, .ref x, rfl, x, _, dx, _, r7, rfl, upd_same, C, noat_marked T, rfl, z, lenD l, r7, trisD m, rfl, w8, hnd, hz8, by rw [← hll]; exact tL.le, hm9,
      fun t ht => ⟨(tM t ht).1, (tM t ht).2.1, Nat.lt_of_lt_of_le (tM t ht).2.2 (by rw [← hrr]; exact tR.le)⟩, fun H9 r9 s9 t9 => ?_⟩
    refine ⟨.ref x, rfl, x, _, dx, _, rfl, s9 _ _ upd_same, C, noat_masks T, (by show 4 < 1000; decide), ?_⟩
    have nt9 : Tups H9 (upd H9 x (.ins (He.ga K "Pair") dx (putF "masks" r9 (putF "marked" r7 (putF "right" r5 (putF "left" (.ref aL) (putF "alphabet" (.str z) []))))))) := sameX_upd.tups fun xs e => by rw [s9 _ _ upd_same] at e; cases e
    refine kQ eD2 _ ((s8.trans (sX s9)).trans sameX_upd) ⟨dx, .ref aL, r5, r7, r9, upd_same, ?_, (t8.tups (Same.tups s9)).tups nt9, (u8.tups (Same.tups s9)).tups nt9, (w8.tups (Same.tups s9)).tups nt9, ?_⟩ ⟨hz8, ixOk z, tL, tR, habc, fun t ht => ⟨by show t.1 < (tabD l).length; rw [hll]; exact (tM t ht).1, (tM t ht).2.1, by show t.2.2 < (tabD r).length; rw [hrr]; exact (tM t ht).2.2⟩⟩
    · exact ((s8.trans (sX s9)).trans sameX_upd) _ _ hne hdx
    · have h10 := t9.tups nt9
      rw [← hll] at h10
      exact h10
end
end Kx
set_option Elab.async false
set_option linter.all false
set_option maxRecDepth 100000
set_option maxHeartbeats 2000000
namespace Kx
open PySem PySem.Spec PyProof.Rows L2
theorem firstNot_all {al : List Nat} : ∀ {cs : List Nat} {k : Nat}, firstNot al cs k = none → ∀ c ∈ cs, c ∈ al
  | [], _, _, c, hc => by cases hc
  | d :: cs, k, h, c, hc => by
    unfold firstNot at h
    by_cases hd : d ∈ al
    · rw [if_pos hd] at h
      rcases List.mem_cons.mp hc with e | hc
      · rw [e]; exact hd
      · exact firstNot_all h c hc
    · rw [if_neg hd] at h; cases h
theorem row_back {al : List Nat} {d : PyData} (h : wrongL al d = none) : ∃ z, d = .str z ∧ z.length ≤ 200 ∧ ∀ c ∈ z.cps.toList, c ∈ al := by
  cases d with
  | str z =>
    have h : (if z.length ≤ 200 then firstNot al z.cps.toList 0 else some (-1)) = none := h
    by_cases hz : z.length ≤ 200
    · rw [if_pos hz] at h
      exact ⟨z, rfl, hz, firstNot_all h⟩
    · rw [if_neg hz] at h; cases h
  | _ => cases h
section
variable {P : Program} {w : World} {K : PySem.W.Frag} {mg : Str → Option Value} {base : Heap}
def sp_Pair_call (K : PySem.W.Frag) : Sp := fun vs H Q E => ∃ (x : Addr) (D : PairD) (v : V) (d : PyData), vs = [.ref x, v] ∧ PairAt K H x D ∧ PairOk D ∧ Rp H v d ∧ smallT d ∧
  (∀ k, wrongL D.al.cps.toList d = some k → errAt (He.ga K "BadRow") "at" (.int k) H E) ∧
  (∀ z, d = .str z → wrongL D.al.cps.toList d = none → ∀ H' r, Same H H' → Rt H' r (encB (marksP D z.cps.toList)) → Q r H')
theorem ok_Pair_call (T : Txt K mg) {f : Addr} {fd : FuncData} (F : FnP K "__call__" "Pair.__call__" s_Pair___call__ f fd) :
    FnOk P w K mg base (L2N.CX P w) 4 f fd ["self", "row"] (sp_Pair_call K) := by
  refine F.ok sc_Pair___call__ (fun vs H Q E h => ?_) (fun cdv A outer s H vs Q E hr h => ?_)
  · obtain ⟨x, D, v, d, rfl, _⟩ := h; rfl
  · refine ⟨_, (pss_cons (ps_expr (pe_cal (E := E) (ok_check_row T) hr (L2N.passes_call (L2N.takes_of rfl rfl rfl rfl) (fun _ _ _ _ h => h)) (pa_cons (pe_fld (pv 0) rfl) (pa_cons (pv 1) pa_nil))))
      (pss_one (ps_ret (pe_cal (ok_marks_in T) hr pass0 (pa_cons (pv 0) (pa_cons (pv 1) pa_nil)))))), ?_⟩
    obtain ⟨x, D, v, d, rfl, PA, PO, rd, sm, kE, kQ⟩ := h
    obtain ⟨dx, vl, vr, vm, vk, h1, h2⟩ := PA
    refine ⟨.ref x, rfl, x, _, dx, _, _, rfl, h1, cls_Pair T, noat_alphabet T, rfl, v, rfl, D.al, v, d, rfl, rd, sm, kE, fun hb H1 s1 => ?_⟩
    obtain ⟨z, rfl, hz, hz2⟩ := row_back hb
    cases rd
    exact ⟨.ref x, rfl, .str z, rfl, x, D, z, rfl, PairAt.same s1 ⟨dx, vl, vr, vm, vk, h1, h2⟩, PO, hz2, Nat.le_trans hz (by decide), fun H2 r s2 t2 => kQ z rfl hb H2 r (s1.trans s2) t2⟩
end
end Kx
set_option Elab.async false
set_option linter.all false
set_option maxRecDepth 100000
set_option maxHeartbeats 2000000
namespace Kx
open PySem PySem.Spec PyProof.Rows L2
/-! ### an own `in` -/
/-- x in o, o an instance of C whose own __contains__ keeps sp -/
def rInO (C : Addr) (sp : Sp) (E : XK) : R2 := fun x y H Q => ∃ a dx fs, y = .ref a ∧ H a = some (.ins C dx fs) ∧ sp [y, x] H (fun r H' => ∃ b, r = .bl b ∧ Q (.bl b) H') E
theorem op_inO {X : Cx} {CX : CXT} {C f : Addr} {fd : FuncData} {ps : List Str} {k : Nat} {sp : Sp} {E : XK} (F : FnOk X.prog X.w X.K X.mg X.base CX k f fd ps sp) (hr : Room k X.A) (hs : PySem.W.findIn X.K (.ref C) "__contains__" = some (some (.ref f)))
    (hf : PySem.W.isFn X.K (.ref f) = true) (hb : Binds X.K fd ps []) (hx : Passes CX X E) : OpR X (compareOp .In) (rInO C sp E) := by
  intro pins s σ H x y v u Q I rx ry ⟨a, dx, fs, ey, ea, q⟩
  subst ey
  obtain rfl : u = .ref a := ry
  obtain ⟨mA, O, _⟩ := ins_get I.hok ea
  obtain ⟨od, J, _⟩ := O.look
  have hcall := run_fn (us := [.ref a, v]) (vs := [.ref a, x]) F hr hb .nil hx I (.cons rfl (.cons rx .nil)) q
  show wpAny _ _ (contains (Value.ref a) v >>= fun b => pure (Value.bool b)) _ _ _
  refine wpAny_bind ?_
  unfold contains
  refine wpAny_holding (wpAny_bind (wpAny_bind (J.type.here ((PySem.W.looks_findIn I.kIn hs).here ?_))))
  rw [if_neg (by simp)]
  refine wpAny_bind (PySem.W.unlessNone_K I.kIn J hs hf (wpAny_mono hcall (fun r s' z => ?_) fun _ _ z => z))
  obtain ⟨z, H', I', rz, b, ez, q'⟩ := z
  subst ez
  cases rz
  exact wpAny_truthy_bool (wpAny_pure ⟨.bl b, H', I', rfl, q'⟩)
/-! ### a, b = a list or a tuple -/
def gSq (K : PySem.W.Frag) (n : Nat) (t : TGs) : TG := fun v σ H Q => ∃ a xs, v = .ref a ∧ (SqL K H a xs ∨ SqT K H a xs) ∧ xs.length = n ∧ t xs σ H Q
theorem pg_sq {X : Cx} {pos : Pos} {es : List Expr} {k : Nat} {t : TGs} {n : Nat} (hc : X.calm = true) (h : PGs X es t)
    (hn : (assignEach es X.env).length = n := by rfl) (hst : (assignEach es X.env).findIdx? (·.1) = none := by rfl) : PG X (.Tuple es k pos) (gSq X.K n t) := by
  refine ⟨fun pins s σ H v u Q I r hw => ?_⟩
  obtain ⟨a, xs, e1, hq, hl, hw⟩ := hw
  subst e1
  cases r
  rcases hq with hq | hq
  · obtain ⟨its, rv, p, hz⟩ := I.list hq
    rw [assign_Tuple]
    refine wpAny_bind (wpAny_standAt ?_)
    unfold unpack
    have en : (assignEach es X.env).length = its.toArray.size := by simp [hn, ← hl, rv.length]
    rw [en, hst]
    refine wpAny_bind (wpAny_holding (PySem.W.kun_itemsOf (I.ok.hd hc) p.isList fun h' hx => ?_))
    have I1 : Inv X pins σ H { s with heap := h' } := I.kept (t' := s.toks) fun b o e => hx b o (Nat.ne_of_lt (Heap.lt_size e)) e
    exact h.run pins _ σ H xs _ Q I1 (by simpa using rv) hw
  · exact (pg_tup hc h hn hst (pos := pos) (k := k)).run pins s σ H (.ref a) (.ref a) Q I rfl ⟨a, xs, rfl, hq, hl, hw⟩
section
variable {P : Program} {w : World} {K : PySem.W.Frag} {mg : Str → Option Value} {base : Heap}
/-- what `placed in pair` is worth: placed a list or a tuple of two -/
def sp_Pair_contains (K : PySem.W.Frag) : Sp := fun vs H Q E => ∃ (x : Addr) (D : PairD) (vp : V) (dp d e : PyData), vs = [.ref x, vp] ∧ PairAt K H x D ∧ PairOk D ∧ Rp H vp dp ∧ itemsD dp = some [d, e] ∧ smallT d ∧
  (∀ k, wrongL D.al.cps.toList d = some k → errAt (He.ga K "BadRow") "at" (.int k) H E) ∧
  (∀ z, d = .str z → wrongL D.al.cps.toList d = none →
    (belowD z.length e = false → ∀ ve, Rp H ve e → errAt (He.ga K "BadPlace") "thing" ve H E) ∧
    (∀ n : Nat, e = .int n → n < z.length → ∀ H', Same H H' → Q (.bl ((marksP D z.cps.toList).getD n false)) H'))
theorem below_nat {m : Nat} {e : PyData} (h : belowD m e = true) : ∃ n : Nat, e = .int n ∧ n < m := by
  cases e with
  | int i =>
    have hb : (decide (0 ≤ i) && decide (i < (m : Int))) = true := h
    rw [Bool.and_eq_true, decide_eq_true_eq, decide_eq_true_eq] at hb
    exact ⟨i.toNat, by rw [Int.toNat_of_nonneg hb.1], by omega⟩
  | _ => exact Bool.noConfusion h
theorem marksP_length (D : PairD) (cs : List Nat) : (marksP D cs).length = cs.length := by
  unfold marksP
  rw [List.length_map, List.length_zip, List.length_zip, aheadT_length, behindT_length]
  omega
theorem ok_Pair_contains (T : Txt K mg) {f : Addr} {fd : FuncData} (F : FnP K "__contains__" "Pair.__contains__" s_Pair___contains__ f fd) :
    FnOk P w K mg base (L2N.CX P w) 4 f fd ["self", "placed"] (sp_Pair_contains K) := by
  refine F.ok sc_Pair___contains__ (fun vs H Q E h => ?_) (fun cdv A outer s H vs Q E hr h => ?_)
  · obtain ⟨x, D, vp, dp, d, e, rfl, _⟩ := h; rfl
  · refine ⟨_, (pss_cons (ps_asg (pv 1) (pg_sq rfl (pgs_cons (pg_name (i := 2) sc_Pair___contains__.nd rfl (Or.inl rfl)) (pgs_cons (pg_name (i := 3) sc_Pair___contains__.nd rfl (Or.inl rfl)) pgs_nil))))
      (pss_cons (ps_expr (pe_cal (E := E) (ok_check_row T) hr (L2N.passes_call (L2N.takes_of rfl rfl rfl rfl) (fun _ _ _ _ h => h)) (pa_cons (pe_fld (pv 0) rfl) (pa_cons (pv 2) pa_nil))))
      (pss_cons (ps_expr (pe_cal (E := E) (ok_check_place T) hr (L2N.passes_call (L2N.takes_of rfl rfl rfl rfl) (fun _ _ _ _ h => h)) (pa_cons (pv 2) (pa_cons (pv 3) pa_nil))))
      (pss_one (ps_ret (pe_ix ix_tup (pe_cal (ok_marks_in T) hr pass0 (pa_cons (pv 0) (pa_cons (pv 2) pa_nil))) (pv 3) (fun _ _ => rfl))))))), ?_⟩
    obtain ⟨x, D, vp, dp, d, e, rfl, PA, PO, rp, hi, sm, kE, kQ⟩ := h
    obtain ⟨a, xs, rfl, hxs, hsq⟩ := rp_seq rp hi
    obtain ⟨v0, v1, rfl, rd, re⟩ : ∃ v0 v1, xs = [v0, v1] ∧ Rp H v0 d ∧ Rp H v1 e := by
      cases hxs with
      | cons h0 h1 => cases h1 with
        | cons h1 h2 => cases h2; exact ⟨_, _, rfl, h0, h1⟩
    have PA' := PA
    obtain ⟨dx, vl, vr, vm, vk, h1, h2⟩ := PA'
    refine ⟨.ref a, rfl, a, [v0, v1], rfl, hsq.elim (fun h => .inl (SqL.of h)) (fun h => .inr (SqT.of h)), rfl, _, _, rfl, _, _, rfl, rfl, ?_⟩
    refine ⟨.ref x, rfl, x, _, dx, _, _, rfl, h1, cls_Pair T, noat_alphabet T, rfl, v0, rfl, D.al, v0, d, rfl, rd, sm, kE, fun hb H1 s1 => ?_⟩
    obtain ⟨z, rfl, hz, hz2⟩ := row_back hb
    obtain ⟨k1, k2⟩ := kQ z rfl hb
    cases rd
    refine ⟨.str z, rfl, v1, rfl, z, v1, e, rfl, re.same s1, Nat.le_trans hz (by decide), fun hbe H2 s2 d2 hd2 => k1 hbe v1 re H2 (s1.trans s2) d2 hd2, fun hbe => ?_⟩
    obtain ⟨n, rfl, hn⟩ := below_nat hbe
    have hr' := re.same s1
    cases re
    refine ⟨.ref x, rfl, .str z, rfl, x, D, z, rfl, PairAt.same s1 PA, PO, hz2, Nat.le_trans hz (by decide), fun H2 r s2 t2 => ⟨.int (n : Nat), rfl, ?_⟩⟩
    unfold encB at t2
    cases t2 with
    | @tup b ys _ hB hys =>
      have hl := hys.length
      rw [List.length_map, marksP_length] at hl
      have hzl : z.cps.toList.length = z.length := Array.length_toList
      have hny : n < ys.length := by rw [hl, hzl]; exact hn
      obtain ⟨dd, hdd, rdd⟩ := hys.get (i := n) (List.getElem?_eq_getElem hny)
      have hnm : n < (marksP D z.cps.toList).length := by rw [marksP_length, hzl]; exact hn
      rw [List.getElem?_map, List.getElem?_eq_getElem hnm] at hdd
      have edd := (Option.some.inj hdd).symm
      subst edd
      have eb : (marksP D z.cps.toList).getD n false = (marksP D z.cps.toList)[n] := by simp [List.getD_eq_getElem?_getD, hnm]
      have hq := k2 n rfl hn H2 (s1.trans s2)
      rw [eb] at hq
      generalize hy : ys[n] = y at rdd
      cases rdd
      exact ⟨b, ys, n, _, rfl, rfl, SqT.of hB, atI_nat (by rw [List.getElem?_eq_getElem hny, hy]), hq⟩
end
end Kx
set_option Elab.async false
set_option linter.all false
set_option maxRecDepth 100000
set_option maxHeartbeats 2000000
namespace Kx
open PySem PySem.Spec PyProof.Rows L2
/-! ### == of data without bools, lists, dicts: the data are the same -/
mutual
def pureD : PyData → Bool
  | .none => true
  | .int _ => true
  | .str z => PyData.strOk z
  | .tuple ds => pureL ds
  | _ => false
def pureL : List PyData → Bool
  | [] => true
  | d :: ds => pureD d && pureL ds
end
mutual
theorem eqv_pure : ∀ {d e : PyData}, pureD d = true → pureD e = true → (PyData.eqv d e = true ↔ d = e)
  | .none, .none, _, _ => by simp [PyData.eqv]
  | .none, .int _, _, _ => by simp [PyData.eqv]
  | .none, .str _, _, _ => by simp [PyData.eqv]
  | .none, .tuple _, _, _ => by simp [PyData.eqv]
  | .int i, .none, _, _ => by simp [PyData.eqv]
  | .int i, .int j, _, _ => by simp [PyData.eqv]
  | .int i, .str _, _, _ => by simp [PyData.eqv]
  | .int i, .tuple _, _, _ => by simp [PyData.eqv]
  | .str i, .none, _, _ => by simp [PyData.eqv]
  | .str i, .int j, _, _ => by simp [PyData.eqv]
  | .str i, .str _, _, _ => by simp [PyData.eqv]
  | .str i, .tuple _, _, _ => by simp [PyData.eqv]
  | .tuple i, .none, _, _ => by simp [PyData.eqv]
  | .tuple i, .int j, _, _ => by simp [PyData.eqv]
  | .tuple i, .str _, _, _ => by simp [PyData.eqv]
  | .tuple i, .tuple j, hd, he => by
    have h := eqvAll_pure (ds := i) (es := j) (by simpa [pureD] using hd) (by simpa [pureD] using he)
    simp only [PyData.eqv, PyData.tuple.injEq]
    exact h
  | .bool _, _, h, _ => by simp [pureD] at h
  | .list _, _, h, _ => by simp [pureD] at h
  | .dict _, _, h, _ => by simp [pureD] at h
  | .none, .bool _, _, h => by simp [pureD] at h
  | .none, .list _, _, h => by simp [pureD] at h
  | .none, .dict _, _, h => by simp [pureD] at h
  | .int _, .bool _, _, h => by simp [pureD] at h
  | .int _, .list _, _, h => by simp [pureD] at h
  | .int _, .dict _, _, h => by simp [pureD] at h
  | .str _, .bool _, _, h => by simp [pureD] at h
  | .str _, .list _, _, h => by simp [pureD] at h
  | .str _, .dict _, _, h => by simp [pureD] at h
  | .tuple _, .bool _, _, h => by simp [pureD] at h
  | .tuple _, .list _, _, h => by simp [pureD] at h
  | .tuple _, .dict _, _, h => by simp [pureD] at h
theorem eqvAll_pure : ∀ {ds es : List PyData}, pureL ds = true → pureL es = true → (PyData.eqvAll ds es = true ↔ ds = es)
  | [], [], _, _ => by simp [PyData.eqvAll]
  | [], _ :: _, _, _ => by simp [PyData.eqvAll]
  | _ :: _, [], _, _ => by simp [PyData.eqvAll]
  | d :: ds, e :: es, h, h' => by
    simp only [pureL, Bool.and_eq_true] at h h'
    simp only [PyData.eqvAll, Bool.and_eq_true, List.cons.injEq]
    rw [eqv_pure h.1 h'.1, eqvAll_pure h.2 h'.2]
end
mutual
theorem lay_pure : ∀ {d : PyData}, pureD d = true → d.canLay0 = true
  | .none, _ => by simp [PyData.canLay0]
  | .int _, _ => by simp [PyData.canLay0]
  | .str z, h => by simpa [PyData.canLay0, pureD] using h
  | .tuple ds, h => by
    have := layAll_pure (ds := ds) (by simpa [pureD] using h)
    simpa [PyData.canLay0] using this
  | .bool _, h => by simp [pureD] at h
  | .list _, h => by simp [pureD] at h
  | .dict _, h => by simp [pureD] at h
theorem layAll_pure : ∀ {ds : List PyData}, pureL ds = true → PyData.canLayAll0 ds = true
  | [], _ => by simp [PyData.canLayAll0]
  | d :: ds, h => by
    simp only [pureL, Bool.and_eq_true] at h
    simp only [PyData.canLayAll0, Bool.and_eq_true]
    exact ⟨lay_pure h.1, layAll_pure h.2⟩
end
theorem pureL_map {α : Type} {f : α → PyData} : ∀ {l : List α}, (∀ a ∈ l, pureD (f a) = true) → pureL (l.map f) = true
  | [], _ => rfl
  | a :: l, h => by
    simp only [List.map_cons, pureL, Bool.and_eq_true]
    exact ⟨h a (List.mem_cons_self ..), pureL_map fun b hb => h b (List.mem_cons_of_mem _ hb)⟩
theorem depthAll_map {α : Type} {f : α → PyData} {n : Nat} : ∀ {l : List α}, (∀ a ∈ l, (f a).depth ≤ n) → PyData.depthAll (l.map f) ≤ n
  | [], _ => by simp [PyData.depthAll]
  | a :: l, h => by
    have h1 := h a (List.mem_cons_self ..)
    have h2 := depthAll_map (l := l) fun b hb => h b (List.mem_cons_of_mem _ hb)
    simp only [List.map_cons, PyData.depthAll]
    omega
theorem pure_encM (m : List Nat) : pureD (encM m) = true := by
  unfold encM
  simp only [pureD]
  exact pureL_map fun a _ => by simp [pureD]
theorem pure_encR (t : Tab) : pureD (encR t) = true := by
  unfold encR
  simp only [pureD]
  exact pureL_map fun a _ => pure_encM a
theorem depth_encR (t : Tab) : (encR t).depth ≤ 2 := by
  unfold encR
  simp only [PyData.depth]
  have := depthAll_map (l := t) (f := encM) (n := 1) fun m _ => by
    unfold encM
    simp only [PyData.depth]
    have := depthAll_map (l := m) (f := fun k : Nat => PyData.int (k : Nat)) (n := 0) fun a _ => by simp [PyData.depth]
    omega
  omega
theorem strOk1 {c : Nat} (h : c < 0x110000) : PyData.strOk ⟨#[c]⟩ = true := by
  unfold PyData.strOk
  simp only [List.size_toArray, List.length_cons, List.length_nil, Array.all_toList] <;> simp <;> exact h
theorem pure_encT {trs : List Tri} (h : ∀ t ∈ trs, t.2.1 < 0x110000) : pureD (encT trs) = true := by
  unfold encT
  simp only [pureD]
  exact pureL_map fun t ht => by
    unfold encTri
    simp only [pureD, pureL, Bool.and_eq_true, and_true, true_and]
    exact strOk1 (h t ht)
theorem depth_encT (trs : List Tri) : (encT trs).depth ≤ 2 := by
  unfold encT
  simp only [PyData.depth]
  have := depthAll_map (l := trs) (f := encTri) (n := 1) fun t _ => by
    unfold encTri
    simp [PyData.depth, PyData.depthAll]
  omega
theorem shaped_of {d : PyData} (h : pureD d = true) (hd : d.depth ≤ 60) : SeqAt.shaped d = true := by
  unfold SeqAt.shaped
  rw [lay_pure h, decide_eq_true (Nat.le_trans hd (by decide))]
  rfl
end Kx
set_option Elab.async false
set_option linter.all false
set_option maxRecDepth 100000
set_option maxHeartbeats 2000000
namespace Kx
open PySem PySem.Spec PyProof.Rows L2
/-! ### pairs: isinstance, ==, != -/
theorem ex_rest {K mg} (T : Txt K mg) : kitsB K = true ∧ (∀ x ∈ toldl, clsfB K (He.ga K x) = true) ∧ objB K = true ∧ pairB K (He.ga K "Pair") = true ∧ dOf.ok K = true ∧ fldsB K = true := by
  have h := (Bool.and_eq_true_iff.mp T.ex).2
  simp only [Bool.and_eq_true] at h
  exact ⟨h.1, fun x hx => List.all_eq_true.mp h.2.1 x hx, h.2.2.1, h.2.2.2.1, h.2.2.2.2.1, h.2.2.2.2.2⟩
structure PairF (K : PySem.W.Frag) (C : Addr) : Prop where
  cls : PySem.W.findIn K (.ref C) "__class__" = some (some (.builtin "object.__class__"))
  mro : PySem.W.mroIn K C (.type "object") = some true
  tup : PySem.W.kitOne K (.type "tuple") (.ref C) = some false
  str : PySem.W.kitOne K (.type "str") (.ref C) = some false
  ne : PySem.W.findIn K (.ref C) "__ne__" = some (some (.builtin "object.__ne__"))
  sub : PySem.W.subIn K (.ref C) (.type "object") = some true
  nft : PySem.W.notFirst K C (.type "tuple") = true
  nfs : PySem.W.notFirst K C (.type "str") = true
  wr : He5.wrapB K C "classmethod" "classmethod.__get__" "of_letters" = true
  fi : PySem.W.fnIn K (He5.wf K C "classmethod" "of_letters") = true
  rd : PySem.W.readsIn K C (.type "type") = true
  ga : PySem.W.specialIn K (.ref C) "__getattribute__" = some (some (.builtin "type.__getattribute__"))
  cfi : PySem.W.fnIn K (He.ma K C "__call__") = true
  cfn : PySem.W.isFn K (.ref (He.ma K C "__call__")) = true
theorem pairF {K mg} (T : Txt K mg) : PairF K (He.ga K "Pair") := by
  have h := (ex_rest T).2.2.2.1
  unfold pairB clsfB at h
  simp only [Bool.and_eq_true, decide_eq_true_eq] at h
  obtain ⟨⟨h1, h2⟩, h3, h4, h5, h6, h7, h8, h9, h10, h11, h12, h13, h14⟩ := h
  exact ⟨h1, h2, h3, h4, h5, h6, h7, h8, h9, h10, h11, h12, h13, h14⟩
theorem objF {K mg} (T : Txt K mg) : PySem.W.specialIn K (.builtin "object.__class__") "__get__" = some (some (.builtin "getset_descriptor.__get__")) ∧ PySem.W.takesIn K (.builtin "object.__class__") = some true := by
  have h := (ex_rest T).2.2.1
  unfold objB at h
  simp only [Bool.and_eq_true, decide_eq_true_eq] at h
  exact h
/-- a pair's kind -/
theorem ty_pair {K mg} (T : Txt K mg) {H : Hp} {x : Addr} {D : PairD} (h : PairAt K H x D) : TyX K H (.ref x) (.ref (He.ga K "Pair")) := by
  obtain ⟨dx, vl, vr, vm, vk, h1, h2⟩ := h
  exact .base (.ins h1 (cls_Pair T) (pairF T).cls (objF T).1 (objF T).2 (pairF T).mro)
def eqP (D D' : PairD) : Bool := decide (V.str D.al = V.str D'.al) && (PyData.eqv (encR D.l) (encR D'.l) && (PyData.eqv (encR D.r) (encR D'.r) && PyData.eqv (encT D.m) (encT D'.m)))
section
variable {P : Program} {w : World} {K : PySem.W.Frag} {mg : Str → Option Value} {base : Heap}
def sp_Pair_eq (K : PySem.W.Frag) : Sp := fun vs H Q _ => ∃ (x : Addr) (v : V) (D : PairD), vs = [.ref x, v] ∧ PairAt K H x D ∧ PairOk D ∧
  ((∃ y D', v = .ref y ∧ PairAt K H y D' ∧ PairOk D' ∧ Q (.bl (eqP D D')) H) ∨ (∃ a : Kd, (a = .str ∨ a = .tup) ∧ Ko K H v a ∧ Q (.bl false) H))
theorem PairOk.sm {D : PairD} (h : PairOk D) : SeqAt.shaped (encT D.m) = true := shaped_of (pure_encT fun t ht => h.abc _ (h.m t ht).2.1) (Nat.le_trans (depth_encT _) (by decide))
theorem shaped_encR (t : Tab) : SeqAt.shaped (encR t) = true := shaped_of (pure_encR t) (Nat.le_trans (depth_encR t) (by decide))
theorem ok_Pair_eq (T : Txt K mg) {f : Addr} {fd : FuncData} (F : FnP K "__eq__" "Pair.__eq__" s_Pair___eq__ f fd) :
    FnOk P w K mg base CX0 1 f fd ["self", "other"] (sp_Pair_eq K) := by
  refine F.ok sc_Pair___eq__ (fun vs H Q E h => ?_) (fun cdv A outer s H vs Q E hr h => ?_)
  · obtain ⟨x, v, D, rfl, _⟩ := h; rfl
  · refine ⟨_, PSs.nox (pss_one (ps_ret (pe_and (pe_callB call_isi (by rfl) (fr_isinstance T) b_isinstance (pa_cons (pv 1) (pa_cons (pe_glob (v := .ref (He.ga K "Pair")) (by rfl) (g_Pair T) rfl) pa_nil)))
      (pe_and (pe_cmpR op_eq (pe_fld (pv 0) rfl) (pe_fld (pv 1) rfl) (nomark _)) (pe_and (pe_cmpR (op_eqD (hu64 hr)) (pe_fld (pv 0) rfl) (pe_fld (pv 1) rfl) (nomark _)) (pe_and (pe_cmpR (op_eqD (hu64 hr)) (pe_fld (pv 0) rfl) (pe_fld (pv 1) rfl) (nomark _))
      (pe_one (pe_cmpR (op_eqD (hu64 hr)) (pe_fld (pv 0) rfl) (pe_fld (pv 1) rfl) (nomark _))))))))), ?_⟩
    obtain ⟨x, v, D, rfl, PA, PO, h⟩ := h
    have C := cls_Pair T
    rcases h with ⟨y, D', rfl, PA', PO', q⟩ | ⟨a, ha, ko, q⟩
    · have hty := ty_pair T PA'
      obtain ⟨dx, vl, vr, vm, vk, h1, h2, h3, h4, h5, h6⟩ := PA
      obtain ⟨dy, wl, wr, wm, wk, i1, i2, i3, i4, i5, i6⟩ := PA'
      refine ⟨.ref y, rfl, .ref y, .ref (He.ga K "Pair"), .ref (He.ga K "Pair"), .ref (He.ga K "Pair"), true, rfl, .own _, hty, ?_, _, rfl, iteT ?_⟩
      · unfold PySem.W.kitOne
        rw [if_pos (by simp)]
      unfold eqP at q
      refine ⟨.ref x, rfl, x, _, dx, _, _, rfl, h1, C, noat_alphabet T, rfl, .ref y, rfl, y, _, dy, _, _, rfl, i1, C, noat_alphabet T, rfl, rfl, _, rfl, ?_⟩
      cases e1 : decide (V.str D.al = V.str D'.al) with
      | false => rw [e1] at q; exact iteF q
      | true =>
        rw [e1, Bool.true_and] at q
        refine iteT ⟨.ref x, rfl, x, _, dx, _, _, rfl, h1, C, noat_left T, rfl, .ref y, rfl, y, _, dy, _, _, rfl, i1, C, noat_left T, rfl, encR D.l, encR D'.l, h3.dp, i3.dp, shaped_encR _, shaped_encR _, _, rfl, ?_⟩
        cases e2 : PyData.eqv (encR D.l) (encR D'.l) with
        | false => rw [e2] at q; exact iteF q
        | true =>
          rw [e2, Bool.true_and] at q
          refine iteT ⟨.ref x, rfl, x, _, dx, _, _, rfl, h1, C, noat_right T, rfl, .ref y, rfl, y, _, dy, _, _, rfl, i1, C, noat_right T, rfl, encR D.r, encR D'.r, h4.dp, i4.dp, shaped_encR _, shaped_encR _, _, rfl, ?_⟩
          cases e3 : PyData.eqv (encR D.r) (encR D'.r) with
          | false => rw [e3] at q; exact iteF q
          | true =>
            rw [e3, Bool.true_and] at q
            exact iteT ⟨.ref x, rfl, x, _, dx, _, _, rfl, h1, C, noat_marked T, rfl, .ref y, rfl, y, _, dy, _, _, rfl, i1, C, noat_marked T, rfl, encT D.m, encT D'.m, h5.dp, i5.dp, PO.sm, PO'.sm, q⟩
    · refine ⟨v, rfl, v, .ref (He.ga K "Pair"), _, .ref (He.ga K "Pair"), false, rfl, .own _, ko, ?_, _, rfl, iteF q⟩
      rcases ha with rfl | rfl
      · exact (pairF T).str
      · exact (pairF T).tup
end
end Kx
set_option Elab.async false
set_option linter.all false
set_option maxRecDepth 100000
set_option maxHeartbeats 2000000
namespace Kx
open PySem PySem.Spec PyProof.Rows L2 PySem.Calls Builtin
section
variable {prog : Program} {w : World} {A : Around} {E : Value → Shared → Prop} {s : Shared} {K : PySem.W.Frag} {x C L f : Addr} {h₀ : Heap} {m : Str → Option Value} {ox : Obj} {od : Option Obj} {b tb : Value}
open PySem.W in
theorem ne_body {Q : Fin → Shared → Prop} (hu : A.units < cLine) (X : K.In s.heap) (I : InstAt s.heap x ox C od) (hq : findIn K (.ref C) "__eq__" = some (some (.ref f))) (hf : isFn K (.ref f) = true)
    (h : wpAny (model prog w) A (call (.ref f) [.ref x, b]) (fun v s' => ∃ k, v = .bool k ∧ Q (.done (.ret (.bool (!k)))) s') E s) : wpAny (model prog w) A (Builtin.«object.__ne__» ⟨[.ref x, b], []⟩) Q E s := by
  unfold Builtin.«object.__ne__»
  refine wpAny_bind (wpAny_of_eq (a := ((Value.ref x : Value), [b])) (by first | rfl | (simp only [slotArgs]; rfl)) ?_)
  dsimp only
  refine wpAny_bind (wpAny_cRoomFor hu ?_)
  refine wpAny_bind (ifBound_K X I hq hf (wpAny_mono h (fun v s' hv => ?_) fun _ _ z => z))
  obtain ⟨k, rfl, q⟩ := hv
  dsimp only
  refine wpAny_bind (wpAny_truthy_bool ?_)
  exact wpAny_pure q
open PySem.W in
theorem ne_K {Q : Value → Shared → Prop} (hu : A.units + 1 < cLine) (X : K.In s.heap) (I : InstAt s.heap x ox C od) (hb : Looks (model prog w) s.heap (typeOf b) tb) (hn : notFirst K C tb = true)
    (hs : findIn K (.ref C) "__ne__" = some (some (.builtin "object.__ne__"))) (hsub : subIn K (.ref C) (.type "object") = some true) (hq : findIn K (.ref C) "__eq__" = some (some (.ref f))) (hf : isFn K (.ref f) = true)
    (h : wpAny (model prog w) A.in1 (call (.ref f) [.ref x, b]) (fun v s' => ∃ k, v = .bool k ∧ Q (.bool (!k)) s') E s) : wpAny (model prog w) A (richCompare .NotEq (.ref x) b) Q E s := by
  have one : wpAny (model prog w) A (tryCompare (.ref x) "__ne__" b) (fun r s' => ∃ v, r = some v ∧ Q v s') E s := by
    unfold tryCompare
    refine wpAny_bind ?_
    simp only [callSpecialIfBound?, bindSpecialIfBound?]
    refine wpAny_holding (wpAny_bind (wpAny_bind (wpAny_bind (I.type.here ((looks_findIn X hs).here ?_)))))
    refine wpAny_bind (wpAny_askSetting (wpAny_ite ?_))
    have sub : Looks (model prog w) s.heap (isInstance (.ref x) (.type "object")) true := (I.type (M := model prog w)).andThen (looks_subIn X hsub)
    have fin : wpAny (model prog w) A (call (.builtin "object.__ne__") ([.ref x] ++ [b]) >>= fun v => pure (some v)) (fun r s' => wpAny (model prog w) A (match r with | some .notImplemented | none => pure none | some v => pure (some v)) (fun r s' => ∃ v, r = some v ∧ Q v s') E s') E s := by
      refine wpAny_bind (wpAny_call (codeAny_call_builtin PySem.F.cmp_object.ne.plain PySem.F.cmpEntry_ne (check_slot PySem.F.cmpKind_ne PySem.F.cmpSplit_ne sub (PySem.F.cmpArgs_ne _ _) (ne_body (A := A.in1) hu X I hq hf (wpAny_mono h (fun v s' hv => ?_) fun _ _ z => z)))))
      obtain ⟨k, rfl, q⟩ := hv
      exact ⟨k, rfl, wpAny_pure (wpAny_pure ⟨_, rfl, q⟩)⟩
    rw [PySem.F.cmp_object.ne.bind (.ref x)]
    split
    · exact wpAny_bind (wpAny_pure (wpAny_pure (by exact fin)))
    · exact wpAny_tryCatch (wpAny_bind (wpAny_pure (wpAny_pure (by exact fin))))
  unfold richCompare
  simp only [oneThing_ref]
  refine wpAny_holding (wpAny_bind (wpAny_cRoomFor (Nat.lt_of_succ_lt hu) ?_))
  refine wpAny_bind (I.type.here (wpAny_bind (hb.here ?_)))
  split
  · rename_i q
    have e : subIn K tb (.ref C) = some false := by
      rcases Bool.or_eq_true_iff.mp hn with e | e
      · rw [beq_iff_eq.mp e] at q; simp at q
      · exact beq_iff_eq.mp e
    refine wpAny_bind ((looks_subIn X e).here ?_)
    simp only [Bool.false_eq_true, if_false]
    refine wpAny_bind (wpAny_mono one (fun r s' z => ?_) fun _ _ e => e)
    obtain ⟨v, rfl, hq⟩ := z
    exact wpAny_pure hq
  · refine wpAny_bind (wpAny_pure ?_)
    simp only [Bool.false_eq_true, if_false]
    refine wpAny_bind (wpAny_mono one (fun r s' z => ?_) fun _ _ e => e)
    obtain ⟨v, rfl, hq⟩ := z
    exact wpAny_pure hq
end
/-! ### the rules -/
/-- what stands on the right of a pair's == and !=: its kind -/
def RightOf (K : PySem.W.Frag) (C : Addr) (H : Hp) (y : V) : Prop := ∃ t, TyX K H y t ∧ PySem.W.notFirst K C t = true
def rEqO (K : PySem.W.Frag) (C : Addr) (sp : Sp) (E : XK) (ng : Bool) : R2 := fun x y H Q => ∃ a dx fs, x = .ref a ∧ H a = some (.ins C dx fs) ∧ RightOf K C H y ∧ sp [x, y] H (fun r H' => ∃ b, r = .bl b ∧ Q (.bl (if ng then !b else b)) H') E
section
variable {X : Cx} {CX : CXT} {C f : Addr} {fd : FuncData} {ps : List Str} {k : Nat} {sp : Sp} {E : XK}
theorem op_eqO (F : FnOk X.prog X.w X.K X.mg X.base CX k f fd ps sp) (hr : Room k X.A) (hs : PySem.W.findIn X.K (.ref C) "__eq__" = some (some (.ref f)))
    (hf : PySem.W.isFn X.K (.ref f) = true) (hb : Binds X.K fd ps []) (hx : Passes CX X E) : OpR X (compareOp .Eq) (rEqO X.K C sp E false) := by
  intro pins s σ H x y v u Q I rx ry ⟨a, dx, fs, ex, ea, ⟨t, ty, hn⟩, q⟩
  subst ex
  obtain rfl : v = .ref a := rx
  obtain ⟨mA, O, _⟩ := ins_get I.hok ea
  obtain ⟨od, J, _⟩ := O.look
  obtain ⟨Pz, Z, p, _⟩ := kit_of I ry ty
  obtain ⟨m, hF⟩ := I.fr
  have hcall := run_fn (us := [.ref a, u]) (vs := [.ref a, y]) F hr hb .nil hx I (.cons rfl (.cons ry .nil)) q
  show wpAny (model X.prog X.w) X.A (richCompare .Eq (.ref a) u) (EP X pins σ Q) X.xe s
  refine PySem.W.cmp_K (op := .Eq) (tb := t) hr.units0 hF I.ok.mod.kin J (Z.ty _ _ I.kIn p) hn hs hf (wpAny_mono hcall (fun r s' z => ?_) fun _ _ z => z)
  obtain ⟨z, H', I', rz, b, ez, q'⟩ := z
  subst ez
  cases rz
  exact ⟨.bl b, H', I', rfl, q'⟩
theorem op_neO (F : FnOk X.prog X.w X.K X.mg X.base CX k f fd ps sp) (hr : Room (k + 1) X.A) (hs : PySem.W.findIn X.K (.ref C) "__eq__" = some (some (.ref f))) (hne : PySem.W.findIn X.K (.ref C) "__ne__" = some (some (.builtin "object.__ne__")))
    (hsub : PySem.W.subIn X.K (.ref C) (.type "object") = some true) (hf : PySem.W.isFn X.K (.ref f) = true) (hb : Binds X.K fd ps []) (hx : Passes CX X E) : OpR X (compareOp .NotEq) (rEqO X.K C sp E true) := by
  intro pins s σ H x y v u Q I rx ry ⟨a, dx, fs, ex, ea, ⟨t, ty, hn⟩, q⟩
  subst ex
  obtain rfl : v = .ref a := rx
  obtain ⟨mA, O, _⟩ := ins_get I.hok ea
  obtain ⟨od, J, _⟩ := O.look
  obtain ⟨Pz, Z, p, _⟩ := kit_of I ry ty
  have e0 : Env0 X.prog X.w X.K X.mg X.base X.A.in1 X.stack s H := by
    have e := I.env0
    exact ⟨e.frames, e.mod, e.bs, e.bsz, e.funs, e.frf, e.hok, e.bare⟩
  have hl := F.len _ _ _ _ q
  show wpAny (model X.prog X.w) X.A (richCompare .NotEq (.ref a) u) (EP X pins σ Q) X.xe s
  refine ne_K (tb := t) (by have := hr.un; omega) I.kIn J (Z.ty _ _ I.kIn p) hn hne hsub hs hf ?_
  refine wpAny_call (codeAny_mono (F.run X.A.in1 X.stack s H ⟨[.ref a, u], []⟩ [.ref a, u] [.ref a, y] _ E hr.in1 e0 (by
    have := hb s [.ref a, u] I.kIn (by simpa using hl)
    simpa using this) (.cons rfl (.cons ry .nil)) q) fun r s' hq => ?_)
  cases r with
  | error e => exact hx pins σ H s e s' I hq
  | ok fl =>
    cases fl with
    | ret w =>
      obtain ⟨z, H', I', rz, b, ez, q'⟩ := I.after hq
      subst ez
      cases rz
      exact ⟨b, rfl, .bl (!b), H', I', rfl, q'⟩
    | next => exact False.elim hq
    | brk => exact False.elim hq
    | cont => exact False.elim hq
end
end Kx
set_option Elab.async false
set_option linter.all false
set_option maxRecDepth 100000
set_option maxHeartbeats 2000000
namespace Kx
open PySem PySem.Spec PyProof.Rows L2
section
variable {P : Program} {w : World} {K : PySem.W.Frag} {mg : Str → Option Value} {base : Heap}
/-! ### _law_is_number -/
def numV (lo hi : Int) : V → Bool
  | .int i => decide (lo ≤ i) && decide (i ≤ hi)
  | _ => false
def numD (lo hi : Int) : PyData → Bool
  | .int i => decide (lo ≤ i) && decide (i ≤ hi)
  | _ => false
theorem rp_num {H : Hp} {v : V} {d : PyData} (h : Rp H v d) (lo hi : Int) : numV lo hi v = numD lo hi d := by cases h <;> rfl
theorem num_below (m : Int) (d : PyData) : numD 0 (m - 1) d = belowD m d := by
  cases d <;> first | rfl | skip
  rename_i i
  show (decide ((0 : Int) ≤ i) && decide (i ≤ m - 1)) = (decide (0 ≤ i) && decide (i < m))
  congr 1
  rw [decide_eq_decide]
  omega
def sp_law_is_number (K : PySem.W.Frag) : Sp := fun vs H Q _ => ∃ (v : V) (lo hi : Int) (a : Kd), vs = [v, .int lo, .int hi] ∧ Ko K H v a ∧ Q (.bl (numV lo hi v)) H
theorem ok_law_is_number (T : Txt K mg) : Cal P w K mg base CX0 1 "_law_is_number" ["_law_thing", "_law_low", "_law_high"] (sp_law_is_number K) := by
  obtain ⟨fd, F⟩ := F__law_is_number T
  refine cal_mk F (g__law_is_number T) sc__law_is_number (fun _ _ _ _ _ _ us hl => match us, hl with | [_, _, _], _ => rfl) (fun vs H Q E h => ?_) (fun cdv A outer s H vs Q E hr h => ?_)
  · obtain ⟨v, lo, hi, a, rfl, _⟩ := h; rfl
  · refine ⟨_, PSs.nox (pss_one (ps_ret (pe_and (pe_callB call_isB (by rfl) (fr_isinstance T) b_isinstance (pa_cons (pv 0) (pa_cons (pe_ty (fr_int T) b_int) pa_nil)))
      (pe_and (pe_not (pe_callB call_isB (by rfl) (fr_isinstance T) b_isinstance (pa_cons (pv 0) (pa_cons (pe_ty (fr_bool T) b_bool) pa_nil))))
      (pe_one (pe_chain op_le op_le (pv 1) (pv 0) (pv 2))))))), ?_⟩
    obtain ⟨v, lo, hi, a, rfl, ko, q⟩ := h
    refine ⟨v, rfl, v, "int", a, rfl, ko, k_int a, _, rfl, ?_⟩
    cases hb : a.is "int" with
    | false =>
      refine iteF ?_
      have : numV lo hi v = false := by
        cases v <;> first | rfl | (have := ko_notint ko; subst this; exact Bool.noConfusion hb)
      rw [this] at q; exact q
    | true =>
      refine iteT ⟨v, rfl, v, "bool", a, rfl, ko, k_bool a, _, rfl, _, rfl, ?_⟩
      cases hb2 : a.is "bool" with
      | true =>
        refine iteF ?_
        have ha : a = .bl := by cases a <;> first | rfl | (exact Bool.noConfusion hb2)
        subst ha
        have : numV lo hi v = false := by
          cases v <;> first | rfl | (have := ko_notint ko; cases this)
        rw [this] at q; exact q
      | false =>
        refine iteT ?_
        have ha : a = .int := by cases a <;> first | rfl | (exact Bool.noConfusion hb) | (exact Bool.noConfusion hb2)
        subst ha
        obtain ⟨i, rfl⟩ := ko_int ko
        refine ⟨.int lo, rfl, .int i, rfl, lo, i, rfl, rfl, _, rfl, ?_⟩
        have e : numV lo hi (.int i) = (decide (lo ≤ i) && decide (i ≤ hi)) := rfl
        rw [e] at q
        cases hc : decide (lo ≤ i) with
        | false => rw [hc] at q; exact iteF q
        | true =>
          rw [hc] at q
          exact iteT ⟨.int hi, rfl, i, hi, rfl, rfl, q⟩
end
end Kx
set_option Elab.async false
set_option linter.all false
set_option maxRecDepth 100000
set_option maxHeartbeats 2000000
namespace Kx
open PySem PySem.Spec PyProof.Rows L2
theorem iSeq_of {K : PySem.W.Frag} {te : TE} {σ : L2.St} {H : Hp} {a : Addr} {xs : List V} {R : It → Hp → Prop} (ht : ∀ Q : VK, Q (.ref a) H → te σ H Q) (h : H a = some (.lst xs) ∨ H a = some (.tup xs))
    (r : ∀ (J : It) (G : Hp → Prop), (∀ H', Same H H' → G H') → Walk J xs.length G (YAt xs) → R J H) : iSeq K te σ H R := by
  refine ht _ ⟨a, xs, rfl, ?_⟩
  rcases h with h | h
  · exact .inl ⟨SqL.of h, fun J WJ => r J _ (fun H' s => SqL.of (s _ _ h)) WJ⟩
  · exact .inr ⟨SqT.of h, fun J WJ => r J _ (fun H' s => SqT.of (s _ _ h)) WJ⟩
def flatD : PyData → Bool
  | .none | .bool _ | .int _ | .str _ => true
  | _ => false
theorem rpL_flt {H : Hp} : ∀ {vs : List V} {ds : List PyData}, RpL H vs ds → ds.all flatD = true → RtL H vs ds
  | _, _, .nil, _ => .nil
  | _, _, .cons h hs, e => by
    rw [List.all_cons, Bool.and_eq_true] at e
    refine .cons ?_ (rpL_flt hs e.2)
    cases h with
    | non => exact .non
    | bl b => exact .bl b
    | int i => exact .int i
    | str z => exact .str z
    | _ => exact Bool.noConfusion e.1
/-- the things that stand one behind the other, each told -/
theorem rtL_of {H : Hp} : ∀ {vs : List V} {ds : List PyData}, vs.length = ds.length → (∀ (i : Nat) v d, vs[i]? = some v → ds[i]? = some d → Rt H v d) → RtL H vs ds
  | [], [], _, _ => .nil
  | v :: vs, d :: ds, h, k => .cons (k 0 v d rfl rfl) (rtL_of (by simpa using h) fun i x y hx hy => k (i + 1) x y (by simpa using hx) (by simpa using hy))
  | [], _ :: _, h, _ => by simp at h
  | _ :: _, [], h, _ => by simp at h
theorem rpL_of {H : Hp} : ∀ {vs : List V} {ds : List PyData}, vs.length = ds.length → (∀ (i : Nat) v d, vs[i]? = some v → ds[i]? = some d → Rp H v d) → RpL H vs ds
  | [], [], _, _ => .nil
  | v :: vs, d :: ds, h, k => .cons (k 0 v d rfl rfl) (rpL_of (by simpa using h) fun i x y hx hy => k (i + 1) x y (by simpa using hx) (by simpa using hy))
  | [], _ :: _, h, _ => by simp at h
  | _ :: _, [], h, _ => by simp at h
section
variable {P : Program} {w : World} {K : PySem.W.Frag} {mg : Str → Option Value} {base : Heap}
/-! ### _law_deep -/
/-- rows, each a list or a tuple of flat things -/
def deepD (d : PyData) : Prop := ∃ ds, itemsD d = some ds ∧ ds.length ≤ 100000 ∧ ∀ x ∈ ds, ∃ es, itemsD x = some es ∧ es.all flatD = true
def sp_law_deep : Sp := fun vs H Q _ => ∃ (v : V) (d : PyData), vs = [v] ∧ Rp H v d ∧ deepD d ∧ ∀ H' r, Same H H' → Rt H' r (keptD d) → Q r H'
theorem ok_law_deep (T : Txt K mg) : Cal P w K mg base CX0 1 "_law_deep" ["_law_rows"] sp_law_deep := by
  obtain ⟨fd, F⟩ := F__law_deep T
  refine cal_mk F (g__law_deep T) sc__law_deep (fun _ _ _ _ _ _ us hl => match us, hl with | [_], _ => rfl) (fun vs H Q E h => ?_) (fun cdv A outer s H vs Q E hr h => ?_)
  · obtain ⟨v, d, rfl, _⟩ := h; rfl
  · refine ⟨_, PSs.nox (pss_one (ps_ret (pe_callTy call_tuple_of (by rfl) (fr_tuple T) b_tuple (pa_cons (pe_lc (own := [("_law_row", 1)]) (g := gName 1) (tt := tYes) rfl sc__law_deep.nd (pi_seq (pv 0)) (blkOk_by (N := N__law_deep) (sc := defScope s__law_deep) (by decide +kernel))
        (fun _ _ _ _ _ => pg_name (i := 1) sc__law_deep.nd rfl (Or.inl rfl)) (fun _ _ _ _ _ => pts_nil) (fun _ _ _ _ _ => by refine pe_callTy (r := rTupO K) (t := tCons (tVar 1) tNil) ?_ (by rfl) (fr_tuple T) b_tuple (pa_cons (pv 1) pa_nil); exact call_tuple_of)) pa_nil)))), ?_⟩
    obtain ⟨v, d, rfl, rd, ⟨ds, hi, hsm, hfl⟩, q⟩ := h
    obtain ⟨a, xs, rfl, hxs, hsq⟩ := rp_seq rd hi
    have hl : xs.length = ds.length := hxs.length
    refine iSeq_of (fun Q q => ⟨_, rfl, q⟩) hsq fun J G hG WJ D hD => ?_
    refine lc_new WJ hD (Nat.le_trans (by rw [hl]; exact hsm) (by decide)) (fun (i : Nat) H' v => ∀ d, ds[i]? = some d → Rt H' v (tupOf d)) (fun i H1 H2 v s h d hd => (h d hd).tups s) hG
      (fun i x H1 H2 Qk hi' s1 hy hk => ?_) (fun H1 acc s1 hD1 hla hacc => ?_)
    · obtain ⟨rfl, hx⟩ := hy
      obtain ⟨dx, hdx, rx⟩ := hxs.get hx
      obtain ⟨es, hes, hfe⟩ := hfl dx (List.mem_of_getElem? hdx)
      obtain ⟨b, ys, rfl, hys, hsb⟩ := rp_seq (rx.same s1) hes
      refine ⟨rfl, _, rfl, tupled hsb fun H3 p s3 hp => hk _ _ s3 fun d hd => ?_⟩
      rw [hdx] at hd
      cases hd
      unfold tupOf
      rw [hes]
      exact .tup hp ((rpL_flt hys hfe).tups (Same.tups s3))
    · refine tupled (.inl hD1) fun H3 p s3 hp => q H3 (.ref p) (s1.trans s3) ?_
      unfold keptD
      rw [hi]
      refine .tup hp (rtL_of (by rw [hla, hl]; simp) fun i v d hv hd => ?_)
      rw [Option.getD_some, List.getElem?_map] at hd
      cases hde : ds[i]? with
      | none => rw [hde] at hd; cases hd
      | some y =>
        rw [hde] at hd
        cases hd
        exact (hacc i v hv y hde).tups (Same.tups s3)
end
end Kx
set_option Elab.async false
set_option linter.all false
set_option maxRecDepth 100000
set_option maxHeartbeats 2000000
namespace Kx
open PySem PySem.Spec PyProof.Rows L2
/-- isinstance(x, (list, tuple)), read -/
theorem isLT_r {K : PySem.W.Frag} {te : TE} {σ : L2.St} {H : Hp} {v : V} {a : Kd} {Q : VK} (ht : ∀ Q : VK, Q v H → te σ H Q) (ko : Ko K H v a) (q : ∀ H', Same H H' → Q (.bl (a == .lst || a == .tup)) H') :
    tCB (rIsT K) (tCons te (tCons (tTup (tCons (tC (.ty "list")) (tCons (tC (.ty "tuple")) tNil))) tNil)) σ H Q := by
  refine ht _ ⟨(by show 2 ≤ sizeLine; decide), fun t ht => ⟨v, t, ["list", "tuple"], a, rfl, upd_same, ?_, ?_, ?_⟩⟩
  · exact Ko.same (fun b o hb => by rw [upd_ne (ne_of_none hb ht)]; exact hb) ko
  · intro t ht
    rcases List.mem_cons.mp ht with rfl | ht
    · exact k_list a
    · rcases List.mem_cons.mp ht with rfl | ht
      · exact k_tuple a
      · cases ht
  · have e : (["list", "tuple"].any a.is) = (a == .lst || a == .tup) := by cases a <;> rfl
    rw [e]
    exact q _ fun b o hb => by rw [upd_ne (ne_of_none hb ht)]; exact hb
theorem tNext_r {D : Ends} {σ : L2.St} {H : Hp} (h : D.nx σ H) : tNext D σ H := h
theorem gName_r {i : Nat} {v : V} {σ : L2.St} {H : Hp} {Q : L2.St → Hp → Prop} (h : Q (σ.set i (some v)) H) : gName i v σ H Q := h
theorem ko_upd {K : PySem.W.Frag} {H : Hp} {t : Addr} {o : HO} {v : V} {a : Kd} (ht : H t = none) (ko : Ko K H v a) : Ko K (upd H t o) v a := Ko.same (fun b u hb => by rw [upd_ne (ne_of_none hb ht)]; exact hb) ko
theorem k_lt (a : Kd) : ∀ t ∈ ["list", "tuple"], kitB a.nm t = some (a.is t) := by
  intro t ht
  rcases List.mem_cons.mp ht with rfl | ht
  · exact k_list a
  · rcases List.mem_cons.mp ht with rfl | ht
    · exact k_tuple a
    · cases ht
theorem any_lt (a : Kd) : (["list", "tuple"].any a.is) = (a == .lst || a == .tup) := by cases a <;> rfl
theorem lenV_sq {K : PySem.W.Frag} {H : Hp} {a : Addr} {xs : List V} {n : Nat} (h : H a = some (.lst xs) ∨ H a = some (.tup xs)) (e : xs.length = n) : LenV K (.ref a) H n := by
  subst e
  exact lenV_seq h
/-- an item of a list or a tuple -/
theorem rIx_sq {K : PySem.W.Frag} {H : Hp} {a : Addr} {xs : List V} {i : Nat} {v : V} {Q : VK} (h : H a = some (.lst xs) ∨ H a = some (.tup xs)) (e : xs[i]? = some v) (q : Q v H) : rIx K (.ref a) (.int (i : Nat)) H Q := by
  rcases h with h | h
  · exact .inl ⟨a, xs, _, v, rfl, rfl, SqL.of h, atI_nat e, q⟩
  · exact .inr (.inl ⟨a, xs, _, v, rfl, rfl, SqT.of h, atI_nat e, q⟩)
theorem sq_same {H H' : Hp} {a : Addr} {xs : List V} (s : Same H H') (h : H a = some (.lst xs) ∨ H a = some (.tup xs)) : H' a = some (.lst xs) ∨ H' a = some (.tup xs) := h.elim (fun h => .inl (s _ _ h)) fun h => .inr (s _ _ h)
section
variable {P : Program} {w : World} {K : PySem.W.Frag} {mg : Str → Option Value} {base : Heap}
def sp_law_first_move : Sp := fun vs H Q _ => ∃ (v : V) (l : Nat) (d : PyData), vs = [v, .int (l : Nat)] ∧ Rp H v d ∧ smallR d ∧ ∀ H', Same H H' → Q (optV (readerDue l d)) H'
theorem ok_law_first_move (T : Txt K mg) : Cal P w K mg base CX0 2 "_law_first_move" ["_law_moves", "_law_many"] sp_law_first_move := by
  obtain ⟨fd, F⟩ := F__law_first_move T
  refine cal_mk F (g__law_first_move T) sc__law_first_move (fun _ _ _ _ _ _ us hl => match us, hl with | [_, _], _ => rfl) (fun vs H Q E h => ?_) (fun cdv A outer s H vs Q E hr h => ?_)
  · obtain ⟨v, l, d, rfl, _⟩ := h; rfl
  · refine ⟨_, PSs.nox (pss_cons (ps_if (PW.pt (pw_or (pt_not (pt_val (pe_callB call_isT (by rfl) (fr_isinstance T) b_isinstance (pa_cons (pv 0) (pa_cons (pe_tup (pa_cons (pe_ty (fr_list T) b_list) (pa_cons (pe_ty (fr_tuple T) b_tuple) pa_nil))) pa_nil)))))
          (pw_or1 (pt_not (pt_chain op_le op_le pe_int (pe_callB call_len (by rfl) (fr_len T) boot_len (pa_cons (pv 0) pa_nil)) pe_int)))))
        (pss_one (ps_ret (pe_un un_neg pe_int))) pss_nil)
      (pss_cons (ps_for PassesOwn.never rfl (pi_range1 (by rfl) (fr_range T) (pa_cons (pe_callB call_len (by rfl) (fr_len T) boot_len (pa_cons (pv 0) pa_nil)) pa_nil)) (pg_name (i := 2) sc__law_first_move.nd rfl (Or.inl rfl))
        (pss_cons (ps_set (i := 3) sc__law_first_move.nd rfl (Or.inl rfl) (pe_ix ix_seq (pv 0) (pv 2) (fun _ _ => rfl)))
        (pss_cons (ps_if (PW.pt (pw_or (pt_not (pt_val (pe_callB call_isT (by rfl) (fr_isinstance T) b_isinstance (pa_cons (pv 3) (pa_cons (pe_tup (pa_cons (pe_ty (fr_list T) b_list) (pa_cons (pe_ty (fr_tuple T) b_tuple) pa_nil))) pa_nil)))))
          (pw_or1 (pt_cmpR op_ne (pe_callB call_len (by rfl) (fr_len T) boot_len (pa_cons (pv 3) pa_nil)) (pv 1) (nomark _)))))
          (pss_one (ps_ret (pv 2))) pss_nil)
        (pss_one (ps_if (pt_not (pt_val (pe_callB (cr_all rfl) (by rfl) (fr_all T) b_all (pa_cons (pe_lc (own := [("_law_one", 4)]) (g := gName 4) (tt := tYes) rfl sc__law_first_move.nd (pi_seq (pv 3)) (blkOk_by (N := N__law_first_move) (sc := defScope s__law_first_move) (by decide +kernel))
            (fun _ _ _ _ _ => pg_name (i := 4) sc__law_first_move.nd rfl (Or.inl rfl)) (fun _ _ _ _ _ => pts_nil)
            (fun _ _ _ _ _ => by refine pe_cal (ok_law_is_number T) hr pass0 (pa_cons (pv 4) (pa_cons pe_int (pa_cons (te := tOp (rI0 fun i j => .int (i - j)) (tCB (rLen K) (tCons (tVar 0) tNil)) (tC (.int 1))) (pe_op op_sub ?_ pe_int) pa_nil))); exact pe_callB call_len (by rfl) (fr_len T) boot_len (pa_cons (pv 0) pa_nil))) pa_nil))))
          (pss_one (ps_ret (pv 2))) pss_nil)))))
      (pss_one (ps_ret pe_non)))), ?_⟩
    obtain ⟨v, l, d, rfl, rd, sm, q⟩ := h
    refine isLT_r (fun Q q => ⟨v, rfl, q⟩) rd.ko fun H1 s1 => ⟨_, rfl, ?_⟩
    have rd1 := rd.same s1
    cases hb : (kd d == Kd.lst || kd d == Kd.tup) with
    | false =>
      refine iteT (iteT ?_)
      have e : readerDue l d = some (-1) := by unfold readerDue; rw [itemsD_none hb]
      rw [e] at q
      exact ⟨1, rfl, q H1 s1⟩
    | true =>
      refine iteF ?_
      obtain ⟨ds, hds⟩ := itemsD_kd hb
      obtain ⟨a, xs, rfl, hxs, hsq⟩ := rp_seq rd1 hds
      have hl : xs.length = ds.length := hxs.length
      have hLen : LenV K (.ref a) H1 xs.length := lenV_seq hsq
      have bad : ¬ (1 ≤ ds.length ∧ ds.length ≤ 40) → readerDue l d = some (-1) := fun hn => by unfold readerDue; rw [hds]; exact if_neg hn
      have good : (1 ≤ ds.length ∧ ds.length ≤ 40) → readerDue l d = firstBad (moveD l ds.length) ds 0 := fun hn => by unfold readerDue; rw [hds]; exact if_pos hn
      refine ⟨_, rfl, _, _, rfl, hLen, 1, _, rfl, rfl, _, rfl, ?_⟩
      have no : ¬ (1 ≤ ds.length ∧ ds.length ≤ 40) → Q (V.int (-1)) H1 := fun hn => by have := q H1 s1; rw [bad hn] at this; exact this
      by_cases h1 : (1 : Int) ≤ (xs.length : Int)
      case neg =>
        rw [decide_eq_false h1]
        exact iteF ⟨_, rfl, iteT ⟨1, rfl, no (by omega)⟩⟩
      rw [decide_eq_true h1]
      refine iteT ⟨_, 40, rfl, rfl, _, rfl, ?_⟩
      by_cases h2 : (xs.length : Int) ≤ 40
      case neg =>
        rw [decide_eq_false h2]
        exact iteT ⟨1, rfl, no (by omega)⟩
      rw [decide_eq_true h2]
      refine iteF ?_
      have hg := good (by omega)
      rw [hg] at q
      have hxl : xs.length ≤ 40 := by omega
      refine ⟨.ref a, rfl, _, _, rfl, hLen, (xs.length : Int), rfl, by omega, by omega, ?_⟩
      refine for_it walk_range (fun i σ H2 => ∃ (v2 v3 v4 : Option V), σ = [some (.ref a), some (.int (l : Nat)), v2, v3, v4] ∧ Same H1 H2 ∧ ∀ (j : Nat) x, j < i → ds[j]? = some x → moveD l ds.length x = true)
        ⟨none, none, none, rfl, Same.refl _, fun j x hj => absurd hj (Nat.not_lt_zero _)⟩ (fun _ _ _ _ _ => trivial) ?_ ?_
      · rintro i x σ H2 H3 hi ⟨v2, v3, v4, rfl, s3, hall⟩ ⟨eH, ex0⟩
        replace eH := eH.symm
        subst eH
        replace ex0 : x = .int (i : Nat) := ex0.trans (congrArg V.int (Int.zero_add _))
        subst ex0
        have hi' : i < xs.length := by have := hi; simpa using this
        have hid : i < ds.length := by omega
        obtain ⟨dy, hdy, ry⟩ := hxs.get (i := i) (List.getElem?_eq_getElem hi')
        have hsq2 := sq_same s3 hsq
        have ex : xs[i]? = some xs[i] := List.getElem?_eq_getElem hi'
        have bad2 : moveD l ds.length dy = false → Q (V.int (i : Nat)) H2 ∧ ∀ H', Same H2 H' → Q (V.int (i : Nat)) H' := fun hm => by
          have e := firstBad_at (k := 0) hdy hall hm
          rw [e] at q
          have e0 : (0 : Int) + (i : Nat) = (i : Nat) := by omega
          refine ⟨?_, fun H' s' => ?_⟩
          · have := q H2 (s1.trans s3); rw [e0] at this; exact this
          · have := q H' (s1.trans (s3.trans s')); rw [e0] at this; exact this
        refine ⟨.ref a, rfl, .int (i : Nat), rfl, ?_⟩
        refine rIx_sq hsq2 ex ?_
        have ry2 := ry.same s3
        generalize xs[i] = y at ry2 ex
        refine ⟨y, rfl, (by show 2 ≤ sizeLine; decide), fun t ht => ⟨y, t, ["list", "tuple"], kd dy, rfl, upd_same, ko_upd ht ry2.ko, k_lt _, ?_⟩⟩
        rw [any_lt]
        refine ⟨_, rfl, ?_⟩
        have s4 := same_upd (o := .tup [V.ty "list", V.ty "tuple"]) ht
        have ry4 := ry2.same s4
        cases hb2 : (kd dy == Kd.lst || kd dy == Kd.tup) with
        | false =>
          have e : moveD l ds.length dy = false := by unfold moveD; rw [itemsD_none hb2]
          refine iteT (iteT ?_)
          exact ⟨.int (i : Nat), rfl, (bad2 e).2 _ s4⟩
        | true =>
          refine iteF ?_
          obtain ⟨es, hes⟩ := itemsD_kd hb2
          obtain ⟨b, ys, rfl, hys, hsb⟩ := rp_seq ry4 hes
          have hly : ys.length = es.length := hys.length
          have em : moveD l ds.length dy = (decide ((es.length : Int) = l) && es.all (belowD ds.length)) := by unfold moveD; rw [hes]
          have hsz : es.length ≤ 100000 := (sm ds hds).2 dy (List.mem_of_getElem? hdy) es hes
          refine ⟨.ref b, rfl, _, _, rfl, lenV_seq hsb, .int (l : Nat), rfl, rfl, _, rfl, ?_⟩
          by_cases hll : es.length = l
          case neg =>
            have e2 : (!decide (V.int (ys.length : Int) = V.int (l : Nat))) = true := by simp; omega
            have e3 : moveD l ds.length dy = false := by rw [em, decide_eq_false (by omega)]; rfl
            rw [e2]
            exact iteT ⟨.int (i : Nat), rfl, (bad2 e3).2 _ s4⟩
          have e2 : (!decide (V.int (ys.length : Int) = V.int (l : Nat))) = false := by simp; omega
          rw [e2]
          refine iteF ?_
          have em2 : moveD l ds.length dy = es.all (belowD ds.length) := by rw [em, decide_eq_true (by omega)]; rfl
          have hLen5 : ∀ H5, Same H2 H5 → LenV K (.ref a) H5 ds.length := fun H5 s5 => lenV_sq (sq_same s5 hsq2) hl
          refine ⟨.ref b, rfl, b, ys, rfl, ?_⟩
          have hsb' := hsb
          rcases hsb with h | h
          all_goals
            first | refine .inl ⟨SqL.of h, fun J WJ D hD => ?_⟩ | refine .inr ⟨SqT.of h, fun J WJ D hD => ?_⟩
            refine lc_new WJ hD (Nat.le_trans (by rw [hly]; exact hsz) (by decide)) (fun (k : Nat) _ v => ∀ d, es[k]? = some d → v = V.bl (belowD ds.length d)) (fun _ _ _ _ _ h => h) (fun H' s => by first | exact SqL.of (s _ _ h) | exact SqT.of (s _ _ h))
              (fun k x H5 H6 Qk hk s5 hy hkk => ?_) (fun H5 acc s5 hD5 hla hacc => ?_)
            · obtain ⟨rfl, hx⟩ := hy
              obtain ⟨d', hd', rx⟩ := hys.get hx
              have rx5 := rx.same s5
              refine ⟨rfl, x, rfl, .ref a, rfl, _, _, rfl, hLen5 _ (s4.trans s5), _, 1, rfl, rfl, x, 0, _, kd d', rfl, rx5.ko, hkk _ _ (Same.refl _) fun d e => ?_⟩
              rw [hd'] at e
              cases e
              rw [rp_num rx5, num_below]
            · have ea : acc = (es.map (belowD ds.length)).map V.bl := bls_of (by rw [hla, hly, List.length_map]) fun k v hv b hb => by
                rw [List.getElem?_map] at hb
                cases hde : es[k]? with
                | none => rw [hde] at hb; cases hb
                | some y => rw [hde] at hb; cases hb; exact hacc k v hv y hde
              refine ⟨D, es.map (belowD ds.length), rfl, SqL.of (by rw [hD5, ea]), ?_⟩
              have e3 : (es.map (belowD ds.length)).all id = es.all (belowD ds.length) := by rw [List.all_map]; rfl
              rw [e3, ← em2]
              refine ⟨_, rfl, ?_⟩
              cases hm : moveD l ds.length dy with
              | false => exact iteT ⟨.int (i : Nat), rfl, (bad2 hm).2 _ (s4.trans s5)⟩
              | true =>
                refine iteF ⟨_, _, _, rfl, s3.trans (s4.trans s5), fun j x hj hx => ?_⟩
                by_cases hji : j < i
                · exact hall j x hji hx
                · have : j = i := by omega
                  subst this
                  rw [hdy] at hx
                  cases hx
                  exact hm
      · rintro σ H2 ⟨v2, v3, v4, rfl, s3, hall⟩
        have hn : firstBad (moveD l ds.length) ds 0 = none := firstBad_none fun j x hx => hall j x (by have := (List.getElem?_eq_some_iff.mp hx).1; simp; omega) hx
        rw [hn] at q
        exact q H2 (s1.trans s3)
end
end Kx
set_option Elab.async false
set_option linter.all false
set_option maxRecDepth 100000
set_option maxHeartbeats 2000000
namespace Kx
open PySem PySem.Spec PyProof.Rows L2
theorem rIx_str {K : PySem.W.Frag} {H : Hp} {z : Str} {i c : Nat} {Q : VK} (hz : z.length ≤ 100000) (e : z.cps.toList[i]? = some c) (q : Q (.str ⟨#[c]⟩) H) : rIx K (.str z) (.int (i : Nat)) H Q :=
  .inr (.inr ⟨z, _, c, rfl, rfl, Nat.le_trans hz (by decide), atI_nat e, q⟩)
section
variable {P : Program} {w : World} {K : PySem.W.Frag} {mg : Str → Option Value} {base : Heap}
def sp_law_row_fault : Sp := fun vs H Q _ => ∃ (al : Str) (v : V) (d : PyData), vs = [.str al, v] ∧ Rp H v d ∧ smallT d ∧ Q (optV (wrongL al.cps.toList d)) H
theorem ok_law_row_fault (T : Txt K mg) : Cal P w K mg base CX0 1 "_law_row_fault" ["_law_alphabet_here", "_law_row"] sp_law_row_fault := by
  obtain ⟨fd, F⟩ := F__law_row_fault T
  refine cal_mk F (g__law_row_fault T) sc__law_row_fault (fun _ _ _ _ _ _ us hl => match us, hl with | [_, _], _ => rfl) (fun vs H Q E h => ?_) (fun cdv A outer s H vs Q E hr h => ?_)
  · obtain ⟨al, v, d, rfl, _⟩ := h; rfl
  · refine ⟨_, PSs.nox (pss_cons (ps_if (PW.pt (pw_or (pt_not (pt_val (pe_callB call_isB (by rfl) (fr_isinstance T) b_isinstance (pa_cons (pv 1) (pa_cons (pe_ty (fr_str T) b_str) pa_nil)))))
        (pw_or1 (pt_cmpR op_gt (pe_callB call_len (by rfl) (fr_len T) boot_len (pa_cons (pv 1) pa_nil)) pe_int (nomark _))))) (pss_one (ps_ret (pe_un un_neg pe_int))) pss_nil)
      (pss_cons (ps_for PassesOwn.never rfl (pi_range1 (by rfl) (fr_range T) (pa_cons (pe_callB call_len (by rfl) (fr_len T) boot_len (pa_cons (pv 1) pa_nil)) pa_nil)) (pg_name (i := 2) sc__law_row_fault.nd rfl (Or.inl rfl))
        (pss_one (ps_if (pt_cmpR op_notIn_sign (pe_ix ix_seq (pv 1) (pv 2) (fun _ _ => rfl)) (pv 0) rfl) (pss_one (ps_ret (pv 2))) pss_nil)))
      (pss_one (ps_ret pe_non)))), ?_⟩
    obtain ⟨al, v, d, rfl, rd, sm, q⟩ := h
    refine ⟨v, rfl, v, "str", kd d, rfl, rd.ko, k_str _, _, rfl, ?_⟩
    cases hb : (kd d).is "str" with
    | false =>
      refine iteT (iteT ?_)
      rw [kd_nstr3 hb] at q
      exact ⟨1, rfl, q⟩
    | true =>
      refine iteF ?_
      obtain ⟨z, rfl⟩ := kd_str hb
      cases rd
      have hz : z.cps.toList.length = z.length := Array.length_toList
      have hz1 := sm z rfl
      refine ⟨.str z, rfl, _, _, rfl, lenV_str hz1, _, 200, rfl, rfl, _, rfl, ?_⟩
      by_cases h1 : (z.length : Int) > 200
      · rw [decide_eq_true h1]
        refine iteT ⟨1, rfl, ?_⟩
        have e : wrongL al.cps.toList (.str z) = some (-1) := if_neg (by omega)
        rw [e] at q
        exact q
      · rw [decide_eq_false h1]
        refine iteF ?_
        have e : wrongL al.cps.toList (.str z) = firstNot al.cps.toList z.cps.toList 0 := if_pos (by omega)
        rw [e] at q
        refine ⟨.str z, rfl, _, _, rfl, lenV_str hz1, (z.length : Int), rfl, by omega, by omega, ?_⟩
        refine for_it walk_range (fun i σ H2 => ∃ (v2 : Option V), σ = [some (.str al), some (.str z), v2] ∧ H2 = H ∧ ∀ (j : Nat) x, j < i → z.cps.toList[j]? = some x → x ∈ al.cps.toList)
          ⟨none, rfl, rfl, fun j x hj => absurd hj (Nat.not_lt_zero _)⟩ (fun _ _ _ _ _ => trivial) ?_ ?_
        · rintro i x σ H2 H3 hi ⟨v2, rfl, eH2, hall⟩ ⟨eH, ex0⟩
          subst eH2
          subst eH
          replace ex0 : x = .int (i : Nat) := ex0.trans (congrArg V.int (Int.zero_add _))
          subst ex0
          have hi' : i < z.cps.toList.length := by have : i < ((z.length : Nat) : Int).toNat := hi; omega
          have hc := List.getElem?_eq_getElem hi'
          refine ⟨.str z, rfl, .int (i : Nat), rfl, rIx_str hz1 hc ⟨.str al, rfl, _, al, rfl, rfl, _, rfl, ?_⟩⟩
          by_cases hm : z.cps.toList[i] ∈ al.cps.toList
          · rw [decide_eq_true hm]
            refine iteF ⟨_, rfl, rfl, fun j x hj hx => ?_⟩
            by_cases hji : j < i
            · exact hall j x hji hx
            · have : j = i := by omega
              subst this
              rw [hc] at hx
              cases hx
              exact hm
          · rw [decide_eq_false hm]
            refine iteT ⟨.int (i : Nat), rfl, ?_⟩
            rw [firstNot_at hc hall hm, Nat.zero_add] at q
            exact q
        · rintro σ H2 ⟨v2, rfl, eH2, hall⟩
          subst eH2
          rw [firstNot_none fun j x hx => hall j x (by have := (List.getElem?_eq_some_iff.mp hx).1; have e9 : ((z.length : Nat) : Int).toNat = z.length := by omega
                                                       omega) hx] at q
          exact q
end
end Kx
set_option Elab.async false
set_option linter.all false
set_option maxRecDepth 100000
set_option maxHeartbeats 2000000
namespace Kx
open PySem PySem.Spec PyProof.Rows L2
section
variable {P : Program} {w : World} {K : PySem.W.Frag} {mg : Str → Option Value} {base : Heap}
theorem ok_law_is_alphabet (T : Txt K mg) : Cal P w K mg base CX0 1 "_law_is_alphabet" ["_law_thing"] sp_is_alphabet := by
  obtain ⟨fd, F⟩ := F__law_is_alphabet T
  refine cal_mk F (g__law_is_alphabet T) sc__law_is_alphabet (fun _ _ _ _ _ _ us hl => match us, hl with | [_], _ => rfl) (fun vs H Q E h => ?_) (fun cdv A outer s H vs Q E hr h => ?_)
  · obtain ⟨v, d, rfl, _⟩ := h; rfl
  · refine ⟨_, PSs.nox (pss_cons (ps_if (PW.pt (pw_or (pt_not (pt_val (pe_callB call_isB (by rfl) (fr_isinstance T) b_isinstance (pa_cons (pv 0) (pa_cons (pe_ty (fr_str T) b_str) pa_nil)))))
        (pw_or1 (pt_not (pt_chain op_le op_le pe_int (pe_callB call_len (by rfl) (fr_len T) boot_len (pa_cons (pv 0) pa_nil)) pe_int))))) (pss_one (ps_ret pe_bl)) pss_nil)
      (pss_cons (ps_if (pt_not (pt_val (pe_callB (cr_all rfl) (by rfl) (fr_all T) b_all (pa_cons (pe_lc (own := [("_law_letter", 1)]) (g := gName 1) (tt := tYes) rfl sc__law_is_alphabet.nd (pi_str (pv 0)) (blkOk_by (N := N__law_is_alphabet) (sc := defScope s__law_is_alphabet) (by decide +kernel))
        (fun _ _ _ _ _ => pg_name (i := 1) sc__law_is_alphabet.nd rfl (Or.inl rfl)) (fun _ _ _ _ _ => pts_nil) (fun _ _ _ _ _ => pe_cmpR op_in_sign (pv 1) pe_str rfl)) pa_nil)))) (pss_one (ps_ret pe_bl)) pss_nil)
      (pss_one (ps_ret (pe_callB (cr_all rfl) (by rfl) (fr_all T) b_all (pa_cons (pe_lc (own := [("_law_k", 2)]) (g := gName 2) (tt := tYes) rfl sc__law_is_alphabet.nd
        (pi_range1 (by rfl) (fr_range T) (pa_cons (pe_op op_sub (pe_callB call_len (by rfl) (fr_len T) boot_len (pa_cons (pv 0) pa_nil)) pe_int) pa_nil)) (blkOk_by (N := N__law_is_alphabet) (sc := defScope s__law_is_alphabet) (by decide +kernel))
        (fun _ _ _ _ _ => pg_name (i := 2) sc__law_is_alphabet.nd rfl (Or.inl rfl)) (fun _ _ _ _ _ => pts_nil)
        (fun _ _ _ _ _ => by refine pe_cmpR (ta := tOp (rIx K) (tVar 0) (tVar 2)) (tb := tOp (rIx K) (tVar 0) (tOp (rI0 fun i j => .int (i + j)) (tVar 2) (tC (.int 1)))) op_lt_str ?_ ?_ (nomark _); exact pe_ix ix_seq (pv 0) (pv 2) (fun _ _ => rfl); exact pe_ix ix_seq (pv 0) (pe_op op_add (pv 2) pe_int) (fun _ _ => rfl))) pa_nil)))))), ?_⟩
    obtain ⟨v, d, rfl, rd, sm, q⟩ := h
    refine ⟨v, rfl, v, "str", kd d, rfl, rd.ko, k_str _, _, rfl, ?_⟩
    cases hb : (kd d).is "str" with
    | false =>
      refine iteT (iteT ?_)
      rw [kd_nstr hb] at q
      exact q H (Same.refl H)
    | true =>
      refine iteF ?_
      obtain ⟨z, rfl⟩ := kd_str hb
      cases rd
      have hz : z.cps.toList.length = z.length := Array.length_toList
      have hzs : z.length ≤ 100000 := sm z rfl
      have hal : ¬ (1 ≤ z.length ∧ z.length ≤ 8) → alphaD (.str z) = false := fun hn => by
        show alphaL z.cps.toList = false
        unfold alphaL
        rw [hz, decide_eq_false hn, Bool.false_and]
      refine ⟨.str z, rfl, _, _, rfl, lenV_str hzs, 1, _, rfl, rfl, _, rfl, ?_⟩
      by_cases h1 : (1 : Int) ≤ (z.length : Int)
      case neg =>
        rw [decide_eq_false h1]
        refine iteF ⟨_, rfl, iteT ?_⟩
        rw [hal (by omega)] at q
        exact q H (Same.refl H)
      rw [decide_eq_true h1]
      refine iteT ⟨_, 8, rfl, rfl, _, rfl, ?_⟩
      by_cases h2 : (z.length : Int) ≤ 8
      case neg =>
        rw [decide_eq_false h2]
        refine iteT ?_
        rw [hal (by omega)] at q
        exact q H (Same.refl H)
      rw [decide_eq_true h2]
      refine iteF ?_
      refine ⟨.str z, rfl, z, rfl, fun D hD => ?_⟩
      refine lc_new walk_str hD (Nat.le_trans (by show z.length ≤ 100000; exact hzs) (by decide)) (fun (i : Nat) _ v => ∀ c, z.cps.toList[i]? = some c → v = V.bl (decide (c ∈ lettersL))) (fun _ _ _ _ _ h => h) (fun _ _ => trivial)
        (fun i x H2 H3 Qk hi sH hy hk => ?_) (fun H2 acc s2 hD2 hl hv => ?_)
      · obtain ⟨e, c, hc, rfl⟩ := hy
        subst e
        refine ⟨rfl, .str ⟨#[c]⟩, rfl, c, "abcdefgh", rfl, rfl, hk _ _ (Same.refl _) fun c' hc' => ?_⟩
        rw [Array.getElem?_toList, hc] at hc'
        cases hc'
        rfl
      · have ea : acc = (z.cps.toList.map fun c => decide (c ∈ lettersL)).map V.bl := by
          refine bls_of (by rw [List.length_map, hz]; exact hl) fun i v hi b hb => ?_
          rw [List.getElem?_map] at hb
          cases hc : z.cps.toList[i]? with
          | none => rw [hc] at hb; cases hb
          | some c =>
            rw [hc] at hb
            cases hb
            exact hv i v hi c hc
        refine ⟨D, _, rfl, SqL.of (by rw [hD2, ea]), ?_⟩
        refine ⟨_, rfl, ?_⟩
        have hmain : alphaD (.str z) = ((z.cps.toList.map fun c => decide (c ∈ lettersL)).all id && ascL z.cps.toList) := by
          show alphaL z.cps.toList = _
          unfold alphaL
          have hn : 1 ≤ z.length ∧ z.length ≤ 8 := by omega
          rw [hz, decide_eq_true hn, Bool.true_and, List.all_map]
          rfl
        cases hk1 : (z.cps.toList.map fun c => decide (c ∈ lettersL)).all id with
        | false =>
          refine iteT ?_
          rw [hmain, hk1, Bool.false_and] at q
          exact q H2 s2
        | true =>
          refine iteF ?_
          rw [hmain, hk1, Bool.true_and] at q
          refine ⟨.str z, rfl, _, _, rfl, lenV_str hzs, _, 1, rfl, rfl, ((z.length : Int) - 1), rfl, by omega, by omega, fun D2 hD3 => ?_⟩
          have hn1 : ((z.length : Int) - 1).toNat = z.length - 1 := by omega
          rw [hn1]
          refine lc_new (walk_range (n := z.length - 1)) hD3 (Nat.le_trans (Nat.sub_le _ _) (Nat.le_trans hzs (by decide)))
            (fun (i : Nat) _ v => ∀ c d, z.cps.toList[i]? = some c → (z.cps.toList.drop 1)[i]? = some d → v = V.bl (decide ([c] < [d]))) (fun _ _ _ _ _ h => h) (fun _ _ => trivial)
            (fun i x H3 H4 Qk hi sH hy hk => ?_) (fun H3 acc2 s3 hD4 hl2 hv2 => ?_)
          · obtain ⟨eH, ex0⟩ := hy
            subst eH
            replace ex0 : x = .int (i : Nat) := ex0.trans (congrArg V.int (Int.zero_add _))
            subst ex0
            have hi1 : i < z.cps.toList.length := by omega
            have hi2 : i + 1 < z.cps.toList.length := by omega
            have e1 : ((i : Nat) : Int) + 1 = ((i + 1 : Nat) : Int) := by omega
            refine ⟨rfl, .str z, rfl, .int (i : Nat), rfl, rIx_str hzs (List.getElem?_eq_getElem hi1) ⟨.str z, rfl, .int (i : Nat), rfl, _, 1, rfl, rfl, ?_⟩⟩
            show rIx K (V.str z) (V.int (((i : Nat) : Int) + 1)) _ _
            rw [e1]
            refine rIx_str hzs (List.getElem?_eq_getElem hi2) ⟨_, _, rfl, rfl, hk _ _ (Same.refl _) fun c' d' hc' hd' => ?_⟩
            rw [List.getElem?_eq_getElem hi1] at hc'
            rw [List.getElem?_drop, Nat.add_comm, List.getElem?_eq_getElem hi2] at hd'
            cases hc'
            cases hd'
            rfl
          · have ea2 : acc2 = ((z.cps.toList.zip (z.cps.toList.drop 1)).map fun p => decide ([p.1] < [p.2])).map V.bl := by
              refine bls_of (by rw [List.length_map, List.length_zip, List.length_drop, hz, hl2]; omega) fun i v hi b hb => ?_
              rw [List.getElem?_map] at hb
              cases hp : (z.cps.toList.zip (z.cps.toList.drop 1))[i]? with
              | none => rw [hp] at hb; cases hb
              | some p =>
                rw [hp] at hb
                cases hb
                obtain ⟨h5, h6⟩ := List.getElem?_zip_eq_some.mp hp
                exact hv2 i v hi _ _ h5 h6
            refine ⟨D2, _, rfl, SqL.of (by rw [hD4, ea2]), ?_⟩
            have e5 : ((z.cps.toList.zip (z.cps.toList.drop 1)).map fun p => decide ([p.1] < [p.2])).all id = ascL z.cps.toList := by
              unfold ascL
              rw [List.all_map]
              rfl
            rw [e5]
            exact q H3 (s2.trans s3)
end
end Kx
set_option Elab.async false
set_option linter.all false
set_option maxRecDepth 100000
set_option maxHeartbeats 2000000
namespace Kx
open PySem PySem.Spec PyProof.Rows L2
section
variable {P : Program} {w : World} {K : PySem.W.Frag} {mg : Str → Option Value} {base : Heap}
theorem tupO_r {K : PySem.W.Frag} {te : TE} {σ : L2.St} {H : Hp} {a : Addr} {xs : List V} {Q : VK} (ht : ∀ Q : VK, Q (.ref a) H → te σ H Q) (h : H a = some (.lst xs) ∨ H a = some (.tup xs)) (q : ∀ H' p, Same H H' → H' p = some (.tup xs) → Q (.ref p) H') :
    tCB (fun xs H Q => ∃ p ys, xs = [V.ref p] ∧ ((SqL K H p ys ∧ ∀ l : Addr, H l = none → Q (V.ref l) (upd H l (.tup ys))) ∨ (SqT K H p ys ∧ Q (V.ref p) H))) (tCons te tNil) σ H Q := ht _ (tupled h q)
theorem tNot_r {t : TT} {σ : L2.St} {H : Hp} {Q : Bool → Hp → Prop} (h : t σ H fun b H1 => Q (!b) H1) : tNot t σ H Q := h
theorem tTest_r {t : TE} {σ : L2.St} {H : Hp} {Q : Bool → Hp → Prop} (h : t σ H fun x H' => ∃ k, x = .bl k ∧ Q k H') : tTest t σ H Q := h
theorem tOp_r {r : R2} {ta tb : TE} {σ : L2.St} {H : Hp} {Q : VK} (h : ta σ H fun x H1 => tb σ H1 fun y H2 => r x y H2 Q) : tOp r ta tb σ H Q := h
theorem tNil_r {σ : L2.St} {H : Hp} {Q : List V → Hp → Prop} (h : Q [] H) : tNil σ H Q := h
/-- a list or a tuple of n things -/
def SeqN (H : Hp) (v : V) (n : Nat) : Prop := ∃ a xs, v = .ref a ∧ (H a = some (.lst xs) ∨ H a = some (.tup xs)) ∧ xs.length = n
theorem SeqN.same {H H' : Hp} {v : V} {n : Nat} (s : Same H H') (h : SeqN H v n) : SeqN H' v n := by
  obtain ⟨a, xs, e, h, l⟩ := h
  exact ⟨a, xs, e, sq_same s h, l⟩
theorem SeqN.lenV {H : Hp} {v : V} {n : Nat} (h : SeqN H v n) : LenV K v H n := by
  obtain ⟨a, xs, rfl, h, l⟩ := h
  exact lenV_sq h l
def sp_law_first_triple : Sp := fun vs H Q _ => ∃ (al : Str) (vl vr v : V) (nl nr : Nat) (d : PyData), vs = [.str al, vl, vr, v] ∧ SeqN H vl nl ∧ SeqN H vr nr ∧ Rp H v d ∧ smallM d ∧
  ∀ H', Same H H' → Q (optV (markedDue al.cps.toList nl nr d)) H'
theorem ok_law_first_triple (T : Txt K mg) : Cal P w K mg base CX0 2 "_law_first_triple" ["_law_alphabet_here", "_law_left", "_law_right", "_law_marked_here"] sp_law_first_triple := by
  obtain ⟨fd, F⟩ := F__law_first_triple T
  refine cal_mk F (g__law_first_triple T) sc__law_first_triple (fun _ _ _ _ _ _ us hl => match us, hl with | [_, _, _, _], _ => rfl) (fun vs H Q E h => ?_) (fun cdv A outer s H vs Q E hr h => ?_)
  · obtain ⟨al, vl, vr, v, nl, nr, d, rfl, _⟩ := h; rfl
  · refine ⟨_, PSs.nox (pss_cons (ps_if (pt_not (pt_val (pe_callB call_isT (by rfl) (fr_isinstance T) b_isinstance (pa_cons (pv 3) (pa_cons (pe_tup (pa_cons (pe_ty (fr_list T) b_list) (pa_cons (pe_ty (fr_tuple T) b_tuple) pa_nil))) pa_nil)))))
        (pss_one (ps_ret (pe_un un_neg pe_int))) pss_nil)
      (pss_cons (ps_for PassesOwn.never rfl (pi_range1 (by rfl) (fr_range T) (pa_cons (pe_callB call_len (by rfl) (fr_len T) boot_len (pa_cons (pv 3) pa_nil)) pa_nil)) (pg_name (i := 4) sc__law_first_triple.nd rfl (Or.inl rfl))
        (pss_cons (ps_set (i := 5) sc__law_first_triple.nd rfl (Or.inl rfl) (pe_ix ix_seq (pv 3) (pv 4) (fun _ _ => rfl)))
        (pss_cons (ps_if (PW.pt (pw_or (pt_not (pt_val (pe_callB call_isT (by rfl) (fr_isinstance T) b_isinstance (pa_cons (pv 5) (pa_cons (pe_tup (pa_cons (pe_ty (fr_list T) b_list) (pa_cons (pe_ty (fr_tuple T) b_tuple) pa_nil))) pa_nil)))))
            (pw_or1 (pt_cmpR op_ne (pe_callB call_len (by rfl) (fr_len T) boot_len (pa_cons (pv 5) pa_nil)) pe_int (nomark _))))) (pss_one (ps_ret (pv 4))) pss_nil)
        (pss_cons (ps_if (PW.pt (pw_or (pt_not (pt_val (pe_cal (ok_law_is_number T) hr pass0 (pa_cons (pe_ix ix_seq (pv 5) pe_int (fun _ _ => rfl)) (pa_cons pe_int (pa_cons (pe_op op_sub (pe_callB call_len (by rfl) (fr_len T) boot_len (pa_cons (pv 1) pa_nil)) pe_int) pa_nil))))))
            (pw_or1 (pt_not (pt_val (pe_cal (ok_law_is_number T) hr pass0 (pa_cons (pe_ix ix_seq (pv 5) pe_int (fun _ _ => rfl)) (pa_cons pe_int (pa_cons (pe_op op_sub (pe_callB call_len (by rfl) (fr_len T) boot_len (pa_cons (pv 2) pa_nil)) pe_int) pa_nil))))))))) (pss_one (ps_ret (pv 4))) pss_nil)
        (pss_cons (ps_if (PW.pt (pw_or (pt_not (pt_val (pe_callB call_isB (by rfl) (fr_isinstance T) b_isinstance (pa_cons (pe_ix ix_seq (pv 5) pe_int (fun _ _ => rfl)) (pa_cons (pe_ty (fr_str T) b_str) pa_nil)))))
            (pw_or (pt_cmpR op_ne (pe_callB call_len (by rfl) (fr_len T) boot_len (pa_cons (pe_ix ix_seq (pv 5) pe_int (fun _ _ => rfl)) pa_nil)) pe_int (nomark _))
            (pw_or1 (pt_cmpR op_notIn_sign (pe_ix ix_seq (pv 5) pe_int (fun _ _ => rfl)) (pv 0) rfl))))) (pss_one (ps_ret (pv 4))) pss_nil)
        (pss_one (ps_if (PW.pt (pw_and (pt_cmpR op_gt (pv 4) pe_int (nomark _)) (pw_and1 (pt_not (pt_cmpR (op_ltD (hu64 hr)) (pe_callTy call_tuple_of (by rfl) (fr_tuple T) b_tuple (pa_cons (pe_ix ix_seq (pv 3) (pe_op op_sub (pv 4) pe_int) (fun _ _ => rfl)) pa_nil)) (pe_callTy call_tuple_of (by rfl) (fr_tuple T) b_tuple (pa_cons (pv 5) pa_nil)) (nomark _))))))
            (pss_one (ps_ret (pv 4))) pss_nil)))))))
      (pss_one (ps_ret pe_non)))), ?_⟩
    obtain ⟨al, vl, vr, v, nl, nr, d, rfl, qL, qR, rd, sm, q⟩ := h
    refine isLT_r (fun Q q => ⟨v, rfl, q⟩) rd.ko fun H1 s1 => ⟨_, rfl, ?_⟩
    have rd1 := rd.same s1
    cases hb : (kd d == Kd.lst || kd d == Kd.tup) with
    | false =>
      refine iteT ?_
      have e : markedDue al.cps.toList nl nr d = some (-1) := by unfold markedDue; rw [itemsD_none hb]
      rw [e] at q
      exact ⟨1, rfl, q H1 s1⟩
    | true =>
      refine iteF ?_
      obtain ⟨ds, hds⟩ := itemsD_kd hb
      obtain ⟨a, xs, rfl, hxs, hsq⟩ := rp_seq rd1 hds
      have hl : xs.length = ds.length := hxs.length
      have hsz := (sm ds hds).1
      have edue : markedDue al.cps.toList nl nr d = goMarked al.cps.toList nl nr none ds 0 := by unfold markedDue; rw [hds]
      rw [edue] at q
      refine ⟨.ref a, rfl, _, _, rfl, lenV_seq hsq, (xs.length : Int), rfl, by omega, by omega, ?_⟩
      refine for_it walk_range (fun i σ H2 => ∃ (v4 v5 : Option V), σ = [some (.str al), some vl, some vr, some (.ref a), v4, v5] ∧ Same H1 H2 ∧
        (∀ (j : Nat) x, j < i → ds[j]? = some x → tripleD al.cps.toList nl nr x = true) ∧
        goMarked al.cps.toList nl nr none ds 0 = goMarked al.cps.toList nl nr ((ds.take i).map tupOf).getLast? (ds.drop i) (i : Nat))
        ⟨none, none, rfl, Same.refl _, fun j x hj => absurd hj (Nat.not_lt_zero _), rfl⟩ (fun _ _ _ _ _ => trivial) ?_ ?_
      · rintro i x σ H2 H3 hi ⟨v4, v5, rfl, s3, hall, hgo⟩ ⟨eH, ex0⟩
        replace eH := eH.symm
        subst eH
        replace ex0 : x = .int (i : Nat) := ex0.trans (congrArg V.int (Int.zero_add _))
        subst ex0
        have hi' : i < xs.length := by have : i < ((xs.length : Nat) : Int).toNat := hi; omega
        have hid : i < ds.length := by omega
        obtain ⟨dy, hdy, ry⟩ := hxs.get (i := i) (List.getElem?_eq_getElem hi')
        have hdm : dy ∈ ds := List.mem_of_getElem? hdy
        have edrop : ds.drop i = dy :: ds.drop (i + 1) := by
          rw [List.drop_eq_getElem_cons hid]
          congr 1
          rw [List.getElem?_eq_getElem hid] at hdy
          exact Option.some.inj hdy
        rw [edrop, goMarked_cons] at hgo
        have hsq2 := sq_same s3 hsq
        have ex : xs[i]? = some xs[i] := List.getElem?_eq_getElem hi'
        have bad : tripleD al.cps.toList nl nr dy = false → ∀ H', Same H2 H' → Q (V.int (i : Nat)) H' := fun hm H' s' => by
          rw [hm, if_neg Bool.false_ne_true] at hgo
          have := q H' (s1.trans (s3.trans s'))
          rw [hgo] at this
          exact this
        refine ⟨.ref a, rfl, .int (i : Nat), rfl, rIx_sq hsq2 ex ?_⟩
        have ry2 := ry.same s3
        generalize xs[i] = y at ry2 ex
        refine ⟨y, rfl, (by show 2 ≤ sizeLine; decide), fun t ht => ⟨y, t, ["list", "tuple"], kd dy, rfl, upd_same, ko_upd ht ry2.ko, k_lt _, ?_⟩⟩
        rw [any_lt]
        refine ⟨_, rfl, ?_⟩
        have s4 := same_upd (o := .tup [V.ty "list", V.ty "tuple"]) ht
        have ry4 := ry2.same s4
        cases hb2 : (kd dy == Kd.lst || kd dy == Kd.tup) with
        | false =>
          have e : tripleD al.cps.toList nl nr dy = false := by unfold tripleD; rw [itemsD_none hb2]
          exact iteT (iteT ⟨.int (i : Nat), rfl, bad e _ s4⟩)
        | true =>
          refine iteF ?_
          obtain ⟨es, hes⟩ := itemsD_kd hb2
          obtain ⟨b, ys, rfl, hys, hsb⟩ := rp_seq ry4 hes
          have hly : ys.length = es.length := hys.length
          refine ⟨.ref b, rfl, _, _, rfl, lenV_seq hsb, rfl, _, rfl, ?_⟩
          by_cases h3 : es.length = 3
          case neg =>
            have e2 : (!decide (V.int (ys.length : Int) = V.int 3)) = true := by simp; omega
            have e3 : tripleD al.cps.toList nl nr dy = false := by
              unfold tripleD
              rw [hes]
              match es, h3 with
              | [], _ => rfl
              | [_], _ => rfl
              | [_, _], _ => rfl
              | [_, _, _], h3 => exact absurd rfl h3
              | _ :: _ :: _ :: _ :: _, _ => rfl
            rw [e2]
            exact iteT ⟨.int (i : Nat), rfl, bad e3 _ s4⟩
          have e2 : (!decide (V.int (ys.length : Int) = V.int 3)) = false := by simp; omega
          rw [e2]
          refine iteF ?_
          obtain ⟨e0, e1, e2', rfl⟩ : ∃ e0 e1 e2, es = [e0, e1, e2] := by
            match es, h3 with
            | [e0, e1, e2], _ => exact ⟨e0, e1, e2, rfl⟩
          obtain ⟨y0, y1, y2, rfl, r0, r1, r2⟩ : ∃ y0 y1 y2, ys = [y0, y1, y2] ∧ Rp (upd H2 t (.tup [V.ty "list", V.ty "tuple"])) y0 e0 ∧ Rp (upd H2 t (.tup [V.ty "list", V.ty "tuple"])) y1 e1 ∧ Rp (upd H2 t (.tup [V.ty "list", V.ty "tuple"])) y2 e2' := by
            cases hys with
            | cons h0 h1 => cases h1 with
              | cons h1 h2 => cases h2 with
                | cons h2 h3 => cases h3; exact ⟨_, _, _, rfl, h0, h1, h2⟩
          have em : tripleD al.cps.toList nl nr dy = (belowD nl e0 && (letterL al.cps.toList e1 && belowD nr e2')) := by unfold tripleD; rw [hes]
          have s14 : Same H (upd H2 t (.tup [V.ty "list", V.ty "tuple"])) := s1.trans (s3.trans s4)
          refine ⟨.ref b, rfl, rIx_sq (i := 0) hsb rfl ⟨vl, rfl, _, _, rfl, (qL.same s14).lenV, _, 1, rfl, rfl, y0, 0, _, kd e0, rfl, r0.ko, _, rfl, ?_⟩⟩
          rw [rp_num r0, num_below]
          cases c0 : belowD nl e0 with
          | false => exact iteT (iteT ⟨.int (i : Nat), rfl, bad (by rw [em, c0]; rfl) _ s4⟩)
          | true =>
            refine iteF ?_
            refine ⟨.ref b, rfl, rIx_sq (i := 2) hsb rfl ⟨vr, rfl, _, _, rfl, (qR.same s14).lenV, _, 1, rfl, rfl, y2, 0, _, kd e2', rfl, r2.ko, _, rfl, ?_⟩⟩
            rw [rp_num r2, num_below]
            cases c2 : belowD nr e2' with
            | false => exact iteT ⟨.int (i : Nat), rfl, bad (by rw [em, c0, c2, Bool.and_false]; rfl) _ s4⟩
            | true =>
              refine iteF ?_
              refine ⟨.ref b, rfl, rIx_sq (i := 1) hsb rfl ⟨y1, "str", kd e1, rfl, r1.ko, k_str _, _, rfl, ?_⟩⟩
              cases hs : (kd e1).is "str" with
              | false => exact iteT (iteT ⟨.int (i : Nat), rfl, bad (by rw [em, c0, kd_nstr2 hs]; rfl) _ s4⟩)
              | true =>
                refine iteF ?_
                obtain ⟨z, rfl⟩ := kd_str hs
                cases r1
                have hz : z.cps.toList.length = z.length := Array.length_toList
                have hz1 : z.length ≤ 100000 := ((sm ds hds).2 dy hdm _ hes).2 (.str z) (by simp) z rfl
                refine ⟨.ref b, rfl, rIx_sq (i := 1) hsb rfl ⟨.str z, _, rfl, lenV_str hz1, rfl, _, rfl, ?_⟩⟩
                by_cases hl1 : z.length = 1
                case neg =>
                  have e6 : (!decide (V.int (z.length : Int) = V.int 1)) = true := by simp; omega
                  rw [e6]
                  have e7 : letterL al.cps.toList (.str z) = false := by
                    show (match z.cps.toList with | [c] => decide (c ∈ al.cps.toList) | _ => false) = false
                    split
                    · rename_i c hc
                      rw [hc] at hz
                      simp at hz
                      omega
                    · rfl
                  exact iteT (iteT ⟨.int (i : Nat), rfl, bad (by rw [em, c0, e7]; rfl) _ s4⟩)
                have e6 : (!decide (V.int (z.length : Int) = V.int 1)) = false := by simp; omega
                rw [e6]
                refine iteF ?_
                obtain ⟨c, rfl⟩ : ∃ c, z = ⟨#[c]⟩ := by
                  obtain ⟨⟨l⟩⟩ := z
                  match l, hl1 with
                  | [c], _ => exact ⟨c, rfl⟩
                have elet : letterL al.cps.toList (.str ⟨#[c]⟩) = decide (c ∈ al.cps.toList) := rfl
                refine ⟨.ref b, rfl, rIx_sq (i := 1) hsb rfl ⟨.str al, rfl, c, al, rfl, rfl, _, rfl, ?_⟩⟩
                by_cases hm : c ∈ al.cps.toList
                case neg =>
                  rw [decide_eq_false hm]
                  exact iteT ⟨.int (i : Nat), rfl, bad (by rw [em, c0, elet, decide_eq_false hm]; rfl) _ s4⟩
                rw [decide_eq_true hm]
                refine iteF ?_
                have htr : tripleD al.cps.toList nl nr dy = true := by rw [em, c0, c2, elet, decide_eq_true hm]; rfl
                rw [htr, if_pos rfl] at hgo
                have htk : (ds.take (i + 1)) = ds.take i ++ [dy] := by rw [List.take_succ, hdy]; rfl
                have nxt : ∀ H5, Same H2 H5 → goMarked al.cps.toList nl nr none ds 0 = goMarked al.cps.toList nl nr (some (tupOf dy)) (ds.drop (i + 1)) ((i : Nat) + 1 : Int) →
                    ∃ (v4 v5 : Option V), [some (V.str al), some vl, some vr, some (V.ref a), some (V.int (i : Nat)), some (V.ref b)] = [some (.str al), some vl, some vr, some (.ref a), v4, v5] ∧ Same H1 H5 ∧
                      (∀ (j : Nat) x, j < i + 1 → ds[j]? = some x → tripleD al.cps.toList nl nr x = true) ∧
                      goMarked al.cps.toList nl nr none ds 0 = goMarked al.cps.toList nl nr ((ds.take (i + 1)).map tupOf).getLast? (ds.drop (i + 1)) ((i + 1 : Nat) : Int) := fun H5 s5 hg => by
                  refine ⟨_, _, rfl, s3.trans s5, fun j x hj hx => ?_, ?_⟩
                  · by_cases hji : j < i
                    · exact hall j x hji hx
                    · have : j = i := by omega
                      subst this
                      rw [hdy] at hx
                      cases hx
                      exact htr
                  · rw [htk, List.map_append, hg]
                    simp
                refine ⟨.int (i : Nat), rfl, _, 0, rfl, rfl, _, rfl, ?_⟩
                by_cases hi0 : i = 0
                · have e8 : decide ((0 : Int) < ((i : Nat) : Int)) = false := by simp; omega
                  rw [e8]
                  refine iteF (iteF ?_)
                  have e9 : ((ds.take i).map tupOf).getLast? = none := by subst hi0; rfl
                  rw [e9] at hgo
                  exact nxt _ s4 hgo
                have e8 : decide ((0 : Int) < ((i : Nat) : Int)) = true := by simp; omega
                rw [e8]
                refine iteT ?_
                -- the one before
                have hk : i - 1 < xs.length := by omega
                obtain ⟨d0, hd0, rp0⟩ := hxs.get (i := i - 1) (List.getElem?_eq_getElem hk)
                have htr0 := hall (i - 1) d0 (by omega) hd0
                obtain ⟨pa', pz', pc', hit'⟩ := triple_shape htr0
                obtain ⟨pa, pz, pc, hit⟩ := triple_shape htr
                have e0' : tupOf d0 = .tuple [.int pa', .str pz', .int pc'] := by unfold tupOf; rw [hit']; rfl
                have e1' : tupOf dy = .tuple [.int pa, .str pz, .int pc] := by unfold tupOf; rw [hit]; rfl
                have elast : ((ds.take i).map tupOf).getLast? = some (tupOf d0) := by
                  rw [List.getLast?_eq_getElem?, List.length_map, List.length_take, List.getElem?_map, List.getElem?_take_of_lt (by omega)]
                  have : min i ds.length - 1 = i - 1 := by omega
                  rw [this, hd0]
                  rfl
                rw [elast] at hgo
                have elt : (Option.all (fun p => PySem.W.dataLt p (tupOf dy)) (some (tupOf d0))) = PySem.W.dataLt (.tuple [.int pa', .str pz', .int pc']) (.tuple [.int pa, .str pz, .int pc]) := by
                  rw [← e1', ← e0']
                  rfl
                rw [elt] at hgo
                have ex1 : xs[i - 1]? = some xs[i - 1] := List.getElem?_eq_getElem hk
                have rp4 := rp0.same (s3.trans s4)
                generalize xs[i - 1] = y9 at rp4 ex1
                obtain ⟨b9, ys9, rfl, hys9, hsb9⟩ := rp_seq rp4 hit'
                have ei1 : ((i : Nat) : Int) - 1 = ((i - 1 : Nat) : Int) := by omega
                have hh := hes.symm.trans hit
                cases hh
                have hrt : RtL (upd H2 t (.tup [V.ty "list", V.ty "tuple"])) [y0, .str ⟨#[c]⟩, y2] [.int pa, .str ⟨#[c]⟩, .int pc] := .cons (by cases r0; exact .int _) (.cons (.str _) (.cons (by cases r2; exact .int _) .nil))
                have hrt9 := Kx.rpL_flt hys9 rfl
                refine tNot_r (tTest_r (tOp_r ?_))
                refine tupO_r (K := K) (fun Q q => ⟨.ref a, rfl, .int (i : Nat), rfl, _, 1, rfl, rfl, by
                  show rIx K (.ref a) (.int (((i : Nat) : Int) - 1)) _ _
                  rw [ei1]
                  exact rIx_sq (sq_same s4 hsq2) ex1 q⟩) hsb9 fun H5 p s5 hp => ?_
                refine tupO_r (K := K) (fun Q q => ⟨.ref b, rfl, q⟩) (sq_same s5 hsb) fun H6 p2 s6 hp2 => ?_
                refine ⟨_, _, (Rt.tup (s6 _ _ hp) (hrt9.tups (Same.tups (s5.trans s6)))).dp, (Rt.tup hp2 (hrt.tups (Same.tups (s5.trans s6)))).dp, alike_tri _ _ _ _ _ _, (fun z => by cases z), depth_tri _ _ _, _, rfl, ?_⟩
                cases hlt : PySem.W.dataLt (.tuple [.int pa', .str pz', .int pc']) (.tuple [.int pa, .str ⟨#[c]⟩, .int pc]) with
                | false =>
                  rw [hlt, if_neg Bool.false_ne_true] at hgo
                  have := q H6 (s1.trans (s3.trans (s4.trans (s5.trans s6))))
                  rw [hgo] at this
                  exact iteT ⟨.int (i : Nat), rfl, this⟩
                | true =>
                  rw [hlt, if_pos rfl] at hgo
                  exact iteF (nxt H6 (s4.trans (s5.trans s6)) hgo)
      · rintro σ H2 ⟨v4, v5, rfl, s3, hall, hgo⟩
        have e9 : ((xs.length : Nat) : Int).toNat = ds.length := by omega
        rw [e9, List.drop_length] at hgo
        have := q H2 (s1.trans s3)
        rw [hgo] at this
        unfold goMarked at this
        exact this
end
end Kx
set_option Elab.async false
set_option linter.all false
set_option maxRecDepth 100000
set_option maxHeartbeats 2000000
namespace Kx
open PySem PySem.Spec PyProof.Rows L2
/-! ### promises that hold where no repr is under way (repr of a list asks that) -/
structure FnOkG (P : Program) (w : World) (K : PySem.W.Frag) (mg : Str → Option Value) (base : Heap) (CX : CXT) (k : Nat) (f : Addr) (fd : FuncData) (ps : List Str) (sp : Sp) : Prop where
  len : ∀ vs H Q E, sp vs H Q E → vs.length = ps.length
  run : ∀ (A : Around) (outer : List Env) (s : Shared) (H : Hp) (args : Args) (us : List Value) (vs : List V) (Q : VK) (E : XK), A.guards = some [] → Room k A → Env0 P w K mg base A outer s H → BindsTo s fd args (ps.zip us) →
    Vals vs us → sp vs H Q E → codeAny (model P w) A (.call (.ref f) args) (CR CX outer P w H s Q E) s
section
variable {P : Program} {w : World} {K : PySem.W.Frag} {mg : Str → Option Value} {base : Heap} {CX : CXT}
theorem FnOkG.of {k : Nat} {f : Addr} {fd : FuncData} {ps : List Str} {sp : Sp} (F : FnOk P w K mg base CX k f fd ps sp) : FnOkG P w K mg base CX k f fd ps sp :=
  ⟨F.len, fun A outer s H args us vs Q E _ hr e b v h => F.run A outer s H args us vs Q E hr e b v h⟩
theorem fnG_mk {x q : Str} {st : Stmt} {f : Addr} {fd : FuncData} {N ps : List Str} {k : Nat} {sp : Sp} (F : FnP K x q st f fd) (S : FnScope N ps (defScope st)) (len : ∀ vs H Q E, sp vs H Q E → vs.length = ps.length)
    (hbody : ∀ (cdv : Value) (A : Around) (outer : List Env) (s : Shared) (H : Hp) (vs : List V) (Q : VK) (E : XK), A.guards = some [] → Room k (A.deeper (envOfC q (defScope st) s.heap.objs.size f cdv)) → sp vs H Q E →
      ∃ t, PSs (cxOf CX P w K mg base N q (defScope st) f cdv A outer s H E) (defBody st) t ∧ t { nx := fun _ H' => Q .non H', rt := Q } (start N vs) H) : FnOkG P w K mg base CX (k + 1) f fd ps sp := by
  obtain ⟨oc, od, dV, kV, doc, pm, an, cdv, ct, osl, rfl, lk, hcd, _, _⟩ := F.ex
  refine ⟨len, fun A outer s H args us vs Q E hg hr e0 hb r hsp => ?_⟩
  have hl := len _ _ _ _ hsp
  have up : ∀ b o, base.get? b = some o → s.heap.get? b = some o := fun b o e => (e0.bs b o e).1
  have kinds : ∀ y ∈ ps.zip us, (defScope st).names.lookup y.1 = some .local ∨ ((defScope st).names.lookup y.1 = some .cell ∧ ((cellsFrom (s.heap.objs.size + 1) (defScope st).names []).lookup y.1).isSome = true) := by
    rintro ⟨n, v⟩ hy
    rcases S.par n (List.of_mem_zip hy).1 with q | q
    · exact .inl q
    · exact .inr ⟨q, PySem.W.cellsFrom_some _ _ _ (.inl q)⟩
  refine codeAny_call_function hr.depth (e0.mod.kin.keeps up _ _ lk) rfl S.co S.gen rfl (PySem.W.codeRec_of (e0.mod.kin.keeps up) hcd) (hb _ _ _ _ ?_)
  refine wpAny_newFunctionEnv_cells S.kind kinds fun env he s1 x => ?_
  subst he
  refine ⟨(e0.mod.nolimit.keeps up).keeps x.toInCall.keep, codeAny_func ?_⟩
  obtain ⟨t, ht, hq⟩ := hbody cdv A outer s H vs Q E hg (hr.deeper _) hsp
  have I : Inv (cxOf CX P w K mg base N q (defScope st) f cdv A outer s H E) [] (start N vs) H s1 := inv_start S hr.hd e0 hl r x
  refine wpAny_mono (ht.run [] s1 (start N vs) H _ I hq) (fun fl s' hs => ?_) fun _ _ hs => hs
  cases fl with
  | ret u =>
    obtain ⟨v, σ', H', J, rv, q⟩ := hs
    exact ⟨v, H', J.os, J.bare, J.base, J.hok, rv, q⟩
  | next =>
    obtain ⟨σ', H', J, q⟩ := hs
    exact ⟨V.non, H', J.os, J.bare, J.base, J.hok, rfl, q⟩
  | brk => exact False.elim hs.choose_spec.choose_spec.2
  | cont => exact False.elim hs.choose_spec.choose_spec.2
end
/-- a def of the module, so promised -/
structure CalG (P : Program) (w : World) (K : PySem.W.Frag) (mg : Str → Option Value) (base : Heap) (CX : CXT) (k : Nat) (x : Str) (ps : List Str) (sp : Sp) : Prop where
  ok : ∃ fd, FnOkG P w K mg base CX k (He.ga K x) fd ps sp ∧ Binds K fd ps []
  g : mg x = some (.ref (He.ga K x))
  kp : PySem.W.keepIn K (.ref (He.ga K x)) = true
section
variable {P : Program} {w : World} {K : PySem.W.Frag} {mg : Str → Option Value} {base : Heap} {CX : CXT}
theorem calG_of {k : Nat} {x : Str} {ps : List Str} {sp : Sp} (F : Cal P w K mg base CX k x ps sp) : CalG P w K mg base CX k x ps sp := by
  obtain ⟨⟨fd, h1, h2⟩, h3, h4⟩ := F
  exact ⟨⟨fd, .of h1, h2⟩, h3, h4⟩
theorem calG_mk {x q : Str} {st : Stmt} {fd : FuncData} {N ps : List Str} {k : Nat} {sp : Sp} (F : FnP K x q st (He.ga K x) fd) (g : mg x = some (.ref (He.ga K x))) (S : FnScope N ps (defScope st))
    (hb : ∀ (kV doc pm : Value) (an : Option Addr) (cdv ct : Value) (us : List Value), us.length = ps.length → bindArgs (PySem.W.fnOf x q (defArgs st) (defBody st) (defScope st) .none kV doc pm an cdv ct) ⟨us, []⟩ = pure (ps.zip us))
    (len : ∀ vs H Q E, sp vs H Q E → vs.length = ps.length)
    (hbody : ∀ (cdv : Value) (A : Around) (outer : List Env) (s : Shared) (H : Hp) (vs : List V) (Q : VK) (E : XK), A.guards = some [] → Room k (A.deeper (envOfC q (defScope st) s.heap.objs.size (He.ga K x) cdv)) → sp vs H Q E →
      ∃ t, PSs (cxOf CX P w K mg base N q (defScope st) (He.ga K x) cdv A outer s H E) (defBody st) t ∧ t { nx := fun _ H' => Q .non H', rt := Q } (start N vs) H) : CalG P w K mg base CX (k + 1) x ps sp :=
  ⟨⟨fd, fnG_mk F S len hbody, F.bindsN hb⟩, g, F.kp⟩
end
section
variable {X : Cx} {CX : CXT} {k : Nat} {x : Str} {ps : List Str} {sp : Sp} {E : XK} {e : Expr} {es : List Expr} {t : TA} {p pos : Pos}
/-- f(e, ..), f promised so -/
theorem pe_calG (F : CalG X.prog X.w X.K X.mg X.base CX k x ps sp) (hG : X.A.guards = some []) (hr : Room k X.A) (hx : Passes CX X E) (ha : PA X (e :: es) t) (hg : Gl X x := by rfl) (hdb : (x == ("__debug__" : Str)) = false := by decide)
    (he : starEach (e :: es) X.env = (false, eval e X.env) :: starEach es X.env := by rfl) (hpl : (backTo pos (starEach es X.env)).any (·.1) = false := by rfl) :
    PE X (.Call (.Name x p) (e :: es) [] pos) (tCall sp [] E t) := by
  obtain ⟨fd, h1, h2⟩ := F.ok
  constructor
  intro pins s σ H Q I h
  refine wpAny_Call_Name_kw (ld_glob I hg F.g ?_ hdb)
  refine PySem.W.callWith_K (h₀ := X.base) I.ok.mod.kin F.kp (thn (ha.run pos pins s σ H _ I h) fun us s1 hh => ?_) he hpl
  obtain ⟨vs, H1, I1, r, q⟩ := hh
  refine ⟨I1.kIn, ?_⟩
  have q : sp (vs ++ []) H1 Q E := q
  rw [List.append_nil] at q
  have hl : (us ++ []).length = ps.length := by rw [List.append_nil, ← r.length]; exact h1.len _ _ _ _ q
  have hb := h2 s1 us I1.kIn hl
  rw [List.append_nil] at hb
  refine wpAny_call (codeAny_mono (h1.run X.A X.stack s1 H1 ⟨us, []⟩ us vs Q E hG hr I1.env0 hb r q) fun r s' hq => ?_)
  cases r with
  | error er => exact hx pins σ H1 s1 er s' I1 hq
  | ok fl =>
    cases fl with
    | ret u => exact I1.after hq
    | _ => exact False.elim hq
end
/-! ### repr -/
/-- repr(x), the data of x without dicts -/
def rRepr (K : PySem.W.Frag) : List V → Hp → VK → Prop := fun xs H Q => ∃ x d, xs = [x] ∧ Dp K H x d ∧ d.showable = true ∧ d.hasDict = false ∧ d.depth ≤ 60 ∧ ((∃ i, d = .int i) ∨ d.shown.length ≤ sizeLine) ∧ Q (.str d.shown) H
theorem call_repr {X : Cx} (hG : X.A.guards = some []) (hu : X.A.units + 64 < cLine) : CallR X (.builtin "repr") (rRepr X.K) := by
  intro pins s σ H xs us Q I r h
  obtain ⟨x, d, rfl, hd, hs, hn, hz, hl, q⟩ := h
  obtain ⟨u, rfl, ru⟩ := vals1 r
  obtain ⟨as, rd⟩ := Dp.reads I d x u hd ru
  cases hd with
  | non =>
    cases ru
    exact PySem.P.repr_of_none ⟨.str _, H, I.tok _, ⟨_, rfl⟩, q⟩
  | bl b =>
    cases ru
    exact PySem.P.repr_of_bool ⟨.str _, H, I.tok _, ⟨_, rfl⟩, q⟩
  | int i =>
    obtain ⟨t, rfl⟩ := ru
    exact PySem.P.repr_of_int (by simpa [PyData.showable] using hs) ⟨.str _, H, I.tok _, ⟨_, rfl⟩, q⟩
  | str z =>
    obtain ⟨t, rfl⟩ := ru
    exact PySem.P.repr_of_str ⟨.str _, H, I.tok _, ⟨_, rfl⟩, q⟩ (hl.resolve_left fun ⟨_, z⟩ => nomatch z)
  | lst h1 h2 =>
    cases ru
    exact PySem.repr_of_reads' rd hs (PyData.noDict_hsm hn) hG (by omega) (fun _ _ e => e) (fun h' t tk kk => ⟨.str _, H, I.kept kk, ⟨_, rfl⟩, q⟩) (hl.resolve_left fun ⟨_, z⟩ => nomatch z)
  | tup h1 h2 =>
    cases ru
    exact PySem.repr_of_reads' rd hs (PyData.noDict_hsm hn) hG (by omega) (fun _ _ e => e) (fun h' t tk kk => ⟨.str _, H, I.kept kk, ⟨_, rfl⟩, q⟩) (hl.resolve_left fun ⟨_, z⟩ => nomatch z)
end Kx
set_option Elab.async false
set_option linter.all false
set_option maxRecDepth 100000
set_option maxHeartbeats 2000000
namespace Kx
open PySem PySem.Spec PyProof.Rows L2
theorem b_repr : bootBuiltins "repr" = some (.builtin "repr") := by decide +kernel
theorem firstBad_lt {p : PyData → Bool} : ∀ {ds : List PyData} {k j : Int}, firstBad p ds k = some j → k ≤ j ∧ j < k + ds.length
  | [], _, _, h => by cases h
  | d :: ds, k, j, h => by
    unfold firstBad at h
    by_cases hp : p d = true
    · rw [if_pos hp] at h
      have := firstBad_lt h
      simp only [List.length_cons]
      omega
    · rw [if_neg hp] at h
      cases h
      simp only [List.length_cons]
      omega
theorem goMarked_lt {al : List Nat} {nl nr : Int} : ∀ {ds : List PyData} {prev : Option PyData} {k j : Int}, goMarked al nl nr prev ds k = some j → k ≤ j ∧ j < k + ds.length
  | [], _, _, _, h => by cases h
  | d :: ds, prev, k, j, h => by
    rw [goMarked_cons] at h
    simp only [List.length_cons]
    split at h
    · split at h
      · have := goMarked_lt h
        omega
      · cases h; omega
    · cases h; omega
theorem show_int {k : Int} (h1 : -1 ≤ k) (h2 : k ≤ 100000) : (PyData.int k).showable = true := by
  unfold PyData.showable
  rw [decide_eq_true_eq]
  by_cases h0 : k.natAbs = 0
  · rw [h0]; decide
  · exact (Nat.log2_lt h0).mpr (Nat.lt_of_le_of_lt (by omega : k.natAbs ≤ 100000) (Nat.lt_of_lt_of_le (by decide : 100000 < 2 ^ 17) (Nat.pow_le_pow_right (by decide) (by decide))))
theorem readerDue_lt {l : Nat} {d : PyData} {k : Int} (h : readerDue l d = some k) : -1 ≤ k ∧ k ≤ 100000 := by
  unfold readerDue at h
  cases hi : itemsD d with
  | none => rw [hi] at h; cases h; omega
  | some ds =>
    rw [hi] at h
    dsimp only at h
    by_cases hn : 1 ≤ ds.length ∧ ds.length ≤ 40
    · rw [if_pos hn] at h
      have := firstBad_lt h
      omega
    · rw [if_neg hn] at h; cases h; omega
theorem markedDue_lt {al : List Nat} {nl nr k : Int} {d : PyData} (sm : smallM d) (h : markedDue al nl nr d = some k) : -1 ≤ k ∧ k ≤ 100000 := by
  unfold markedDue at h
  cases hi : itemsD d with
  | none => rw [hi] at h; cases h; omega
  | some ds =>
    rw [hi] at h
    have := goMarked_lt h
    have := (sm ds hi).1
    omega
/-- data that repr shows -/
structure ReprOk (d : PyData) : Prop where
  sh : d.showable = true
  nd : d.hasDict = false
  dp : d.depth ≤ 60
  sz : (∃ i, d = .int i) ∨ d.shown.length ≤ sizeLine
theorem reprOk_int {k : Int} (h : -1 ≤ k ∧ k ≤ 100000) : ReprOk (.int k) := ⟨show_int h.1 h.2, by simp [PyData.hasDict], by simp [PyData.depth], .inl ⟨k, rfl⟩⟩
mutual
theorem Rp.dp {K : PySem.W.Frag} {H : Hp} : ∀ {v : V} {d : PyData}, Rp H v d → d.hasDict = false → Dp K H v d
  | _, _, .non, _ => .non
  | _, _, .bl b, _ => .bl b
  | _, _, .int i, _ => .int i
  | _, _, .str z, _ => .str z
  | _, _, .lst e h, n => .lst (SqL.of e) (RpL.dp h (by simpa [PyData.hasDict] using n))
  | _, _, .tup e h, n => .tup (SqT.of e) (RpL.dp h (by simpa [PyData.hasDict] using n))
  | _, _, .dct e, n => by simp [PyData.hasDict] at n
theorem RpL.dp {K : PySem.W.Frag} {H : Hp} : ∀ {vs : List V} {ds : List PyData}, RpL H vs ds → PyData.hasDictAll ds = false → DpAll K H vs ds
  | _, _, .nil, _ => .nil
  | _, _, .cons h hs, n => by
    simp only [PyData.hasDictAll, Bool.or_eq_false_iff] at n
    exact .cons (Rp.dp h n.1) (RpL.dp hs n.2)
end
/-- what the law says is due -/
def dueD (a l r m : PyData) : PyData := match pairDue a l r m with
  | .alph => .tuple [.str "alphabet", .str a.shown]
  | .left k => .tuple [.str "reader", .str "left", .str (PyData.int k).shown]
  | .right k => .tuple [.str "reader", .str "right", .str (PyData.int k).shown]
  | .marked k => .tuple [.str "marked", .str (PyData.int k).shown]
  | .ok => .tuple [.str "pair", a, keptD l, keptD r, keptD m]
theorem deep_reader {na : Nat} {d : PyData} (h : readerDue na d = none) (sm : smallR d) : deepD d ∧ lenD d ≤ 40 := by
  unfold readerDue at h
  cases hi : itemsD d with
  | none => rw [hi] at h; cases h
  | some ds =>
    rw [hi] at h
    dsimp only at h
    by_cases hn : 1 ≤ ds.length ∧ ds.length ≤ 40
    · rw [if_pos hn] at h
      have hall := firstBad_all h
      refine ⟨⟨ds, hi, (sm ds hi).1, fun x hx => ?_⟩, by unfold lenD; rw [hi]; exact hn.2⟩
      have hm := hall x hx
      unfold moveD at hm
      cases hx2 : itemsD x with
      | none => rw [hx2] at hm; cases hm
      | some es =>
        rw [hx2, Bool.and_eq_true] at hm
        refine ⟨es, rfl, List.all_eq_true.mpr fun y hy => ?_⟩
        have := List.all_eq_true.mp hm.2 y hy
        cases y <;> first | rfl | (exact Bool.noConfusion this)
    · rw [if_neg hn] at h; cases h
theorem deep_marked {al : List Nat} {nl nr : Int} {d : PyData} (h : markedDue al nl nr d = none) (sm : smallM d) : deepD d := by
  unfold markedDue at h
  cases hi : itemsD d with
  | none => rw [hi] at h; cases h
  | some ds =>
    rw [hi] at h
    have hall := goMarked_all h
    refine ⟨ds, hi, (sm ds hi).1, fun x hx => ?_⟩
    obtain ⟨a, z, c, hit⟩ := triple_shape (hall x hx)
    exact ⟨_, hit, rfl⟩
theorem pairDue_ok {z : Str} {l r m : PyData} (hb : alphaD (.str z) = true) : pairDue (.str z) l r m = (match readerDue z.length l with
    | some k => .left k
    | none => match readerDue z.length r with
      | some k => .right k
      | none => match markedDue z.cps.toList (lenD l) (lenD r) m with
        | some k => .marked k
        | none => .ok) := by
  unfold pairDue
  rw [if_pos hb]
  rfl
theorem seqN_of {H : Hp} {v : V} {d : PyData} {ds : List PyData} (h : Rp H v d) (e : itemsD d = some ds) : SeqN H v (lenD d) := by
  obtain ⟨a, xs, rfl, hx, hs⟩ := rp_seq h e
  refine ⟨a, xs, rfl, hs, ?_⟩
  unfold lenD
  rw [e]
  exact hx.length
theorem reader_items {na : Nat} {d : PyData} (h : readerDue na d = none) : ∃ ds, itemsD d = some ds := by
  unfold readerDue at h
  cases hi : itemsD d with
  | none => rw [hi] at h; cases h
  | some ds => exact ⟨ds, rfl⟩
theorem two_at {α : Type} {a b x : α} {i : Nat} (h : [a, b][i]? = some x) : (i = 0 ∧ x = a) ∨ (i = 1 ∧ x = b) := by
  match i, h with
  | 0, h => exact .inl ⟨rfl, by cases h; rfl⟩
  | 1, h => exact .inr ⟨rfl, by cases h; rfl⟩
  | i + 2, h => simp at h
section
variable {P : Program} {w : World} {K : PySem.W.Frag} {mg : Str → Option Value} {base : Heap}
def sp_law_due : Sp := fun vs H Q _ => ∃ (va vl vr vm : V) (a l r m : PyData), vs = [va, vl, vr, vm] ∧ Rp H va a ∧ Rp H vl l ∧ Rp H vr r ∧ Rp H vm m ∧ smallA a l r m ∧ (alphaD a = false → ReprOk a) ∧
  ∀ H' t, Same H H' → Rt H' t (dueD a l r m) → Q t H'
theorem ok_law_due (T : Txt K mg) : CalG P w K mg base CX0 3 "_law_due" ["_law_alphabet_here", "_law_left", "_law_right", "_law_marked_here"] sp_law_due := by
  obtain ⟨fd, F⟩ := F__law_due T
  refine calG_mk F (g__law_due T) sc__law_due (fun _ _ _ _ _ _ us hl => match us, hl with | [_, _, _, _], _ => rfl) (fun vs H Q E h => ?_) (fun cdv A outer s H vs Q E hG hr h => ?_)
  · obtain ⟨va, vl, vr, vm, a, l, r, m, rfl, _⟩ := h; rfl
  · refine ⟨_, PSs.nox (pss_cons (ps_if (pt_not (pt_val (pe_cal (ok_law_is_alphabet T) (hr.mono (by decide)) pass0 (pa_cons (pv 0) pa_nil))))
          (pss_one (ps_ret (pe_tup (pa_cons pe_str (pa_cons (pe_callB (call_repr hG (hu64 hr)) (by rfl) (fr_repr T) b_repr (pa_cons (pv 0) pa_nil)) pa_nil))))) pss_nil)
      (pss_cons (ps_for PassesOwn.never rfl (pi_list (pe_lst (pa_cons (pe_tup (pa_cons pe_str (pa_cons (pv 1) pa_nil))) (pa_cons (pe_tup (pa_cons pe_str (pa_cons (pv 2) pa_nil))) pa_nil))))
          (pg_tup rfl (pgs_cons (pg_name (i := 4) sc__law_due.nd rfl (Or.inl rfl)) (pgs_cons (pg_name (i := 5) sc__law_due.nd rfl (Or.inl rfl)) pgs_nil)))
        (pss_cons (ps_set (i := 6) sc__law_due.nd rfl (Or.inl rfl) (pe_cal (ok_law_first_move T) hr pass0 (pa_cons (pv 5) (pa_cons (pe_callB call_len (by rfl) (fr_len T) boot_len (pa_cons (pv 0) pa_nil)) pa_nil))))
        (pss_one (ps_if (pt_cmpR op_notN (pv 6) pe_non (nomark _)) (pss_one (ps_ret (pe_tup (pa_cons pe_str (pa_cons (pv 4) (pa_cons (pe_callB (call_repr hG (hu64 hr)) (by rfl) (fr_repr T) b_repr (pa_cons (pv 6) pa_nil)) pa_nil)))))) pss_nil))))
      (pss_cons (ps_set (i := 6) sc__law_due.nd rfl (Or.inl rfl) (pe_cal (ok_law_first_triple T) hr pass0 (pa_cons (pv 0) (pa_cons (pv 1) (pa_cons (pv 2) (pa_cons (pv 3) pa_nil))))))
      (pss_cons (ps_if (pt_cmpR op_notN (pv 6) pe_non (nomark _)) (pss_one (ps_ret (pe_tup (pa_cons pe_str (pa_cons (pe_callB (call_repr hG (hu64 hr)) (by rfl) (fr_repr T) b_repr (pa_cons (pv 6) pa_nil)) pa_nil))))) pss_nil)
      (pss_one (ps_ret (pe_tup (pa_cons pe_str (pa_cons (pv 0) (pa_cons (pe_cal (ok_law_deep T) (hr.mono (by decide)) pass0 (pa_cons (pv 1) pa_nil)) (pa_cons (pe_cal (ok_law_deep T) (hr.mono (by decide)) pass0 (pa_cons (pv 2) pa_nil)) (pa_cons (pe_cal (ok_law_deep T) (hr.mono (by decide)) pass0 (pa_cons (pv 3) pa_nil)) pa_nil)))))))))))), ?_⟩
    obtain ⟨va, vl, vr, vm, a, l, r, m, rfl, ra, rl, rr, rm, sm, ro, q⟩ := h
    refine ⟨va, rfl, va, a, rfl, ra, sm.1, fun H1 s1 => ⟨_, rfl, ?_⟩⟩
    cases hb : alphaD a with
    | false =>
      have e : dueD a l r m = .tuple [.str "alphabet", .str a.shown] := by unfold dueD pairDue; rw [if_neg (by rw [hb]; exact Bool.false_ne_true)]
      rw [e] at q
      have hR := ro hb
      refine iteT ⟨va, rfl, va, a, rfl, (ra.same s1).dp hR.nd, hR.sh, hR.nd, hR.dp, hR.sz, (by show 2 ≤ sizeLine; decide), fun t ht => ?_⟩
      exact q _ _ (s1.trans (same_upd ht)) (.tup upd_same (.cons (.str _) (.cons (.str _) .nil)))
    | true =>
      refine iteF ?_
      obtain ⟨z, rfl⟩ : ∃ z, a = .str z := by
        cases a <;> first | exact ⟨_, rfl⟩ | (exact Bool.noConfusion hb)
      cases ra
      have hz1 : z.length ≤ 100000 := sm.1 z rfl
      have edue := pairDue_ok (l := l) (r := r) (m := m) hb
      refine ⟨vl, rfl, (by show 2 ≤ sizeLine; decide), fun t1 ht1 => ⟨vr, rfl, (by show 2 ≤ sizeLine; decide), fun t2 ht2 => ⟨(by show 2 ≤ sizeLine; decide), fun L hL => ?_⟩⟩⟩
      have sT1 := same_upd (o := .tup [.str "left", vl]) ht1
      have sT2 := same_upd (o := .tup [.str "right", vr]) ht2
      have sL := same_upd (o := .lst [.ref t1, .ref t2]) hL
      have hl1 := sL _ _ (sT2 _ _ (upd_same (H := H1) (a := t1) (o := .tup [.str "left", vl])))
      have hl2 := sL _ _ (upd_same (H := upd H1 t1 (.tup [.str "left", vl])) (a := t2) (o := .tup [.str "right", vr]))
      have hLL := upd_same (H := upd (upd H1 t1 (.tup [.str "left", vl])) t2 (.tup [.str "right", vr])) (a := L) (o := .lst [.ref t1, .ref t2])
      have sAll : Same H (upd (upd (upd H1 t1 (.tup [.str "left", vl])) t2 (.tup [.str "right", vr])) L (.lst [.ref t1, .ref t2])) := s1.trans (sT1.trans (sT2.trans sL))
      generalize upd (upd (upd H1 t1 (.tup [.str "left", vl])) t2 (.tup [.str "right", vr])) L (.lst [.ref t1, .ref t2]) = Hc at hl1 hl2 hLL sAll ⊢
      refine ⟨L, rfl, ⟨_, SqL.of hLL⟩, ?_⟩
      refine for_it (walk_list (xs := [.ref t1, .ref t2])) (fun i σ H2 => ∃ (v4 v5 v6 : Option V), σ = [some (.str z), some vl, some vr, some vm, v4, v5, v6] ∧ Same Hc H2 ∧ (1 ≤ i → readerDue z.length l = none) ∧ (2 ≤ i → readerDue z.length r = none))
        ⟨none, none, none, rfl, Same.refl _, fun h => absurd h (by decide), fun h => absurd h (by decide)⟩ (fun i σ H2 _ ⟨_, _, _, _, s3, _⟩ => SqL.of (s3 _ _ hLL)) ?_ ?_
      · rintro i x σ H2 H3 hi ⟨v4, v5, v6, rfl, s3, n1, n2⟩ ⟨eH, hx⟩
        replace eH := eH.symm
        subst eH
        have sH2 : Same H H2 := sAll.trans s3
        rcases two_at hx with ⟨rfl, rfl⟩ | ⟨rfl, rfl⟩
        · refine ⟨t1, _, rfl, SqT.of (s3 _ _ hl1), rfl, _, _, rfl, _, _, rfl, rfl, vl, rfl, .str z, rfl, _, _, rfl, lenV_str hz1, vl, z.length, l, rfl, rl.same sH2, sm.2.1, fun H5 s5 => ?_⟩
          cases hd : readerDue z.length l with
          | none =>
            refine ⟨_, rfl, rfl, _, rfl, ?_⟩
            exact iteF ⟨_, _, _, rfl, s3.trans s5, fun _ => rfl, fun h => absurd h (by decide)⟩
          | some k =>
            have hk := reprOk_int (readerDue_lt hd)
            refine ⟨_, rfl, rfl, _, rfl, ?_⟩
            refine iteT ⟨_, rfl, .int k, rfl, .int k, .int k, rfl, .int k, hk.sh, hk.nd, hk.dp, hk.sz, (by show 3 ≤ sizeLine; decide), fun t ht => ?_⟩
            have e : dueD (.str z) l r m = .tuple [.str "reader", .str "left", .str (PyData.int k).shown] := by unfold dueD; rw [edue, hd]
            rw [e] at q
            exact q _ _ (sH2.trans (s5.trans (same_upd ht))) (.tup upd_same (.cons (.str _) (.cons (.str _) (.cons (.str _) .nil))))
        · have h1 := n1 (Nat.le_refl _)
          refine ⟨t2, _, rfl, SqT.of (s3 _ _ hl2), rfl, _, _, rfl, _, _, rfl, rfl, vr, rfl, .str z, rfl, _, _, rfl, lenV_str hz1, vr, z.length, r, rfl, rr.same sH2, sm.2.2.1, fun H5 s5 => ?_⟩
          cases hd : readerDue z.length r with
          | none =>
            refine ⟨_, rfl, rfl, _, rfl, ?_⟩
            exact iteF ⟨_, _, _, rfl, s3.trans s5, fun _ => h1, fun _ => rfl⟩
          | some k =>
            have hk := reprOk_int (readerDue_lt hd)
            refine ⟨_, rfl, rfl, _, rfl, ?_⟩
            refine iteT ⟨_, rfl, .int k, rfl, .int k, .int k, rfl, .int k, hk.sh, hk.nd, hk.dp, hk.sz, (by show 3 ≤ sizeLine; decide), fun t ht => ?_⟩
            have e : dueD (.str z) l r m = .tuple [.str "reader", .str "right", .str (PyData.int k).shown] := by unfold dueD; rw [edue, h1, hd]
            rw [e] at q
            exact q _ _ (sH2.trans (s5.trans (same_upd ht))) (.tup upd_same (.cons (.str _) (.cons (.str _) (.cons (.str _) .nil))))
      · rintro σ H2 ⟨v4, v5, v6, rfl, s3, n1, n2⟩
        have h1 := n1 (by show 1 ≤ 2; decide)
        have h2 := n2 (by show 2 ≤ 2; decide)
        have sH2 : Same H H2 := sAll.trans s3
        obtain ⟨dl, hdl⟩ := reader_items h1
        obtain ⟨dr, hdr⟩ := reader_items h2
        refine ⟨.str z, rfl, vl, rfl, vr, rfl, vm, rfl, z, vl, vr, vm, lenD l, lenD r, m, rfl, seqN_of (rl.same sH2) hdl, seqN_of (rr.same sH2) hdr, rm.same sH2, sm.2.2.2, fun H5 s5 => ?_⟩
        cases hd : markedDue z.cps.toList (lenD l) (lenD r) m with
        | some k =>
          have hk := reprOk_int (markedDue_lt sm.2.2.2 hd)
          refine ⟨_, rfl, rfl, _, rfl, ?_⟩
          refine iteT ⟨.int k, rfl, .int k, .int k, rfl, .int k, hk.sh, hk.nd, hk.dp, hk.sz, (by show 2 ≤ sizeLine; decide), fun t ht => ?_⟩
          have e : dueD (.str z) l r m = .tuple [.str "marked", .str (PyData.int k).shown] := by unfold dueD; rw [edue, h1, h2, hd]
          rw [e] at q
          exact q _ _ (sH2.trans (s5.trans (same_upd ht))) (.tup upd_same (.cons (.str _) (.cons (.str _) .nil)))
        | none =>
          refine ⟨_, rfl, rfl, _, rfl, ?_⟩
          refine iteF ?_
          have e : dueD (.str z) l r m = .tuple [.str "pair", .str z, keptD l, keptD r, keptD m] := by unfold dueD; rw [edue, h1, h2, hd]
          rw [e] at q
          have sH5 := sH2.trans s5
          refine ⟨.str z, rfl, vl, rfl, vl, l, rfl, rl.same sH5, (deep_reader h1 sm.2.1).1, fun H6 r6 s6 d6 => ?_⟩
          refine ⟨vr, rfl, vr, r, rfl, rr.same (sH5.trans s6), (deep_reader h2 sm.2.2.1).1, fun H7 r7 s7 d7 => ?_⟩
          refine ⟨vm, rfl, vm, m, rfl, rm.same (sH5.trans (s6.trans s7)), deep_marked hd sm.2.2.2, fun H8 r8 s8 d8 => ?_⟩
          refine ⟨(by show 5 ≤ sizeLine; decide), fun t ht => ?_⟩
          have s9 := same_upd (o := .tup [.str "pair", .str z, r6, r7, r8]) ht
          exact q _ _ (sH5.trans (s6.trans (s7.trans (s8.trans s9)))) (.tup upd_same (.cons (.str _) (.cons (.str _) (.cons (d6.tups (Same.tups (s7.trans (s8.trans s9)))) (.cons (d7.tups (Same.tups (s8.trans s9))) (.cons (d8.tups (Same.tups s9)) .nil))))))
end
end Kx
set_option Elab.async false
set_option linter.all false
set_option maxRecDepth 100000
set_option maxHeartbeats 2000000
namespace Kx
open PySem PySem.Spec PyProof.Rows L2
/-! ### the source of draws: a list of three ints, changed by each draw -/
def three (A S C : Int) : HO := .lst [.int A, .int S, .int C]
def SrcAt (H : Hp) (a : Addr) : Prop := ∃ A S C : Int, H a = some (three A S C)
theorem rIxL_of {K : PySem.W.Frag} {H : Hp} {a : Addr} {xs : List V} {i : Nat} {v : V} {Q : VK} (h : H a = some (.lst xs)) (e : xs[i]? = some v) (q : Q v H) : rIxL K (.ref a) (.int (i : Nat)) H Q :=
  ⟨a, xs, _, v, rfl, rfl, SqL.of h, atI_nat e, q⟩
theorem set3 {H : Hp} {a : Addr} {A S C x : Int} {i : Nat} {Q : Hp → Prop} (h : H a = some (three A S C)) (hi : i < 3) (q : Q (upd H a (.lst ([V.int A, .int S, .int C].set i (.int x))))) : rSetL (.ref a) (.int (i : Nat)) (.int x) H Q := by
  refine ⟨a, _, (i : Nat), i, rfl, rfl, h, ?_, q⟩
  match i, hi with
  | 0, _ => rfl
  | 1, _ => rfl
  | 2, _ => rfl
section
variable {P : Program} {w : World} {K : PySem.W.Frag} {mg : Str → Option Value} {base : Heap}
def sp_law_pick : Sp := fun vs H Q _ => ∃ (a : Addr) (m : Int), vs = [.ref a, .int m] ∧ 0 < m ∧ m < 1073741824 ∧ SrcAt H a ∧ ∀ (A S C d : Int), 0 ≤ d → d < m → Q (.int d) (upd H a (three A S C))
theorem upd_upd {H : Hp} {a : Addr} {o o' : HO} : upd (upd H a o) a o' = upd H a o' := by
  funext b
  by_cases hb : b = a
  · subst hb; rw [upd_same, upd_same]
  · rw [upd_ne hb, upd_ne hb, upd_ne hb]
theorem ok_law_pick (T : Txt K mg) : Cal P w K mg base CX0 1 "_law_pick" ["_law_source_here", "_law_many"] sp_law_pick := by
  obtain ⟨fd, F⟩ := F__law_pick T
  refine cal_mk F (g__law_pick T) sc__law_pick (fun _ _ _ _ _ _ us hl => match us, hl with | [_, _], _ => rfl) (fun vs H Q E h => ?_) (fun cdv A outer s H vs Q E hr h => ?_)
  · obtain ⟨a, m, rfl, _⟩ := h; rfl
  · refine ⟨_, PSs.nox (pss_cons (ps_if (pt_cmpR op_gt (pe_ix ix_list (pv 0) pe_int (fun _ _ => rfl)) pe_int (nomark _))
        (pss_cons (ps_set (i := 2) sc__law_pick.nd rfl (Or.inl rfl) (pe_op op_mod (pe_callTy call_int1 (by rfl) (fr_int T) b_int (pa_cons (pe_ix ix_list (pv 0) pe_int (fun _ _ => rfl)) pa_nil)) (pv 1)))
        (pss_cons (ps_asg (pe_op op_fdiv (pe_ix ix_list (pv 0) pe_int (fun _ _ => rfl)) (pv 1)) (pg_sub (pv 0) pe_int set_list))
        (pss_one (ps_ret (pv 2))))) pss_nil)
      (pss_cons (ps_asg (pe_op op_add (pe_ix ix_list (pv 0) pe_int (fun _ _ => rfl)) pe_int) (pg_sub (pv 0) pe_int set_list))
      (pss_cons (ps_set (i := 3) sc__law_pick.nd rfl (Or.inl rfl) (pe_op op_mod (pe_callTy call_int1 (by rfl) (fr_int T) b_int (pa_cons (pe_op op_mul (pe_op op_add (pe_ix ix_list (pv 0) pe_int (fun _ _ => rfl)) (pe_op op_mul pe_int (pe_ix ix_list (pv 0) pe_int (fun _ _ => rfl)))) pe_int) pa_nil)) pe_int))
      (pss_cons (ps_set (i := 3) sc__law_pick.nd rfl (Or.inl rfl) (pe_op op_mod (pe_callTy call_int1 (by rfl) (fr_int T) b_int (pa_cons (pe_op op_add (pe_op op_add (pe_op op_mul (pv 3) (pv 3)) (pe_op op_mul pe_int (pe_ix ix_list (pv 0) pe_int (fun _ _ => rfl)))) (pe_ix ix_list (pv 0) pe_int (fun _ _ => rfl))) pa_nil)) pe_int))
      (pss_cons (ps_set (i := 3) sc__law_pick.nd rfl (Or.inl rfl) (pe_op op_mod (pe_callTy call_int1 (by rfl) (fr_int T) b_int (pa_cons (pe_op op_add (pe_op op_mul (pv 3) pe_int) pe_int) pa_nil)) pe_int))
      (pss_cons (ps_set (i := 3) sc__law_pick.nd rfl (Or.inl rfl) (pe_op op_mod (pe_callTy call_int1 (by rfl) (fr_int T) b_int (pa_cons (pe_op op_add (pe_op op_mul (pv 3) (pv 3)) (pv 3)) pa_nil)) pe_int))
      (pss_one (ps_ret (pe_op op_mod (pe_callTy call_int1 (by rfl) (fr_int T) b_int (pa_cons (pe_op op_fdiv (pv 3) pe_int) pa_nil)) (pv 1)))))))))), ?_⟩
    obtain ⟨a, m, rfl, hm0, hm1, ⟨A0, S0, C0, hs⟩, q⟩ := h
    have hs' : H a = some (.lst [.int A0, .int S0, .int C0]) := hs
    refine ⟨.ref a, rfl, a, _, _, _, rfl, rfl, SqL.of hs', rfl, A0, 0, rfl, rfl, _, rfl, ?_⟩
    by_cases hA : (0 : Int) < A0
    · rw [decide_eq_true hA]
      refine iteT ⟨.ref a, rfl, a, _, _, _, rfl, rfl, SqL.of hs', rfl, .inl ⟨A0, rfl, .int m, rfl, A0, m, rfl, rfl, hm0, ?_⟩⟩
      refine ⟨.ref a, rfl, a, _, _, _, rfl, rfl, SqL.of hs', rfl, .int m, rfl, A0, m, rfl, rfl, ⟨hm0, hm1⟩, .ref a, rfl, a, _, _, 0, rfl, rfl, hs', rfl, ?_⟩
      exact ⟨.int (A0 % m), rfl, q (A0 / m) S0 C0 (A0 % m) (Int.emod_nonneg _ (by omega)) (Int.emod_lt_of_pos _ hm0)⟩
    · rw [decide_eq_false hA]
      refine iteF ?_
      refine ⟨.ref a, rfl, a, _, _, _, rfl, rfl, SqL.of hs', rfl, C0, 1, rfl, rfl, .ref a, rfl, a, _, _, 2, rfl, rfl, hs', rfl, ?_⟩
      have h2 : upd H a (.lst [.int A0, .int S0, .int (C0 + 1)]) a = some (.lst [.int A0, .int S0, .int (C0 + 1)]) := upd_same
      have hq := q A0 S0 (C0 + 1)
      have e3 : upd H a (.lst ([V.int A0, V.int S0, V.int C0].set 2 (.int (C0 + 1)))) = upd H a (three A0 S0 (C0 + 1)) := rfl
      rw [e3]
      have h3 : upd H a (three A0 S0 (C0 + 1)) a = some (.lst [.int A0, .int S0, .int (C0 + 1)]) := upd_same
      generalize upd H a (three A0 S0 (C0 + 1)) = H3 at h3 hq ⊢
      have sm : ∀ x n : Int, 0 < n → n < 2 ^ 40 → -(2 ^ 64) < x % n ∧ x % n < 2 ^ 64 := fun x n h1 h2 => by
        have e1 := Int.emod_nonneg x (Int.ne_of_gt h1)
        have e2 := Int.emod_lt_of_pos x h1
        omega
      refine ⟨.ref a, rfl, a, _, _, _, rfl, rfl, SqL.of h3, rfl, .ref a, rfl, a, _, _, _, rfl, rfl, SqL.of h3, rfl, 7919, C0 + 1, rfl, rfl, .inl (by omega), S0, _, rfl, rfl, _, 48271, rfl, rfl, .inr (by omega), .inl ⟨_, rfl, _, 2147483647, rfl, rfl, by omega, ?_⟩⟩
      generalize (S0 + 7919 * (C0 + 1)) * 48271 = x1
      refine ⟨_, rfl, _, rfl, _, _, rfl, rfl, .inl (sm x1 2147483647 (by omega) (by omega)), .ref a, rfl, a, _, _, _, rfl, rfl, SqL.of h3, rfl, 69621, C0 + 1, rfl, rfl, .inl (by omega), _, _, rfl, rfl, .ref a, rfl, a, _, _, _, rfl, rfl, SqL.of h3, rfl, _, S0, rfl, rfl, .inl ⟨_, rfl, _, 2147483629, rfl, rfl, by omega, ?_⟩⟩
      generalize x1 % 2147483647 * (x1 % 2147483647) + 69621 * (C0 + 1) + S0 = x2
      refine ⟨_, rfl, _, 16807, rfl, rfl, .inr (by omega), _, 11, rfl, rfl, .inl ⟨_, rfl, _, 2147483647, rfl, rfl, by omega, ?_⟩⟩
      generalize x2 % 2147483629 * 16807 + 11 = x3
      refine ⟨_, rfl, _, rfl, _, _, rfl, rfl, .inl (sm x3 2147483647 (by omega) (by omega)), _, rfl, _, _, rfl, rfl, .inl ⟨_, rfl, _, 2147483587, rfl, rfl, by omega, ?_⟩⟩
      generalize x3 % 2147483647 * (x3 % 2147483647) + x3 % 2147483647 = x4
      refine ⟨_, rfl, _, 3, rfl, rfl, ⟨by omega, by omega⟩, .inl ⟨_, rfl, .int m, rfl, _, m, rfl, rfl, hm0, ?_⟩⟩
      exact hq _ (Int.emod_nonneg _ (by omega)) (Int.emod_lt_of_pos _ hm0)
end
end Kx
set_option Elab.async false
set_option linter.all false
set_option maxRecDepth 100000
set_option maxHeartbeats 2000000
namespace Kx
open PySem PySem.Spec PyProof.Rows L2
/-! ### what draws leave: the source is a source, all else stands -/
structure Fra (a : Addr) (H H' : Hp) : Prop where
  src : SrcAt H' a
  sm : Same (del H a) (del H' a)
theorem same_del {H H' : Hp} (a : Addr) (s : Same H H') : Same (del H a) (del H' a) := fun b o e => by
  by_cases hb : b = a
  · subst hb; rw [del_same] at e; cases e
  · rw [del_ne hb] at e ⊢; exact s b o e
theorem del_le {H : Hp} (a : Addr) : Same (del H a) H := fun b o e => by
  by_cases hb : b = a
  · subst hb; rw [del_same] at e; cases e
  · rw [del_ne hb] at e; exact e
theorem Fra.refl {a : Addr} {H : Hp} (h : SrcAt H a) : Fra a H H := ⟨h, Same.refl _⟩
theorem Fra.trans {a : Addr} {H H1 H2 : Hp} (f : Fra a H H1) (g : Fra a H1 H2) : Fra a H H2 := ⟨g.src, f.sm.trans g.sm⟩
theorem SrcAt.same {a : Addr} {H H' : Hp} (h : SrcAt H a) (s : Same H H') : SrcAt H' a := by
  obtain ⟨A, S, C, e⟩ := h
  exact ⟨A, S, C, s _ _ e⟩
theorem Fra.same {a : Addr} {H H' : Hp} (h : SrcAt H a) (s : Same H H') : Fra a H H' := ⟨h.same s, same_del a s⟩
theorem Fra.drawn {a : Addr} {H : Hp} (A S C : Int) : Fra a H (upd H a (three A S C)) := ⟨⟨A, S, C, upd_same⟩, fun b o e => by
  by_cases hb : b = a
  · subst hb; rw [del_same] at e; cases e
  · rw [del_ne hb] at e ⊢; rw [upd_ne hb]; exact e⟩
/-- what is seen beside the source stands there behind it -/
theorem Fra.up {a : Addr} {H H' : Hp} (f : Fra a H H') : Same (del H a) H' := f.sm.trans (del_le a)
section
variable {P : Program} {w : World} {K : PySem.W.Frag} {mg : Str → Option Value} {base : Heap}
/-- a draw, told with its frame -/
theorem pick_r {H : Hp} {a : Addr} {m : Int} {Q : VK} {E : XK} (hs : SrcAt H a) (h0 : 0 < m) (h1 : m < 1073741824) (q : ∀ H' d, Fra a H H' → 0 ≤ d → d < m → Q (.int d) H') : sp_law_pick [.ref a, .int m] H Q E :=
  ⟨a, m, rfl, h0, h1, hs, fun A S C d h2 h3 => q _ d (Fra.drawn A S C) h2 h3⟩
/-! ### _law_alphabet -/
def menuA : List Str := ["ab", "ab", "ab", "ab", "bd", "ac", "abc", "abc", "aeh", "a", "abcd", "bcfg"]
def sp_law_alphabet : Sp := fun vs H Q _ => ∃ a : Addr, vs = [.ref a] ∧ SrcAt H a ∧ ∀ H' z, z ∈ menuA → Fra a H H' → Q (.str z) H'
theorem ok_law_alphabet (T : Txt K mg) : Cal P w K mg base CX0 2 "_law_alphabet" ["_law_source_here"] sp_law_alphabet := by
  obtain ⟨fd, F⟩ := F__law_alphabet T
  refine cal_mk F (g__law_alphabet T) sc__law_alphabet (fun _ _ _ _ _ _ us hl => match us, hl with | [_], _ => rfl) (fun vs H Q E h => ?_) (fun cdv A outer s H vs Q E hr h => ?_)
  · obtain ⟨a, rfl, _⟩ := h; rfl
  · refine ⟨_, PSs.nox (pss_cons (ps_set (i := 1) sc__law_alphabet.nd rfl (Or.inl rfl) (pe_lst (pa_cons pe_str (pa_cons pe_str (pa_cons pe_str (pa_cons pe_str (pa_cons pe_str (pa_cons pe_str (pa_cons pe_str (pa_cons pe_str (pa_cons pe_str (pa_cons pe_str (pa_cons pe_str (pa_cons pe_str pa_nil))))))))))))))
      (pss_one (ps_ret (pe_ix ix_list (pv 1) (pe_cal (ok_law_pick T) hr pass0 (pa_cons (pv 0) (pa_cons (pe_callB call_len (by rfl) (fr_len T) boot_len (pa_cons (pv 1) pa_nil)) pa_nil))) (fun _ _ => rfl))))), ?_⟩
    obtain ⟨a, rfl, hs, q⟩ := h
    refine ⟨(by show 12 ≤ sizeLine; decide), fun L hL => ?_⟩
    have sL := same_upd (o := .lst (menuA.map V.str)) hL
    have hLL : upd H L (.lst (menuA.map V.str)) L = some (.lst (menuA.map V.str)) := upd_same
    have hs1 := hs.same sL
    have hna : L ≠ a := fun z => by
      obtain ⟨A, S, C, e⟩ := hs
      rw [← z, hL] at e
      cases e
    have f1 := Fra.same hs sL
    refine ⟨.ref L, rfl, .ref a, rfl, .ref L, rfl, _, 12, rfl, .inl ⟨_, SqL.of hLL, rfl⟩, a, 12, rfl, (by decide), (by decide), hs1, fun A1 S1 C1 d h2 h3 => ?_⟩
    have f2 : Fra a (upd H L (.lst (menuA.map V.str))) (upd (upd H L (.lst (menuA.map V.str))) a (three A1 S1 C1)) := Fra.drawn A1 S1 C1
    have hL2 : upd (upd H L (.lst (menuA.map V.str))) a (three A1 S1 C1) L = some (.lst (menuA.map V.str)) := f2.up L _ (by rw [del_ne hna]; exact hLL)
    obtain ⟨n, rfl⟩ := Int.eq_ofNat_of_zero_le h2
    have hn : n < menuA.length := by have : ((n : Nat) : Int) < 12 := h3; show n < 12; omega
    show ∃ p xs i v, _
    refine ⟨L, _, _, .str menuA[n], rfl, rfl, SqL.of hL2, atI_nat (by rw [List.getElem?_map, List.getElem?_eq_getElem hn]; rfl), q _ _ (List.getElem_mem hn) (f1.trans f2)⟩
end
end Kx
set_option Elab.async false
set_option linter.all false
set_option maxRecDepth 100000
set_option maxHeartbeats 2000000
namespace Kx
open PySem PySem.Spec PyProof.Rows L2 PySem.Calls HotX
/-! ### walks that end while an exception is handled (its context None) -/
section
variable {prog : Program} {w : World} {A : Around} {E : Value → Shared → Prop} {s : Shared}
theorem list_end_hot {it l x1 : Addr} {i : Nat} {items : Array Value} {Q : Option Value → Shared → Prop} (hot : HotAt A x1 s.heap) (hit : s.heap.IsListIter it l i) (hl : s.heap.IsList l items) (hx : items[i]? = none)
    (hQ : ∀ h', Heap.ExtBut it s.heap h' → Q none { s with heap := h' }) : wpAny (model prog w) A (pyNext (.ref it)) Q E s := by
  have ty := hit.typeIs
  obtain ⟨hh, o1, vs1, e1, d1, c1⟩ := hot
  obtain ⟨oi, hi, ci, di⟩ := hit
  obtain ⟨ol, hol, _, nl, hdl⟩ := hl
  have hne : x1 ≠ it := fun z => by
    rw [z, hi] at e1
    cases e1
    rw [di] at d1
    cases d1
    simp at c1
  unfold pyNext
  refine wpAny_bind (wpAny_attempt (wpAny_callSpecial?_slot (name := Str.ofString "__next__") ty slot_listiter_next (wpAny_call_entry slot_listiter_next ty entry_listiter_next ?_ (args_listiter_next _))))
  show wpAny _ _ (field (.ref it) 0 >>= _) _ _ s
  refine wpAny_bind (wpAny_field hi di (x := .ref l) rfl ?_)
  show wpAny _ _ (if (Value.ref l == Value.none) = true then _ else _) _ _ s
  rw [if_neg (show ¬ ((Value.ref l == Value.none) = true) from Bool.false_ne_true)]
  show wpAny _ _ (field (.ref it) 1 >>= _) _ _ s
  refine wpAny_bind (wpAny_field hi di (x := .int i 0) rfl (wpAny_bind (wpAny_seqItems hol hdl ?_)))
  simp only [Int.toNat_natCast, hx]
  refine wpAny_bind (wpAny_rule (wpAny_bind (wpAny_setField hi di (by simp) ?_)))
  show wpAny _ _ (newExc (.type "StopIteration") [] >>= _) _ _ _
  refine wpAny_bind ?_
  simp only [newExc, newTuple]
  refine wpAny_bind (wpAny_newObj_type ?_ (by size_fits))
  refine wpAny_bind (m := firstArgMember _ _) (wpAny_of_eq (a := Value.none) (by first | rfl | (simp only [firstArgMember]; rfl)) (wpAny_newObj_type ?_ (by size_fits)))
  have up := Heap.get?_update_of_ne (h := s.heap) (a := it) (b := x1) (Obj.mapFields fun x => x.setIfInBounds 0 Value.none) (Ne.symm hne) e1
  refine raiseNew_hot ⟨hh, o1, vs1, Heap.get?_push_of_some _ (Heap.get?_push_of_some _ up), d1, c1⟩ (Nat.ne_of_lt (Heap.lt_size (Heap.get?_push_of_some _ up))) (Heap.get?_push_size _ rfl) rfl (by first | (simp; done) | (simp; omega) | (simp only [Array.size_append]; simp; omega)) ?_
  refine wpAny_bind (wpAny_isInstance (T := "StopIteration") (b := true) ⟨_, Heap.get?_update_self _ (Heap.get?_push_size _ rfl) rfl, rfl⟩ isSubtype_stop (wpAny_pure (hQ _ fun b o hb e => ?_)))
  have ub := Heap.get?_update_of_ne (h := s.heap) (a := it) (b := b) (Obj.mapFields fun x => x.setIfInBounds 0 Value.none) (Ne.symm hb) e
  rw [Heap.get?_update_other _ _ (Nat.ne_of_gt (Heap.lt_size (Heap.get?_push_of_some _ ub)))]
  exact Heap.get?_push_of_some _ (Heap.get?_push_of_some _ ub)
theorem tup_end_hot {it l x1 : Addr} {i : Nat} {items : Array Value} {Q : Option Value → Shared → Prop} (hot : HotAt A x1 s.heap) (hit : IsTupIter s.heap it l i) (hl : IsTup s.heap l items) (hx : items[i]? = none)
    (hQ : ∀ h', Heap.ExtBut it s.heap h' → Q none { s with heap := h' }) : wpAny (model prog w) A (pyNext (.ref it)) Q E s := by
  have ty := hit.typeIs
  obtain ⟨hh, o1, vs1, e1, d1, c1⟩ := hot
  obtain ⟨oi, hi, ci, di⟩ := hit
  obtain ⟨ol, hol, _, nl, hdl⟩ := hl
  have hne : x1 ≠ it := fun z => by
    rw [z, hi] at e1
    cases e1
    rw [di] at d1
    cases d1
    simp at c1
  unfold pyNext
  refine wpAny_bind (wpAny_attempt (wpAny_callSpecial?_slot (name := Str.ofString "__next__") ty slot_tupleiter_next (wpAny_call_entry slot_tupleiter_next ty entry_tupleiter_next ?_ (args_tupleiter_next _))))
  show wpAny _ _ (field (.ref it) 0 >>= _) _ _ s
  refine wpAny_bind (wpAny_field hi di (x := .ref l) rfl ?_)
  show wpAny _ _ (if (Value.ref l == Value.none) = true then _ else _) _ _ s
  rw [if_neg (show ¬ ((Value.ref l == Value.none) = true) from Bool.false_ne_true)]
  show wpAny _ _ (field (.ref it) 1 >>= _) _ _ s
  refine wpAny_bind (wpAny_field hi di (x := .int i 0) rfl (wpAny_bind (wpAny_seqItems hol hdl ?_)))
  simp only [Int.toNat_natCast, hx]
  refine wpAny_bind (wpAny_rule (wpAny_bind (wpAny_setField hi di (by simp) ?_)))
  show wpAny _ _ (newExc (.type "StopIteration") [] >>= _) _ _ _
  refine wpAny_bind ?_
  simp only [newExc, newTuple]
  refine wpAny_bind (wpAny_newObj_type ?_ (by size_fits))
  refine wpAny_bind (m := firstArgMember _ _) (wpAny_of_eq (a := Value.none) (by first | rfl | (simp only [firstArgMember]; rfl)) (wpAny_newObj_type ?_ (by size_fits)))
  have up := Heap.get?_update_of_ne (h := s.heap) (a := it) (b := x1) (Obj.mapFields fun x => x.setIfInBounds 0 Value.none) (Ne.symm hne) e1
  refine raiseNew_hot ⟨hh, o1, vs1, Heap.get?_push_of_some _ (Heap.get?_push_of_some _ up), d1, c1⟩ (Nat.ne_of_lt (Heap.lt_size (Heap.get?_push_of_some _ up))) (Heap.get?_push_size _ rfl) rfl (by first | (simp; done) | (simp; omega) | (simp only [Array.size_append]; simp; omega)) ?_
  refine wpAny_bind (wpAny_isInstance (T := "StopIteration") (b := true) ⟨_, Heap.get?_update_self _ (Heap.get?_push_size _ rfl) rfl, rfl⟩ isSubtype_stop (wpAny_pure (hQ _ fun b o hb e => ?_)))
  have ub := Heap.get?_update_of_ne (h := s.heap) (a := it) (b := b) (Obj.mapFields fun x => x.setIfInBounds 0 Value.none) (Ne.symm hb) e
  rw [Heap.get?_update_other _ _ (Nat.ne_of_gt (Heap.lt_size (Heap.get?_push_of_some _ ub)))]
  exact Heap.get?_push_of_some _ (Heap.get?_push_of_some _ ub)
theorem unpack_hot {t x1 : Addr} {items : Array Value} {targets : List (Bool × (Value → Sem Unit))} {Q : Unit → Shared → Prop} (hot : HotAt A x1 s.heap) (ht : IsTup s.heap t items) (hn : targets.length = items.size) (hstar : targets.findIdx? (·.1) = none)
    (h : ∀ h', Heap.ExtBut s.heap.objs.size s.heap h' → wpAny (model prog w) A (assignInOrder (targets.map (·.2)) items.toList) Q E { s with heap := h' }) : wpAny (model prog w) A (unpack (.ref t) targets) Q E s := by
  have hlt : t ≠ s.heap.objs.size := by
    obtain ⟨o, ho, _⟩ := ht
    exact Nat.ne_of_lt (Heap.lt_size ho)
  unfold unpack
  rw [hn, hstar]
  refine wpAny_bind (wpAny_holding ?_)
  unfold unpackItems
  refine wpAny_bind ?_
  unfold notIterableAtAll
  refine wpAny_bind (wpAny_specialOf ht.typeIs slot_tuple_iter.lookup (wpAny_pure ?_))
  simp only [Bool.false_eq_true, if_false]
  refine wpAny_bind (wpAny_holding (iter_tuple ht ?_))
  refine wpAny_bind (wpAny_holding (draw_tuple hlt items.size 0 _ _ ⟨_, Heap.get?_push_size _ rfl, rfl, rfl⟩ (ht.push _) (by omega) fun h1 i1 b1 => ?_))
  have all : List.take items.size (List.drop 0 items.toList) = items.toList := by
    rw [List.drop_zero]
    exact List.take_of_length_le (by simp)
  rw [all, if_neg (by simp)]
  obtain ⟨hh, o1, vs1, e1, d1, c1⟩ := hot
  have e2 : h1.get? x1 = some o1 := b1.extBut x1 o1 (Nat.ne_of_lt (Heap.lt_size e1)) (Heap.get?_push_of_some _ e1)
  refine wpAny_bind (wpAny_holding (tup_end_hot (s := { s with heap := h1 }) ⟨hh, o1, vs1, e2, d1, c1⟩ i1 ((ht.push _).extBut b1.extBut hlt) (by simp) fun h2 b2 => ?_))
  simp only [Option.isSome_none, Bool.false_eq_true, if_false]
  exact wpAny_pure (h h2 fun b o hb e => b2 b o hb (b1.extBut b o hb (Heap.get?_push_of_some _ e)))
end
section
variable {X : Cx}
/-- (a, b, ..) = a tuple, there -/
theorem pg_tupH {pos : Pos} {es : List Expr} {k : Nat} {t : TGs} {n : Nat} (hc : L2H.HotC X) (h : PGs X es t)
    (hn : (assignEach es X.env).length = n := by rfl) (hst : (assignEach es X.env).findIdx? (·.1) = none := by rfl) : PG X (.Tuple es k pos) (gTup X.K n t) := by
  constructor
  rintro pins s σ H v u Q I r ⟨a, xs, rfl, hq, hl, hw⟩
  cases r
  obtain ⟨its, rv, ht, hz⟩ := I.tuple hq
  obtain ⟨x1, hot⟩ := hc.at I
  rw [assign_Tuple]
  refine wpAny_bind (wpAny_standAt (unpack_hot hot ht (by simp [hn, ← hl, rv.length]) hst fun h' hx => ?_))
  have I1 : Inv X pins σ H { s with heap := h' } := I.kept (t' := s.toks) fun b o e => hx b o (Nat.ne_of_lt (Heap.lt_size e)) e
  exact h.run pins _ σ H xs _ Q I1 (by simpa using rv) hw
/-- a walk over a list, there -/
theorem turn_listH {P : Program} {w : World} {K : PySem.W.Frag} {tg : Expr} (a it : Addr) : L2H.TurnH P w K tg (Itl K a) [it] it (fun i h => h.IsListIter it a i) where
  mem := List.mem_singleton.mpr rfl
  obj := fun i h ⟨o, e, c, d⟩ b hb => by
    rw [List.mem_singleton.mp hb]
    exact ⟨o, e, fun v z => by rw [d] at z; cases z⟩
  keep := fun i h h' st k => st.at fun o e => k it (List.mem_singleton.mpr rfl) o e
  item := by
    rintro X rfl rfl rfl hc i pins s σ H E I hf st ⟨xs, x, hq, hx⟩
    obtain ⟨its, rv, p, hz⟩ := I.list hq
    obtain ⟨u, hu, ru⟩ := rv.get hx
    obtain ⟨f0, f1, f2, f3, f4, f5⟩ := hf it (List.mem_singleton.mpr rfl)
    refine wpAny_pyNext_list_item st p.isList (x := u) (by simpa using hu) fun h' st' sb => ?_
    have I1 : Inv X pins σ H { s with heap := h' } := I.turned (t' := s.toks) (fun b o hb e => (sb.2 b hb).trans e) f0 f1 f3 f4 f5
    obtain ⟨o, e, c, d⟩ := id st'
    exact ⟨u, rfl, go_of (s := { s with heap := h' }) e c d (by decide) ⟨x, H, I1, ru, ⟨rfl, fun ys hy => (I.list_inj hy hq).symm ▸ hx⟩, st', fun b hb => (hf b hb).1⟩⟩
  done := by
    rintro X rfl rfl rfl hc i pins s σ H E I hf st ⟨xs, hq, hx⟩
    obtain ⟨its, rv, p, hz⟩ := I.list hq
    obtain ⟨f0, f1, f2, f3, f4, f5⟩ := hf it (List.mem_singleton.mpr rfl)
    obtain ⟨x1, hot⟩ := hc.at I
    have hl := rv.length
    exact list_end_hot hot st p.isList (by simp; omega) fun h' eb => ⟨rfl, I.turned (t' := s.toks) (fun b o hb e => eb b o hb e) f0 f1 f3 f4 f5⟩
  self := fun _ _ _ _ _ st h => wpAny_pyIter_listiter st h
theorem pi_listH {tg l : Expr} {tl : TE} (hl : PE X l tl) : L2H.PIH X tg l (iList X.K tl) := by
  constructor
  intro pins s σ H R I h
  refine thn (hl.run pins s σ H _ I h) fun v s1 hh => ?_
  obtain ⟨x, H1, I1, r1, a, rfl, ⟨xs, hq⟩, q⟩ := hh
  cases r1
  obtain ⟨its, rv, p, hz⟩ := I1.list hq
  refine wpAny_pyIter_list p.isList ⟨s1.heap.objs.size, [s1.heap.objs.size], _, _, H1, rfl, I1.kept (t' := s1.toks) fun b o e => Heap.get?_push_of_some _ e, turn_listH a _, ⟨_, Heap.get?_push_size _ rfl, rfl, rfl⟩, fun b hb => ?_, q⟩
  rw [List.mem_singleton.mp hb]
  exact I1.fpOk (Nat.le_refl _) (I1.hok.fresh (Nat.le_refl _))
end
end Kx
set_option Elab.async false
set_option linter.all false
set_option maxRecDepth 100000
set_option maxHeartbeats 2000000
namespace Kx
open PySem PySem.Spec PyProof.Rows L2
/-! ### a handled exception, seen from the def that it was passed to -/
section
variable {X : Cx} {a C : Addr} {oe : Obj} {d : Option Addr} {pos : Pos}
/-- as an instance -/
theorem err_inst {pins : List (Addr × Obj)} {s : Shared} {σ : L2.St} {H : Hp} {dd : Addr} {fs : List (Str × V)} (hm : (a, oe) ∈ X.pn) (hz : Zc (.ref C) (some dd) oe) (hf : ∃ vs, oe.data = .fields vs) (I : Inv X pins σ H s) (hd : H dd = some (.xd fs)) :
    ∃ od, PySem.W.InstAt s.heap a oe C (some od) ∧ ∀ n v, fs.lookup n = some v → ∃ u, PySem.W.lookIn n od = some (some u) ∧ RelV v u := by
  obtain ⟨hget, _⟩ := I.pin (a, oe) (List.mem_append_left _ hm)
  obtain ⟨vs, hv⟩ := hf
  have hx : ObjOk X.prog X.w H s.heap dd (.xd fs) := I.hok dd _ hd
  obtain ⟨mA, hns, hr⟩ := hx
  obtain ⟨od, ho, hl⟩ := lookIn_ns hns
  refine ⟨od, ⟨hget, hz.1, by unfold PySem.W.notCls; rw [hv] <;> rfl, by rw [hz.2]; exact ho⟩, fun n v l => ?_⟩
  obtain ⟨u, hu, ru⟩ := RelO.some_of (v := v) (o := mA n) (by rw [← l]; exact hr n)
  exact ⟨u, by rw [hl, hu], ru⟩
/-- isinstance(e, D) -/
def rIsM (K : PySem.W.Frag) (C a : Addr) (d : Option Addr) : List V → Hp → VK → Prop := fun xs H Q => ∃ (D dd : Addr) (fs : List (Str × V)) (b : Bool), xs = [.ref a, .ref D] ∧ d = some dd ∧ H dd = some (.xd fs) ∧ PySem.W.kitOne K (.ref C) (.ref D) = some b ∧ Q (.bl b) H
theorem call_isM (T : XfC X.K C) (hcl : (PySem.W.clsIn X.K C).isSome = true) (hc : PySem.W.findIn X.K (.ref C) "__class__" = some (some (.builtin "object.__class__"))) (hn : PySem.W.specialIn X.K (.builtin "object.__class__") "__get__" = some (some (.builtin "getset_descriptor.__get__")))
    (ht : PySem.W.takesIn X.K (.builtin "object.__class__") = some true) (ho : PySem.W.mroIn X.K C (.type "object") = some true) (hm : (a, oe) ∈ X.pn) (hz : Zc (.ref C) d oe) (hf : ∃ vs, oe.data = .fields vs) : CallR X (.builtin "isinstance") (rIsM X.K C a d) := by
  rintro pins s σ H xs us Q I r ⟨D, dd, fs, b, rfl, rfl, hd, e, q⟩
  obtain ⟨u1, u2, rfl, r1, r2⟩ := vals2 r
  cases r1
  cases r2
  obtain ⟨od, J, _⟩ := err_inst hm hz hf I hd
  exact PySem.W.kia_one (PySem.W.kitx_exc hcl T.ga T.gg T.exC hc hn ht ho) I.kIn J e (fun z => nomatch z) fun tk => ⟨.bl b, H, I.kept (t' := tk) fun _ _ z => z, rfl, q⟩
/-- e.f -/
theorem pe_xfM {e : Expr} {te : TE} {n : Str} {cls : Value} (T : XfC X.K C) (hno : PySem.W.findIn X.K (.ref C) n = some none) (hm : (a, oe) ∈ X.pn) (hz : Zc cls d oe) (hf : ∃ vs, oe.data = .fields vs) (he : PE X e te)
    (hb : attributeBase e n X.env (eval e X.env) = eval e X.env := by rfl) : PE X (.Attribute e n pos) (tXf a cls d C n te) := by
  constructor
  intro pins s σ H Q I h
  refine attr_of hb (thn (he.run pins s σ H _ I h) fun u s1 hh => ?_)
  obtain ⟨x, H1, I1, rx, rfl, rfl, dd, fs, v, rfl, ea, l, q⟩ := hh
  obtain rfl : u = Value.ref a := rx
  obtain ⟨od, J, hl⟩ := err_inst hm hz hf I1 ea
  obtain ⟨u, hu, ru⟩ := hl n v l
  exact PySem.HandSPX.exc_get I1.kIn J T.ga T.gg T.exC (PySem.W.findObj_own T.hdC hno rfl hu) (handed_of ru) ⟨v, H1, I1.tok _, ru, q⟩
end
/-! ### defs that are passed the handled exception, where no repr is under way -/
structure FnHG (P : Program) (w : World) (K : PySem.W.Frag) (mg : Str → Option Value) (base : Heap) (CX : CXT) (k : Nat) (f : Addr) (fd : FuncData) (ps : List Str) (sp : Addr × Obj → Sp) : Prop where
  len : ∀ p vs H Q E, sp p vs H Q E → vs.length = ps.length
  run : ∀ (A : Around) (outer : List Env) (s : Shared) (H : Hp) (args : Args) (us : List Value) (vs : List V) (Q : VK) (E : XK) (p : Addr × Obj), A.guards = some [] → L2H.RoomH k A → L2H.Hot1 A p → L2H.PinOk outer H s p → Env0 P w K mg base A outer s H →
    BindsTo s fd args (ps.zip us) → Vals vs us → sp p vs H Q E → codeAny (model P w) A (.call (.ref f) args) (CR CX outer P w H s Q E) s
theorem fnHG_mk {P : Program} {w : World} {K : PySem.W.Frag} {mg : Str → Option Value} {base : Heap} {CX : CXT} {x q : Str} {st : Stmt} {f : Addr} {fd : FuncData} {N ps : List Str} {k : Nat} {sp : Addr × Obj → Sp} (F : FnP K x q st f fd) (S : FnScope N ps (defScope st))
    (len : ∀ p vs H Q E, sp p vs H Q E → vs.length = ps.length)
    (hbody : ∀ (cdv : Value) (A : Around) (outer : List Env) (s : Shared) (H : Hp) (vs : List V) (Q : VK) (E : XK) (p : Addr × Obj), A.guards = some [] → L2H.Hot1 A p → L2H.RoomH k (A.deeper (envOfC q (defScope st) s.heap.objs.size f cdv)) → sp p vs H Q E →
      ∃ t, PSs (L2H.cxH CX P w K mg base N q (defScope st) f cdv A outer s H E p) (defBody st) t ∧ t { nx := fun _ H' => Q .non H', rt := Q } (start N vs) H) : FnHG P w K mg base CX (k + 1) f fd ps sp := by
  obtain ⟨oc, od, dV, kV, doc, pm, an, cdv, ct, osl, rfl, lk, hcd, _, _⟩ := F.ex
  refine ⟨len, fun A outer s H args us vs Q E p hg hr hot hpin e0 hb r hsp => ?_⟩
  have hl := len _ _ _ _ _ hsp
  have up : ∀ b o, base.get? b = some o → s.heap.get? b = some o := fun b o e => (e0.bs b o e).1
  have kinds : ∀ y ∈ ps.zip us, (defScope st).names.lookup y.1 = some .local ∨ ((defScope st).names.lookup y.1 = some .cell ∧ ((cellsFrom (s.heap.objs.size + 1) (defScope st).names []).lookup y.1).isSome = true) := by
    rintro ⟨n, v⟩ hy
    rcases S.par n (List.of_mem_zip hy).1 with q | q
    · exact .inl q
    · exact .inr ⟨q, PySem.W.cellsFrom_some _ _ _ (.inl q)⟩
  refine codeAny_call_function hr.depth (e0.mod.kin.keeps up _ _ lk) rfl S.co S.gen rfl (PySem.W.codeRec_of (e0.mod.kin.keeps up) hcd) (hb _ _ _ _ ?_)
  refine wpAny_newFunctionEnv_cells S.kind kinds fun env he s1 x => ?_
  subst he
  refine ⟨(e0.mod.nolimit.keeps up).keeps x.toInCall.keep, codeAny_func ?_⟩
  obtain ⟨t, ht, hq⟩ := hbody cdv A outer s H vs Q E p hg hot (hr.deeper _) hsp
  have I : Inv (L2H.cxH CX P w K mg base N q (defScope st) f cdv A outer s H E p) [] (start N vs) H s1 := L2H.inv_startH S hpin e0 hl r x
  refine wpAny_mono (ht.run [] s1 (start N vs) H _ I hq) (fun fl s' hs => ?_) fun _ _ hs => hs
  cases fl with
  | ret u =>
    obtain ⟨v, σ', H', J, rv, q⟩ := hs
    exact ⟨v, H', J.os, J.bare, J.base, J.hok, rv, q⟩
  | next =>
    obtain ⟨σ', H', J, q⟩ := hs
    exact ⟨V.non, H', J.os, J.bare, J.base, J.hok, rfl, q⟩
  | brk => exact False.elim hs.choose_spec.choose_spec.2
  | cont => exact False.elim hs.choose_spec.choose_spec.2
/-- f(e, ..) in the suite: p the exception that is handled -/
theorem pe_callHG {X : Cx} {CX : CXT} {k : Nat} {f : Addr} {fd : FuncData} {ps : List Str} {sp : Addr × Obj → Sp} {E : XK} {x : Str} {q pos : Pos} {e : Expr} {es : List Expr} {t : TA} {p : Addr × Obj} (F : FnHG X.prog X.w X.K X.mg X.base CX k f fd ps sp) (hG : X.A.guards = some [])
    (hr : L2H.RoomH k X.A) (hot : L2H.Hot1 X.A p) (hp : p ∈ X.pn) (hg : Gl X x) (hm : X.mg x = some (.ref f)) (hk : PySem.W.keepIn X.K (.ref f) = true) (hb : Binds X.K fd ps []) (hx : Passes CX X E) (ha : PA X (e :: es) t) (hdb : (x == ("__debug__" : Str)) = false := by decide)
    (he : starEach (e :: es) X.env = (false, eval e X.env) :: starEach es X.env := by rfl) (hpl : (backTo pos (starEach es X.env)).any (·.1) = false := by rfl) : PE X (.Call (.Name x q) (e :: es) [] pos) (fun σ H Q => t σ H fun vs H1 => sp p vs H1 Q E) := by
  constructor
  intro pins s σ H Q I h
  refine wpAny_Call_Name_kw (ld_glob I hg hm ?_ hdb)
  refine PySem.W.callWith_K (h₀ := X.base) I.ok.mod.kin hk (thn (ha.run pos pins s σ H _ I h) fun us s1 hh => ?_) he hpl
  obtain ⟨vs, H1, I1, r, h1⟩ := hh
  refine ⟨I1.kIn, ?_⟩
  have hl : (us ++ []).length = ps.length := by rw [List.append_nil, ← r.length]; exact F.len _ _ _ _ _ h1
  have b := hb s1 us I1.kIn hl
  rw [List.append_nil] at b
  have P1 := I1.pin p (List.mem_append_left _ hp)
  have hpin : L2H.PinOk X.stack H1 s1 p := ⟨P1.1, P1.2.1, fun hm => (List.mem_cons.mp (I1.stkSub p.1 hm)).elim P1.2.2.1 P1.2.2.2.1, P1.2.2.2.2⟩
  refine wpAny_call (codeAny_mono (F.run X.A X.stack s1 H1 ⟨us, []⟩ us vs Q E p hG hr hot hpin I1.env0 b r h1) fun r s' hq => ?_)
  cases r with
  | error er => exact hx pins σ H1 s1 er s' I1 hq
  | ok fl =>
    cases fl with
    | ret u => exact I1.after hq
    | _ => exact False.elim hq
end Kx
set_option Elab.async false
set_option linter.all false
set_option maxRecDepth 100000
set_option maxHeartbeats 2000000
namespace Kx
open PySem PySem.Spec PyProof.Rows L2
/-! ### what the law tells of an error -/
inductive Told (H : Hp) : Str → List (Str × V) → PyData → Prop
  | alph {v : V} {d : PyData} : Rp H v d → ReprOk d → Told H "BadAlphabet" [("thing", v)] (.tuple [.str "alphabet", .str d.shown])
  | letters {v : V} {d : PyData} : Rp H v d → ReprOk d → Told H "BadLetters" [("thing", v)] (.tuple [.str "letters", .str d.shown])
  | place {v : V} {d : PyData} : Rp H v d → ReprOk d → Told H "BadPlace" [("thing", v)] (.tuple [.str "place", .str d.shown])
  | marked {k : Int} : -1 ≤ k ∧ k ≤ 100000 → Told H "BadMarked" [("number", .int k)] (.tuple [.str "marked", .str (PyData.int k).shown])
  | reader {k : Int} {z : Str} : -1 ≤ k ∧ k ≤ 100000 → Told H "BadReader" [("number", .int k), ("side", .str z)] (.tuple [.str "reader", .str z, .str (PyData.int k).shown])
  | row {k : Int} : -1 ≤ k ∧ k ≤ 100000 → Told H "BadRow" [("at", .int k)] (.tuple [.str "row", .str (PyData.int k).shown])
def told8 (x : Str) : List (Str × Bool) := [("thing", isErr x "WrongThing"), ("item", isErr x "WrongItem"), ("alphabet", isErr x "BadAlphabet"), ("letters", isErr x "BadLetters"), ("place", isErr x "BadPlace"), ("marked", isErr x "BadMarked"), ("reader", isErr x "BadReader"), ("row", isErr x "BadRow")]
theorem Told.mem {H : Hp} {x : Str} {fs : List (Str × V)} {r : PyData} (h : Told H x fs r) : x ∈ toldl := by
  cases h <;> decide +kernel
theorem told_ex : ∀ x ∈ toldl, ∃ fs, (x, fs) ∈ excl := by
  intro x hx
  have h : (toldl.all fun x => excl.any fun p => decide (p.1 = x)) = true := by decide +kernel
  have h1 := List.all_eq_true.mp h x hx
  obtain ⟨p, hp, he⟩ := List.any_eq_true.mp h1
  have := of_decide_eq_true he
  subst this
  exact ⟨p.2, hp⟩
structure ErrF (K : PySem.W.Frag) (x : Str) : Prop where
  xf : XfC K (He.ga K x)
  cl : (PySem.W.clsIn K (He.ga K x)).isSome = true
  cc : PySem.W.findIn K (.ref (He.ga K x)) "__class__" = some (some (.builtin "object.__class__"))
  mo : PySem.W.mroIn K (He.ga K x) (.type "object") = some true
  kit : ∀ y ∈ askedl, PySem.W.kitOne K (.ref (He.ga K x)) (.ref (He.ga K y)) = some (isErr x y)
  fld : ∀ f ∈ (["thing", "number", "side", "at"] : List Str), PySem.W.findIn K (.ref (He.ga K x)) f = some none
theorem errF {K mg} (T : Txt K mg) {x : Str} (hx : x ∈ toldl) : ErrF K x := by
  have hall : ∀ fs, (x, fs) ∈ excl → exB K x fs = true := fun fs hf => List.all_eq_true.mp (Bool.and_eq_true_iff.mp (Bool.and_eq_true_iff.mp T.ex).1).1 (x, fs) hf
  obtain ⟨fs0, hf0⟩ := told_ex x hx
  have h0 := hall fs0 hf0
  unfold exB at h0
  simp only [Bool.and_eq_true] at h0
  have xf := xfB_ok h0.2.2.2.2.2.2.2.2
  obtain ⟨k1, k2, _, _, _, k6⟩ := ex_rest T
  have hc := k2 x hx
  unfold clsfB at hc
  simp only [Bool.and_eq_true, decide_eq_true_eq] at hc
  refine ⟨xf, ?_, hc.1, hc.2, fun y hy => ?_, fun f hff => ?_⟩
  · obtain ⟨cd, h, _⟩ := PySem.W.any_some xf.hdC
    rw [h]
    rfl
  · unfold kitsB at k1
    exact of_decide_eq_true (List.all_eq_true.mp (List.all_eq_true.mp k1 x hx) y hy)
  · unfold fldsB at k6
    exact of_decide_eq_true (List.all_eq_true.mp (List.all_eq_true.mp k6 x hx) f hff)
end Kx
set_option Elab.async false
set_option linter.all false
set_option maxRecDepth 100000
set_option maxHeartbeats 4000000
namespace Kx
open PySem PySem.Spec PyProof.Rows L2
section
variable {P : Program} {w : World} {K : PySem.W.Frag} {mg : Str → Option Value} {base : Heap}
def nmOf (x : Str) : List Str := (((told8 x).take 8).filter (·.2)).map (·.1)
theorem dp_names {K : PySem.W.Frag} {H : Hp} {a : Addr} (nm : List Str) (h : H a = some (.lst (nm.map V.str))) : Dp K H (.ref a) (.list (nm.map PyData.str)) := by
  refine .lst (SqL.of h) ?_
  clear h
  induction nm with
  | nil => exact .nil
  | cons z zs ih => exact .cons (.str z) ih
theorem up1 {H : Hp} {t b : Addr} {o u : HO} (e : H b = some u) (ht : H t = none) : upd H t o b = some u := same_upd ht _ _ e
theorem upd_id {H : Hp} {a : Addr} {o : HO} (h : H a = some o) : upd H a o = H := by
  funext b
  by_cases hb : b = a
  · subst hb; rw [upd_same, h]
  · rw [upd_ne hb]
def sp_law_error_told (K : PySem.W.Frag) (p : Addr × Obj) : Sp := fun vs H Q _ => ∃ (x : Str) (dd : Addr) (fs : List (Str × V)) (res : PyData), vs = [.ref p.1] ∧ Zc (.ref (He.ga K x)) (some dd) p.2 ∧ (∃ us, p.2.data = .fields us) ∧ H dd = some (.xd fs) ∧ Told H x fs res ∧
  ∀ H' t, Same H H' → Rt H' t res → Q t H'
theorem ok_law_error_told (T : Txt K mg) : ∃ fd, FnHG P w K mg base CX0 1 (He.ga K "_law_error_told") fd ["_law_error"] (sp_law_error_told K) ∧ Binds K fd ["_law_error"] [] ∧ PySem.W.keepIn K (.ref (He.ga K "_law_error_told")) = true := by
  obtain ⟨fd, F⟩ := F__law_error_told T
  refine ⟨fd, fnHG_mk F sc__law_error_told (fun p vs H Q E h => ?_) (fun cdv A outer s H vs Q E p hG hot hr h => ?_), F.bindsN fun _ _ _ _ _ _ us hl => match us, hl with | [_], _ => rfl, F.kp⟩
  · obtain ⟨x, dd, fs, res, rfl, _⟩ := h; rfl
  · obtain ⟨x, dd, fs, res, rfl, hz, hf, hdd, told, q⟩ := h
    have EF := errF T told.mem
    have hu : A.units + 3 + 64 < cLine := by have := hr.un; have e : (A.deeper (envOfC "_law_error_told" (defScope s__law_error_told) s.heap.objs.size (He.ga K "_law_error_told") cdv)).units = A.units + 3 := rfl; omega
    refine ⟨_, PSs.nox (pss_cons (ps_set (i := 1) sc__law_error_told.nd rfl (Or.inl rfl) (pe_lst pa_nil))
      (pss_cons (L2H.ps_forH PassesOwn.never ⟨p, hot, List.mem_singleton.mpr rfl⟩ (pi_listH (pe_lst
            (pa_cons (pe_tup (pa_cons pe_str (pa_cons (pe_callB (call_isM EF.xf EF.cl EF.cc (objF T).1 (objF T).2 EF.mo (List.mem_singleton.mpr rfl) hz hf) (by rfl) (fr_isinstance T) b_isinstance (pa_cons (pv 0) (pa_cons (pe_glob (v := .ref (He.ga K "WrongThing")) (by rfl) (g_WrongThing T) rfl) pa_nil))) pa_nil)))
            (pa_cons (pe_tup (pa_cons pe_str (pa_cons (pe_callB (call_isM EF.xf EF.cl EF.cc (objF T).1 (objF T).2 EF.mo (List.mem_singleton.mpr rfl) hz hf) (by rfl) (fr_isinstance T) b_isinstance (pa_cons (pv 0) (pa_cons (pe_glob (v := .ref (He.ga K "WrongItem")) (by rfl) (g_WrongItem T) rfl) pa_nil))) pa_nil)))
            (pa_cons (pe_tup (pa_cons pe_str (pa_cons (pe_callB (call_isM EF.xf EF.cl EF.cc (objF T).1 (objF T).2 EF.mo (List.mem_singleton.mpr rfl) hz hf) (by rfl) (fr_isinstance T) b_isinstance (pa_cons (pv 0) (pa_cons (pe_glob (v := .ref (He.ga K "BadAlphabet")) (by rfl) (g_BadAlphabet T) rfl) pa_nil))) pa_nil)))
            (pa_cons (pe_tup (pa_cons pe_str (pa_cons (pe_callB (call_isM EF.xf EF.cl EF.cc (objF T).1 (objF T).2 EF.mo (List.mem_singleton.mpr rfl) hz hf) (by rfl) (fr_isinstance T) b_isinstance (pa_cons (pv 0) (pa_cons (pe_glob (v := .ref (He.ga K "BadLetters")) (by rfl) (g_BadLetters T) rfl) pa_nil))) pa_nil)))
            (pa_cons (pe_tup (pa_cons pe_str (pa_cons (pe_callB (call_isM EF.xf EF.cl EF.cc (objF T).1 (objF T).2 EF.mo (List.mem_singleton.mpr rfl) hz hf) (by rfl) (fr_isinstance T) b_isinstance (pa_cons (pv 0) (pa_cons (pe_glob (v := .ref (He.ga K "BadPlace")) (by rfl) (g_BadPlace T) rfl) pa_nil))) pa_nil)))
            (pa_cons (pe_tup (pa_cons pe_str (pa_cons (pe_callB (call_isM EF.xf EF.cl EF.cc (objF T).1 (objF T).2 EF.mo (List.mem_singleton.mpr rfl) hz hf) (by rfl) (fr_isinstance T) b_isinstance (pa_cons (pv 0) (pa_cons (pe_glob (v := .ref (He.ga K "BadMarked")) (by rfl) (g_BadMarked T) rfl) pa_nil))) pa_nil)))
            (pa_cons (pe_tup (pa_cons pe_str (pa_cons (pe_callB (call_isM EF.xf EF.cl EF.cc (objF T).1 (objF T).2 EF.mo (List.mem_singleton.mpr rfl) hz hf) (by rfl) (fr_isinstance T) b_isinstance (pa_cons (pv 0) (pa_cons (pe_glob (v := .ref (He.ga K "BadReader")) (by rfl) (g_BadReader T) rfl) pa_nil))) pa_nil)))
            (pa_cons (pe_tup (pa_cons pe_str (pa_cons (pe_callB (call_isM EF.xf EF.cl EF.cc (objF T).1 (objF T).2 EF.mo (List.mem_singleton.mpr rfl) hz hf) (by rfl) (fr_isinstance T) b_isinstance (pa_cons (pv 0) (pa_cons (pe_glob (v := .ref (He.ga K "BadRow")) (by rfl) (g_BadRow T) rfl) pa_nil))) pa_nil))) pa_nil))))))))))
          (pg_tupH ⟨p, hot, List.mem_singleton.mpr rfl⟩ (pgs_cons (pg_name (i := 2) sc__law_error_told.nd rfl (Or.inl rfl)) (pgs_cons (pg_name (i := 3) sc__law_error_told.nd rfl (Or.inl rfl)) pgs_nil)))
        (pss_one (ps_if (pt_val (pv 3)) (pss_one (ps_expr (pe_bm PySem.F.plainAttrs_list PySem.F.slot_list_append PySem.F.type_list_append mt_append (pv 1) (pa_cons (pv 2) pa_nil)))) pss_nil)))
      (pss_cons (ps_if (pt_cmpR (op_eqD hu) (pv 1) (pe_lst (pa_cons pe_str pa_nil)) (nomark _)) (pss_one (ps_ret (pe_tup (pa_cons pe_str (pa_cons (pe_xfM (C := He.ga K x) EF.xf (EF.fld "side" (by simp)) (List.mem_singleton.mpr rfl) hz hf (pv 0)) (pa_cons (pe_callB (call_repr hG hu) (by rfl) (fr_repr T) b_repr (pa_cons (pe_xfM (C := He.ga K x) EF.xf (EF.fld "number" (by simp)) (List.mem_singleton.mpr rfl) hz hf (pv 0)) pa_nil)) pa_nil)))))) pss_nil)
      (pss_cons (ps_if (pt_cmpR (op_eqD hu) (pv 1) (pe_lst (pa_cons pe_str pa_nil)) (nomark _)) (pss_one (ps_ret (pe_tup (pa_cons pe_str (pa_cons (pe_callB (call_repr hG hu) (by rfl) (fr_repr T) b_repr (pa_cons (pe_xfM (C := He.ga K x) EF.xf (EF.fld "at" (by simp)) (List.mem_singleton.mpr rfl) hz hf (pv 0)) pa_nil)) pa_nil))))) pss_nil)
      (pss_cons (ps_if (pt_cmpR (op_eqD hu) (pv 1) (pe_lst (pa_cons pe_str (pa_cons pe_str pa_nil))) (nomark _)) (pss_one (ps_ret (pe_tup (pa_cons pe_str (pa_cons (pe_callB (call_repr hG hu) (by rfl) (fr_repr T) b_repr (pa_cons (pe_xfM (C := He.ga K x) EF.xf (EF.fld "number" (by simp)) (List.mem_singleton.mpr rfl) hz hf (pv 0)) pa_nil)) pa_nil))))) pss_nil)
      (pss_cons (ps_if (PW.pt (pw_and (pt_cmpR op_eq (pe_callB call_len (by rfl) (fr_len T) boot_len (pa_cons (pv 1) pa_nil)) pe_int (nomark _)) (pw_and1 (pt_cmpR op_eq (pe_ix ix_list (pv 1) pe_int (fun _ _ => rfl)) pe_str (nomark _)))))
          (pss_one (ps_ret (pe_tup (pa_cons (pe_ix ix_list (pv 1) pe_int (fun _ _ => rfl)) (pa_cons (pe_callB (call_repr hG hu) (by rfl) (fr_repr T) b_repr (pa_cons (pe_xfM (C := He.ga K x) EF.xf (EF.fld "thing" (by simp)) (List.mem_singleton.mpr rfl) hz hf (pv 0)) pa_nil)) pa_nil))))) pss_nil)
      (pss_one (ps_ret (pe_tup (pa_cons pe_str pa_nil)))))))))), ?_⟩
    refine ⟨(by show 0 ≤ sizeLine; decide), fun N hN => ?_⟩
    have d0 := up1 (o := .lst []) hdd hN
    refine ⟨.ref p.1, rfl, He.ga K "WrongThing", dd, fs, isErr x "WrongThing", rfl, rfl, d0, EF.kit _ (by decide +kernel), (by show 2 ≤ sizeLine; decide), fun t1 ht1 => ?_⟩
    have d1 := up1 (o := .tup [.str "thing", .bl (isErr x "WrongThing")]) d0 ht1
    refine ⟨.ref p.1, rfl, He.ga K "WrongItem", dd, fs, isErr x "WrongItem", rfl, rfl, d1, EF.kit _ (by decide +kernel), (by show 2 ≤ sizeLine; decide), fun t2 ht2 => ?_⟩
    have d2 := up1 (o := .tup [.str "item", .bl (isErr x "WrongItem")]) d1 ht2
    refine ⟨.ref p.1, rfl, He.ga K "BadAlphabet", dd, fs, isErr x "BadAlphabet", rfl, rfl, d2, EF.kit _ (by decide +kernel), (by show 2 ≤ sizeLine; decide), fun t3 ht3 => ?_⟩
    have d3 := up1 (o := .tup [.str "alphabet", .bl (isErr x "BadAlphabet")]) d2 ht3
    refine ⟨.ref p.1, rfl, He.ga K "BadLetters", dd, fs, isErr x "BadLetters", rfl, rfl, d3, EF.kit _ (by decide +kernel), (by show 2 ≤ sizeLine; decide), fun t4 ht4 => ?_⟩
    have d4 := up1 (o := .tup [.str "letters", .bl (isErr x "BadLetters")]) d3 ht4
    refine ⟨.ref p.1, rfl, He.ga K "BadPlace", dd, fs, isErr x "BadPlace", rfl, rfl, d4, EF.kit _ (by decide +kernel), (by show 2 ≤ sizeLine; decide), fun t5 ht5 => ?_⟩
    have d5 := up1 (o := .tup [.str "place", .bl (isErr x "BadPlace")]) d4 ht5
    refine ⟨.ref p.1, rfl, He.ga K "BadMarked", dd, fs, isErr x "BadMarked", rfl, rfl, d5, EF.kit _ (by decide +kernel), (by show 2 ≤ sizeLine; decide), fun t6 ht6 => ?_⟩
    have d6 := up1 (o := .tup [.str "marked", .bl (isErr x "BadMarked")]) d5 ht6
    refine ⟨.ref p.1, rfl, He.ga K "BadReader", dd, fs, isErr x "BadReader", rfl, rfl, d6, EF.kit _ (by decide +kernel), (by show 2 ≤ sizeLine; decide), fun t7 ht7 => ?_⟩
    have d7 := up1 (o := .tup [.str "reader", .bl (isErr x "BadReader")]) d6 ht7
    refine ⟨.ref p.1, rfl, He.ga K "BadRow", dd, fs, isErr x "BadRow", rfl, rfl, d7, EF.kit _ (by decide +kernel), (by show 2 ≤ sizeLine; decide), fun t8 ht8 => ?_⟩
    have d8 := up1 (o := .tup [.str "row", .bl (isErr x "BadRow")]) d7 ht8
    refine ⟨(by show 8 ≤ sizeLine; decide), fun L hL => ?_⟩
    have d9 := up1 (o := .lst [.ref t1, .ref t2, .ref t3, .ref t4, .ref t5, .ref t6, .ref t7, .ref t8]) d8 hL
    have gN : (upd (upd (upd (upd (upd (upd (upd (upd (upd (upd H N (.lst [])) t1 (.tup [.str "thing", .bl (isErr x "WrongThing")])) t2 (.tup [.str "item", .bl (isErr x "WrongItem")])) t3 (.tup [.str "alphabet", .bl (isErr x "BadAlphabet")])) t4 (.tup [.str "letters", .bl (isErr x "BadLetters")])) t5 (.tup [.str "place", .bl (isErr x "BadPlace")])) t6 (.tup [.str "marked", .bl (isErr x "BadMarked")])) t7 (.tup [.str "reader", .bl (isErr x "BadReader")])) t8 (.tup [.str "row", .bl (isErr x "BadRow")])) L (.lst [.ref t1, .ref t2, .ref t3, .ref t4, .ref t5, .ref t6, .ref t7, .ref t8])) N = some (.lst []) := up1 (up1 (up1 (up1 (up1 (up1 (up1 (up1 (up1 (upd_same (H := H) (a := N) (o := .lst [])) ht1) ht2) ht3) ht4) ht5) ht6) ht7) ht8) hL
    have g1 : (upd (upd (upd (upd (upd (upd (upd (upd (upd (upd H N (.lst [])) t1 (.tup [.str "thing", .bl (isErr x "WrongThing")])) t2 (.tup [.str "item", .bl (isErr x "WrongItem")])) t3 (.tup [.str "alphabet", .bl (isErr x "BadAlphabet")])) t4 (.tup [.str "letters", .bl (isErr x "BadLetters")])) t5 (.tup [.str "place", .bl (isErr x "BadPlace")])) t6 (.tup [.str "marked", .bl (isErr x "BadMarked")])) t7 (.tup [.str "reader", .bl (isErr x "BadReader")])) t8 (.tup [.str "row", .bl (isErr x "BadRow")])) L (.lst [.ref t1, .ref t2, .ref t3, .ref t4, .ref t5, .ref t6, .ref t7, .ref t8])) t1 = some (.tup [.str "thing", .bl (isErr x "WrongThing")]) := up1 (up1 (up1 (up1 (up1 (up1 (up1 (up1 (upd_same (H := (upd H N (.lst []))) (a := t1) (o := .tup [.str "thing", .bl (isErr x "WrongThing")])) ht2) ht3) ht4) ht5) ht6) ht7) ht8) hL
    have g2 : (upd (upd (upd (upd (upd (upd (upd (upd (upd (upd H N (.lst [])) t1 (.tup [.str "thing", .bl (isErr x "WrongThing")])) t2 (.tup [.str "item", .bl (isErr x "WrongItem")])) t3 (.tup [.str "alphabet", .bl (isErr x "BadAlphabet")])) t4 (.tup [.str "letters", .bl (isErr x "BadLetters")])) t5 (.tup [.str "place", .bl (isErr x "BadPlace")])) t6 (.tup [.str "marked", .bl (isErr x "BadMarked")])) t7 (.tup [.str "reader", .bl (isErr x "BadReader")])) t8 (.tup [.str "row", .bl (isErr x "BadRow")])) L (.lst [.ref t1, .ref t2, .ref t3, .ref t4, .ref t5, .ref t6, .ref t7, .ref t8])) t2 = some (.tup [.str "item", .bl (isErr x "WrongItem")]) := up1 (up1 (up1 (up1 (up1 (up1 (up1 (upd_same (H := (upd (upd H N (.lst [])) t1 (.tup [.str "thing", .bl (isErr x "WrongThing")]))) (a := t2) (o := .tup [.str "item", .bl (isErr x "WrongItem")])) ht3) ht4) ht5) ht6) ht7) ht8) hL
    have g3 : (upd (upd (upd (upd (upd (upd (upd (upd (upd (upd H N (.lst [])) t1 (.tup [.str "thing", .bl (isErr x "WrongThing")])) t2 (.tup [.str "item", .bl (isErr x "WrongItem")])) t3 (.tup [.str "alphabet", .bl (isErr x "BadAlphabet")])) t4 (.tup [.str "letters", .bl (isErr x "BadLetters")])) t5 (.tup [.str "place", .bl (isErr x "BadPlace")])) t6 (.tup [.str "marked", .bl (isErr x "BadMarked")])) t7 (.tup [.str "reader", .bl (isErr x "BadReader")])) t8 (.tup [.str "row", .bl (isErr x "BadRow")])) L (.lst [.ref t1, .ref t2, .ref t3, .ref t4, .ref t5, .ref t6, .ref t7, .ref t8])) t3 = some (.tup [.str "alphabet", .bl (isErr x "BadAlphabet")]) := up1 (up1 (up1 (up1 (up1 (up1 (upd_same (H := (upd (upd (upd H N (.lst [])) t1 (.tup [.str "thing", .bl (isErr x "WrongThing")])) t2 (.tup [.str "item", .bl (isErr x "WrongItem")]))) (a := t3) (o := .tup [.str "alphabet", .bl (isErr x "BadAlphabet")])) ht4) ht5) ht6) ht7) ht8) hL
    have g4 : (upd (upd (upd (upd (upd (upd (upd (upd (upd (upd H N (.lst [])) t1 (.tup [.str "thing", .bl (isErr x "WrongThing")])) t2 (.tup [.str "item", .bl (isErr x "WrongItem")])) t3 (.tup [.str "alphabet", .bl (isErr x "BadAlphabet")])) t4 (.tup [.str "letters", .bl (isErr x "BadLetters")])) t5 (.tup [.str "place", .bl (isErr x "BadPlace")])) t6 (.tup [.str "marked", .bl (isErr x "BadMarked")])) t7 (.tup [.str "reader", .bl (isErr x "BadReader")])) t8 (.tup [.str "row", .bl (isErr x "BadRow")])) L (.lst [.ref t1, .ref t2, .ref t3, .ref t4, .ref t5, .ref t6, .ref t7, .ref t8])) t4 = some (.tup [.str "letters", .bl (isErr x "BadLetters")]) := up1 (up1 (up1 (up1 (up1 (upd_same (H := (upd (upd (upd (upd H N (.lst [])) t1 (.tup [.str "thing", .bl (isErr x "WrongThing")])) t2 (.tup [.str "item", .bl (isErr x "WrongItem")])) t3 (.tup [.str "alphabet", .bl (isErr x "BadAlphabet")]))) (a := t4) (o := .tup [.str "letters", .bl (isErr x "BadLetters")])) ht5) ht6) ht7) ht8) hL
    have g5 : (upd (upd (upd (upd (upd (upd (upd (upd (upd (upd H N (.lst [])) t1 (.tup [.str "thing", .bl (isErr x "WrongThing")])) t2 (.tup [.str "item", .bl (isErr x "WrongItem")])) t3 (.tup [.str "alphabet", .bl (isErr x "BadAlphabet")])) t4 (.tup [.str "letters", .bl (isErr x "BadLetters")])) t5 (.tup [.str "place", .bl (isErr x "BadPlace")])) t6 (.tup [.str "marked", .bl (isErr x "BadMarked")])) t7 (.tup [.str "reader", .bl (isErr x "BadReader")])) t8 (.tup [.str "row", .bl (isErr x "BadRow")])) L (.lst [.ref t1, .ref t2, .ref t3, .ref t4, .ref t5, .ref t6, .ref t7, .ref t8])) t5 = some (.tup [.str "place", .bl (isErr x "BadPlace")]) := up1 (up1 (up1 (up1 (upd_same (H := (upd (upd (upd (upd (upd H N (.lst [])) t1 (.tup [.str "thing", .bl (isErr x "WrongThing")])) t2 (.tup [.str "item", .bl (isErr x "WrongItem")])) t3 (.tup [.str "alphabet", .bl (isErr x "BadAlphabet")])) t4 (.tup [.str "letters", .bl (isErr x "BadLetters")]))) (a := t5) (o := .tup [.str "place", .bl (isErr x "BadPlace")])) ht6) ht7) ht8) hL
    have g6 : (upd (upd (upd (upd (upd (upd (upd (upd (upd (upd H N (.lst [])) t1 (.tup [.str "thing", .bl (isErr x "WrongThing")])) t2 (.tup [.str "item", .bl (isErr x "WrongItem")])) t3 (.tup [.str "alphabet", .bl (isErr x "BadAlphabet")])) t4 (.tup [.str "letters", .bl (isErr x "BadLetters")])) t5 (.tup [.str "place", .bl (isErr x "BadPlace")])) t6 (.tup [.str "marked", .bl (isErr x "BadMarked")])) t7 (.tup [.str "reader", .bl (isErr x "BadReader")])) t8 (.tup [.str "row", .bl (isErr x "BadRow")])) L (.lst [.ref t1, .ref t2, .ref t3, .ref t4, .ref t5, .ref t6, .ref t7, .ref t8])) t6 = some (.tup [.str "marked", .bl (isErr x "BadMarked")]) := up1 (up1 (up1 (upd_same (H := (upd (upd (upd (upd (upd (upd H N (.lst [])) t1 (.tup [.str "thing", .bl (isErr x "WrongThing")])) t2 (.tup [.str "item", .bl (isErr x "WrongItem")])) t3 (.tup [.str "alphabet", .bl (isErr x "BadAlphabet")])) t4 (.tup [.str "letters", .bl (isErr x "BadLetters")])) t5 (.tup [.str "place", .bl (isErr x "BadPlace")]))) (a := t6) (o := .tup [.str "marked", .bl (isErr x "BadMarked")])) ht7) ht8) hL
    have g7 : (upd (upd (upd (upd (upd (upd (upd (upd (upd (upd H N (.lst [])) t1 (.tup [.str "thing", .bl (isErr x "WrongThing")])) t2 (.tup [.str "item", .bl (isErr x "WrongItem")])) t3 (.tup [.str "alphabet", .bl (isErr x "BadAlphabet")])) t4 (.tup [.str "letters", .bl (isErr x "BadLetters")])) t5 (.tup [.str "place", .bl (isErr x "BadPlace")])) t6 (.tup [.str "marked", .bl (isErr x "BadMarked")])) t7 (.tup [.str "reader", .bl (isErr x "BadReader")])) t8 (.tup [.str "row", .bl (isErr x "BadRow")])) L (.lst [.ref t1, .ref t2, .ref t3, .ref t4, .ref t5, .ref t6, .ref t7, .ref t8])) t7 = some (.tup [.str "reader", .bl (isErr x "BadReader")]) := up1 (up1 (upd_same (H := (upd (upd (upd (upd (upd (upd (upd H N (.lst [])) t1 (.tup [.str "thing", .bl (isErr x "WrongThing")])) t2 (.tup [.str "item", .bl (isErr x "WrongItem")])) t3 (.tup [.str "alphabet", .bl (isErr x "BadAlphabet")])) t4 (.tup [.str "letters", .bl (isErr x "BadLetters")])) t5 (.tup [.str "place", .bl (isErr x "BadPlace")])) t6 (.tup [.str "marked", .bl (isErr x "BadMarked")]))) (a := t7) (o := .tup [.str "reader", .bl (isErr x "BadReader")])) ht8) hL
    have g8 : (upd (upd (upd (upd (upd (upd (upd (upd (upd (upd H N (.lst [])) t1 (.tup [.str "thing", .bl (isErr x "WrongThing")])) t2 (.tup [.str "item", .bl (isErr x "WrongItem")])) t3 (.tup [.str "alphabet", .bl (isErr x "BadAlphabet")])) t4 (.tup [.str "letters", .bl (isErr x "BadLetters")])) t5 (.tup [.str "place", .bl (isErr x "BadPlace")])) t6 (.tup [.str "marked", .bl (isErr x "BadMarked")])) t7 (.tup [.str "reader", .bl (isErr x "BadReader")])) t8 (.tup [.str "row", .bl (isErr x "BadRow")])) L (.lst [.ref t1, .ref t2, .ref t3, .ref t4, .ref t5, .ref t6, .ref t7, .ref t8])) t8 = some (.tup [.str "row", .bl (isErr x "BadRow")]) := up1 (upd_same (H := (upd (upd (upd (upd (upd (upd (upd (upd H N (.lst [])) t1 (.tup [.str "thing", .bl (isErr x "WrongThing")])) t2 (.tup [.str "item", .bl (isErr x "WrongItem")])) t3 (.tup [.str "alphabet", .bl (isErr x "BadAlphabet")])) t4 (.tup [.str "letters", .bl (isErr x "BadLetters")])) t5 (.tup [.str "place", .bl (isErr x "BadPlace")])) t6 (.tup [.str "marked", .bl (isErr x "BadMarked")])) t7 (.tup [.str "reader", .bl (isErr x "BadReader")]))) (a := t8) (o := .tup [.str "row", .bl (isErr x "BadRow")])) hL
    have gL : (upd (upd (upd (upd (upd (upd (upd (upd (upd (upd H N (.lst [])) t1 (.tup [.str "thing", .bl (isErr x "WrongThing")])) t2 (.tup [.str "item", .bl (isErr x "WrongItem")])) t3 (.tup [.str "alphabet", .bl (isErr x "BadAlphabet")])) t4 (.tup [.str "letters", .bl (isErr x "BadLetters")])) t5 (.tup [.str "place", .bl (isErr x "BadPlace")])) t6 (.tup [.str "marked", .bl (isErr x "BadMarked")])) t7 (.tup [.str "reader", .bl (isErr x "BadReader")])) t8 (.tup [.str "row", .bl (isErr x "BadRow")])) L (.lst [.ref t1, .ref t2, .ref t3, .ref t4, .ref t5, .ref t6, .ref t7, .ref t8])) L = some (.lst [.ref t1, .ref t2, .ref t3, .ref t4, .ref t5, .ref t6, .ref t7, .ref t8]) := upd_same
    have sA : Same H (upd (upd (upd (upd (upd (upd (upd (upd (upd (upd H N (.lst [])) t1 (.tup [.str "thing", .bl (isErr x "WrongThing")])) t2 (.tup [.str "item", .bl (isErr x "WrongItem")])) t3 (.tup [.str "alphabet", .bl (isErr x "BadAlphabet")])) t4 (.tup [.str "letters", .bl (isErr x "BadLetters")])) t5 (.tup [.str "place", .bl (isErr x "BadPlace")])) t6 (.tup [.str "marked", .bl (isErr x "BadMarked")])) t7 (.tup [.str "reader", .bl (isErr x "BadReader")])) t8 (.tup [.str "row", .bl (isErr x "BadRow")])) L (.lst [.ref t1, .ref t2, .ref t3, .ref t4, .ref t5, .ref t6, .ref t7, .ref t8])) := (((((((((same_upd hN).trans (same_upd ht1)).trans (same_upd ht2)).trans (same_upd ht3)).trans (same_upd ht4)).trans (same_upd ht5)).trans (same_upd ht6)).trans (same_upd ht7)).trans (same_upd ht8)).trans (same_upd hL)
    refine ⟨L, rfl, ⟨_, SqL.of gL⟩, ?_⟩
    generalize hGc : (upd (upd (upd (upd (upd (upd (upd (upd (upd (upd H N (.lst [])) t1 (.tup [.str "thing", .bl (isErr x "WrongThing")])) t2 (.tup [.str "item", .bl (isErr x "WrongItem")])) t3 (.tup [.str "alphabet", .bl (isErr x "BadAlphabet")])) t4 (.tup [.str "letters", .bl (isErr x "BadLetters")])) t5 (.tup [.str "place", .bl (isErr x "BadPlace")])) t6 (.tup [.str "marked", .bl (isErr x "BadMarked")])) t7 (.tup [.str "reader", .bl (isErr x "BadReader")])) t8 (.tup [.str "row", .bl (isErr x "BadRow")])) L (.lst [.ref t1, .ref t2, .ref t3, .ref t4, .ref t5, .ref t6, .ref t7, .ref t8])) = Gc at gN g1 g2 g3 g4 g5 g6 g7 g8 gL sA d9
    have cells : ∀ (i : Nat) (v : V), [V.ref t1, .ref t2, .ref t3, .ref t4, .ref t5, .ref t6, .ref t7, .ref t8][i]? = some v → ∃ (t : Addr) (u : Str) (b : Bool), v = .ref t ∧ (told8 x)[i]? = some (u, b) ∧ Gc t = some (.tup [.str u, .bl b]) := by
      intro i v h
      match i, h with
      | 0, h => cases h; exact ⟨t1, _, _, rfl, rfl, g1⟩
      | 1, h => cases h; exact ⟨t2, _, _, rfl, rfl, g2⟩
      | 2, h => cases h; exact ⟨t3, _, _, rfl, rfl, g3⟩
      | 3, h => cases h; exact ⟨t4, _, _, rfl, rfl, g4⟩
      | 4, h => cases h; exact ⟨t5, _, _, rfl, rfl, g5⟩
      | 5, h => cases h; exact ⟨t6, _, _, rfl, rfl, g6⟩
      | 6, h => cases h; exact ⟨t7, _, _, rfl, rfl, g7⟩
      | 7, h => cases h; exact ⟨t8, _, _, rfl, rfl, g8⟩
      | i + 8, h => simp at h
    have hLN : L ≠ N := fun z => by rw [z, gN] at gL; cases gL
    have hdN : dd ≠ N := fun z => by rw [z, gN] at d9; cases d9
    refine for_it (walk_list (xs := [V.ref t1, .ref t2, .ref t3, .ref t4, .ref t5, .ref t6, .ref t7, .ref t8])) (fun i σ H2 => ∃ (v2 v3 : Option V), σ = [some (.ref p.1), some (.ref N), v2, v3] ∧ H2 = upd Gc N (.lst ((((told8 x).take i).filter (·.2)).map fun z => V.str z.1)))
      ⟨none, none, rfl, ?_⟩ (fun i σ H2 _ ⟨_, _, _, e⟩ => SqL.of (by rw [e, upd_ne hLN]; exact gL)) ?_ ?_
    · first | exact (upd_id gN).symm | exact hGc.trans (upd_id gN).symm | skip
    · rintro i v σ H2 H3 hi ⟨v2, v3, rfl, rfl⟩ ⟨eH, hx⟩
      replace eH := eH.symm
      subst eH
      obtain ⟨t, u, b, rfl, hu8, gt⟩ := cells i v hx
      have htN : t ≠ N := fun z => by rw [z, gN] at gt; cases gt
      have htk : (told8 x).take (i + 1) = (told8 x).take i ++ [(u, b)] := by rw [List.take_succ, hu8]; rfl
      refine ⟨t, _, rfl, SqT.of (by rw [upd_ne htN]; exact gt), rfl, _, _, rfl, _, _, rfl, rfl, .bl b, rfl, b, rfl, ?_⟩
      cases b with
      | false => exact iteF ⟨_, _, rfl, by rw [htk, List.filter_append]; simp⟩
      | true =>
        refine iteT ⟨.ref N, rfl, .inl ⟨rfl, _, SqL.of upd_same⟩, .str u, rfl, N, _, _, rfl, rfl, upd_same, ?_, ?_⟩
        · rw [List.length_map]
          have h1 := List.length_filter_le (·.2) ((told8 x).take i)
          have h2 := List.length_take_le i (told8 x)
          exact Nat.lt_of_le_of_lt (Nat.le_trans h1 (by rw [List.length_take]; exact Nat.min_le_right _ _)) (by show 8 < sizeLine; decide)
        · refine ⟨_, _, rfl, ?_⟩
          rw [upd_upd, htk, List.filter_append, List.map_append]
          rfl
    · rintro σ H2 ⟨v2, v3, rfl, rfl⟩
      have hN2 : upd Gc N (.lst ((((told8 x).take [V.ref t1, .ref t2, .ref t3, .ref t4, .ref t5, .ref t6, .ref t7, .ref t8].length).filter (·.2)).map fun z => V.str z.1)) N = some (.lst ((nmOf x).map V.str)) := by
        rw [upd_same]
        unfold nmOf
        rw [List.map_map]
        rfl
      have dz : upd Gc N (.lst ((((told8 x).take [V.ref t1, .ref t2, .ref t3, .ref t4, .ref t5, .ref t6, .ref t7, .ref t8].length).filter (·.2)).map fun z => V.str z.1)) dd = some (.xd fs) := by rw [upd_ne hdN]; exact d9
      have sH : Same H (upd Gc N (.lst ((((told8 x).take [V.ref t1, .ref t2, .ref t3, .ref t4, .ref t5, .ref t6, .ref t7, .ref t8].length).filter (·.2)).map fun z => V.str z.1))) := fun b o e => by
        rw [upd_ne (ne_of_none e hN)]
        exact sA _ _ e
      generalize upd Gc N (.lst ((((told8 x).take [V.ref t1, .ref t2, .ref t3, .ref t4, .ref t5, .ref t6, .ref t7, .ref t8].length).filter (·.2)).map fun z => V.str z.1)) = H2 at hN2 dz sH ⊢
      cases told with
      | alph rd rok =>
        rw [show nmOf "BadAlphabet" = (["thing", "alphabet"] : List Str) from by decide +kernel] at hN2
        refine ⟨.ref N, rfl, (by show 1 ≤ sizeLine; decide), fun M0 hM0 => ?_⟩
        have n0 := up1 (o := .lst ((["reader"] : List Str).map V.str)) hN2 hM0
        have e0 := up1 (o := .lst ((["reader"] : List Str).map V.str)) dz hM0
        have s0 := sH.trans (same_upd (o := .lst ((["reader"] : List Str).map V.str)) hM0)
        refine ⟨_, _, dp_names ["thing", "alphabet"] n0, dp_names ["reader"] upd_same, (by decide +kernel), (by decide +kernel), _, rfl, ?_⟩
        rw [show PyData.eqv (.list ((["thing", "alphabet"] : List Str).map PyData.str)) (.list ((["reader"] : List Str).map PyData.str)) = false from by decide +kernel]
        refine iteF ?_
        refine ⟨.ref N, rfl, (by show 1 ≤ sizeLine; decide), fun M1 hM1 => ?_⟩
        have n1 := up1 (o := .lst ((["row"] : List Str).map V.str)) n0 hM1
        have e1 := up1 (o := .lst ((["row"] : List Str).map V.str)) e0 hM1
        have s1 := s0.trans (same_upd (o := .lst ((["row"] : List Str).map V.str)) hM1)
        refine ⟨_, _, dp_names ["thing", "alphabet"] n1, dp_names ["row"] upd_same, (by decide +kernel), (by decide +kernel), _, rfl, ?_⟩
        rw [show PyData.eqv (.list ((["thing", "alphabet"] : List Str).map PyData.str)) (.list ((["row"] : List Str).map PyData.str)) = false from by decide +kernel]
        refine iteF ?_
        refine ⟨.ref N, rfl, (by show 2 ≤ sizeLine; decide), fun M2 hM2 => ?_⟩
        have n2 := up1 (o := .lst ((["item", "marked"] : List Str).map V.str)) n1 hM2
        have e2 := up1 (o := .lst ((["item", "marked"] : List Str).map V.str)) e1 hM2
        have s2 := s1.trans (same_upd (o := .lst ((["item", "marked"] : List Str).map V.str)) hM2)
        refine ⟨_, _, dp_names ["thing", "alphabet"] n2, dp_names ["item", "marked"] upd_same, (by decide +kernel), (by decide +kernel), _, rfl, ?_⟩
        rw [show PyData.eqv (.list ((["thing", "alphabet"] : List Str).map PyData.str)) (.list ((["item", "marked"] : List Str).map PyData.str)) = false from by decide +kernel]
        refine iteF ?_
        refine ⟨.ref N, rfl, _, _, rfl, .inl ⟨_, SqL.of n2, rfl⟩, rfl, _, rfl, iteT ⟨.ref N, rfl, N, _, _, _, rfl, rfl, SqL.of n2, rfl, rfl, _, rfl, ?_⟩⟩
        rw [show decide (V.str "thing" = V.str "thing") = true from by simp]
        refine iteT ⟨.ref N, rfl, N, _, _, _, rfl, rfl, SqL.of n2, rfl, .ref p.1, rfl, rfl, rfl, dd, _, _, rfl, e2, rfl, _, _, rfl, (rd.same s2).dp rok.nd, rok.sh, rok.nd, rok.dp, rok.sz, (by show 2 ≤ sizeLine; decide), fun t ht => ?_⟩
        exact q _ _ (s2.trans (same_upd ht)) (.tup upd_same (.cons (.str _) (.cons (.str _) .nil)))
      | letters rd rok =>
        rw [show nmOf "BadLetters" = (["thing", "letters"] : List Str) from by decide +kernel] at hN2
        refine ⟨.ref N, rfl, (by show 1 ≤ sizeLine; decide), fun M0 hM0 => ?_⟩
        have n0 := up1 (o := .lst ((["reader"] : List Str).map V.str)) hN2 hM0
        have e0 := up1 (o := .lst ((["reader"] : List Str).map V.str)) dz hM0
        have s0 := sH.trans (same_upd (o := .lst ((["reader"] : List Str).map V.str)) hM0)
        refine ⟨_, _, dp_names ["thing", "letters"] n0, dp_names ["reader"] upd_same, (by decide +kernel), (by decide +kernel), _, rfl, ?_⟩
        rw [show PyData.eqv (.list ((["thing", "letters"] : List Str).map PyData.str)) (.list ((["reader"] : List Str).map PyData.str)) = false from by decide +kernel]
        refine iteF ?_
        refine ⟨.ref N, rfl, (by show 1 ≤ sizeLine; decide), fun M1 hM1 => ?_⟩
        have n1 := up1 (o := .lst ((["row"] : List Str).map V.str)) n0 hM1
        have e1 := up1 (o := .lst ((["row"] : List Str).map V.str)) e0 hM1
        have s1 := s0.trans (same_upd (o := .lst ((["row"] : List Str).map V.str)) hM1)
        refine ⟨_, _, dp_names ["thing", "letters"] n1, dp_names ["row"] upd_same, (by decide +kernel), (by decide +kernel), _, rfl, ?_⟩
        rw [show PyData.eqv (.list ((["thing", "letters"] : List Str).map PyData.str)) (.list ((["row"] : List Str).map PyData.str)) = false from by decide +kernel]
        refine iteF ?_
        refine ⟨.ref N, rfl, (by show 2 ≤ sizeLine; decide), fun M2 hM2 => ?_⟩
        have n2 := up1 (o := .lst ((["item", "marked"] : List Str).map V.str)) n1 hM2
        have e2 := up1 (o := .lst ((["item", "marked"] : List Str).map V.str)) e1 hM2
        have s2 := s1.trans (same_upd (o := .lst ((["item", "marked"] : List Str).map V.str)) hM2)
        refine ⟨_, _, dp_names ["thing", "letters"] n2, dp_names ["item", "marked"] upd_same, (by decide +kernel), (by decide +kernel), _, rfl, ?_⟩
        rw [show PyData.eqv (.list ((["thing", "letters"] : List Str).map PyData.str)) (.list ((["item", "marked"] : List Str).map PyData.str)) = false from by decide +kernel]
        refine iteF ?_
        refine ⟨.ref N, rfl, _, _, rfl, .inl ⟨_, SqL.of n2, rfl⟩, rfl, _, rfl, iteT ⟨.ref N, rfl, N, _, _, _, rfl, rfl, SqL.of n2, rfl, rfl, _, rfl, ?_⟩⟩
        rw [show decide (V.str "thing" = V.str "thing") = true from by simp]
        refine iteT ⟨.ref N, rfl, N, _, _, _, rfl, rfl, SqL.of n2, rfl, .ref p.1, rfl, rfl, rfl, dd, _, _, rfl, e2, rfl, _, _, rfl, (rd.same s2).dp rok.nd, rok.sh, rok.nd, rok.dp, rok.sz, (by show 2 ≤ sizeLine; decide), fun t ht => ?_⟩
        exact q _ _ (s2.trans (same_upd ht)) (.tup upd_same (.cons (.str _) (.cons (.str _) .nil)))
      | place rd rok =>
        rw [show nmOf "BadPlace" = (["thing", "place"] : List Str) from by decide +kernel] at hN2
        refine ⟨.ref N, rfl, (by show 1 ≤ sizeLine; decide), fun M0 hM0 => ?_⟩
        have n0 := up1 (o := .lst ((["reader"] : List Str).map V.str)) hN2 hM0
        have e0 := up1 (o := .lst ((["reader"] : List Str).map V.str)) dz hM0
        have s0 := sH.trans (same_upd (o := .lst ((["reader"] : List Str).map V.str)) hM0)
        refine ⟨_, _, dp_names ["thing", "place"] n0, dp_names ["reader"] upd_same, (by decide +kernel), (by decide +kernel), _, rfl, ?_⟩
        rw [show PyData.eqv (.list ((["thing", "place"] : List Str).map PyData.str)) (.list ((["reader"] : List Str).map PyData.str)) = false from by decide +kernel]
        refine iteF ?_
        refine ⟨.ref N, rfl, (by show 1 ≤ sizeLine; decide), fun M1 hM1 => ?_⟩
        have n1 := up1 (o := .lst ((["row"] : List Str).map V.str)) n0 hM1
        have e1 := up1 (o := .lst ((["row"] : List Str).map V.str)) e0 hM1
        have s1 := s0.trans (same_upd (o := .lst ((["row"] : List Str).map V.str)) hM1)
        refine ⟨_, _, dp_names ["thing", "place"] n1, dp_names ["row"] upd_same, (by decide +kernel), (by decide +kernel), _, rfl, ?_⟩
        rw [show PyData.eqv (.list ((["thing", "place"] : List Str).map PyData.str)) (.list ((["row"] : List Str).map PyData.str)) = false from by decide +kernel]
        refine iteF ?_
        refine ⟨.ref N, rfl, (by show 2 ≤ sizeLine; decide), fun M2 hM2 => ?_⟩
        have n2 := up1 (o := .lst ((["item", "marked"] : List Str).map V.str)) n1 hM2
        have e2 := up1 (o := .lst ((["item", "marked"] : List Str).map V.str)) e1 hM2
        have s2 := s1.trans (same_upd (o := .lst ((["item", "marked"] : List Str).map V.str)) hM2)
        refine ⟨_, _, dp_names ["thing", "place"] n2, dp_names ["item", "marked"] upd_same, (by decide +kernel), (by decide +kernel), _, rfl, ?_⟩
        rw [show PyData.eqv (.list ((["thing", "place"] : List Str).map PyData.str)) (.list ((["item", "marked"] : List Str).map PyData.str)) = false from by decide +kernel]
        refine iteF ?_
        refine ⟨.ref N, rfl, _, _, rfl, .inl ⟨_, SqL.of n2, rfl⟩, rfl, _, rfl, iteT ⟨.ref N, rfl, N, _, _, _, rfl, rfl, SqL.of n2, rfl, rfl, _, rfl, ?_⟩⟩
        rw [show decide (V.str "thing" = V.str "thing") = true from by simp]
        refine iteT ⟨.ref N, rfl, N, _, _, _, rfl, rfl, SqL.of n2, rfl, .ref p.1, rfl, rfl, rfl, dd, _, _, rfl, e2, rfl, _, _, rfl, (rd.same s2).dp rok.nd, rok.sh, rok.nd, rok.dp, rok.sz, (by show 2 ≤ sizeLine; decide), fun t ht => ?_⟩
        exact q _ _ (s2.trans (same_upd ht)) (.tup upd_same (.cons (.str _) (.cons (.str _) .nil)))
      | marked hk =>
        rw [show nmOf "BadMarked" = (["item", "marked"] : List Str) from by decide +kernel] at hN2
        refine ⟨.ref N, rfl, (by show 1 ≤ sizeLine; decide), fun M0 hM0 => ?_⟩
        have n0 := up1 (o := .lst ((["reader"] : List Str).map V.str)) hN2 hM0
        have e0 := up1 (o := .lst ((["reader"] : List Str).map V.str)) dz hM0
        have s0 := sH.trans (same_upd (o := .lst ((["reader"] : List Str).map V.str)) hM0)
        refine ⟨_, _, dp_names ["item", "marked"] n0, dp_names ["reader"] upd_same, (by decide +kernel), (by decide +kernel), _, rfl, ?_⟩
        rw [show PyData.eqv (.list ((["item", "marked"] : List Str).map PyData.str)) (.list ((["reader"] : List Str).map PyData.str)) = false from by decide +kernel]
        refine iteF ?_
        refine ⟨.ref N, rfl, (by show 1 ≤ sizeLine; decide), fun M1 hM1 => ?_⟩
        have n1 := up1 (o := .lst ((["row"] : List Str).map V.str)) n0 hM1
        have e1 := up1 (o := .lst ((["row"] : List Str).map V.str)) e0 hM1
        have s1 := s0.trans (same_upd (o := .lst ((["row"] : List Str).map V.str)) hM1)
        refine ⟨_, _, dp_names ["item", "marked"] n1, dp_names ["row"] upd_same, (by decide +kernel), (by decide +kernel), _, rfl, ?_⟩
        rw [show PyData.eqv (.list ((["item", "marked"] : List Str).map PyData.str)) (.list ((["row"] : List Str).map PyData.str)) = false from by decide +kernel]
        refine iteF ?_
        refine ⟨.ref N, rfl, (by show 2 ≤ sizeLine; decide), fun M2 hM2 => ?_⟩
        have n2 := up1 (o := .lst ((["item", "marked"] : List Str).map V.str)) n1 hM2
        have e2 := up1 (o := .lst ((["item", "marked"] : List Str).map V.str)) e1 hM2
        have s2 := s1.trans (same_upd (o := .lst ((["item", "marked"] : List Str).map V.str)) hM2)
        refine ⟨_, _, dp_names ["item", "marked"] n2, dp_names ["item", "marked"] upd_same, (by decide +kernel), (by decide +kernel), _, rfl, ?_⟩
        rw [show PyData.eqv (.list ((["item", "marked"] : List Str).map PyData.str)) (.list ((["item", "marked"] : List Str).map PyData.str)) = true from by decide +kernel]
        have hr9 := reprOk_int hk
        refine iteT ⟨.ref p.1, rfl, rfl, rfl, dd, _, _, rfl, e2, rfl, _, _, rfl, .int _, hr9.sh, hr9.nd, hr9.dp, hr9.sz, (by show 2 ≤ sizeLine; decide), fun t ht => ?_⟩
        exact q _ _ (s2.trans (same_upd ht)) (.tup upd_same (.cons (.str _) (.cons (.str _) .nil)))
      | reader hk =>
        rw [show nmOf "BadReader" = (["reader"] : List Str) from by decide +kernel] at hN2
        refine ⟨.ref N, rfl, (by show 1 ≤ sizeLine; decide), fun M0 hM0 => ?_⟩
        have n0 := up1 (o := .lst ((["reader"] : List Str).map V.str)) hN2 hM0
        have e0 := up1 (o := .lst ((["reader"] : List Str).map V.str)) dz hM0
        have s0 := sH.trans (same_upd (o := .lst ((["reader"] : List Str).map V.str)) hM0)
        refine ⟨_, _, dp_names ["reader"] n0, dp_names ["reader"] upd_same, (by decide +kernel), (by decide +kernel), _, rfl, ?_⟩
        rw [show PyData.eqv (.list ((["reader"] : List Str).map PyData.str)) (.list ((["reader"] : List Str).map PyData.str)) = true from by decide +kernel]
        have hr9 := reprOk_int hk
        refine iteT ⟨.ref p.1, rfl, rfl, rfl, dd, _, _, rfl, e0, rfl, .ref p.1, rfl, rfl, rfl, dd, _, _, rfl, e0, rfl, _, _, rfl, .int _, hr9.sh, hr9.nd, hr9.dp, hr9.sz, (by show 3 ≤ sizeLine; decide), fun t ht => ?_⟩
        exact q _ _ (s0.trans (same_upd ht)) (.tup upd_same (.cons (.str _) (.cons (.str _) (.cons (.str _) .nil))))
      | row hk =>
        rw [show nmOf "BadRow" = (["row"] : List Str) from by decide +kernel] at hN2
        refine ⟨.ref N, rfl, (by show 1 ≤ sizeLine; decide), fun M0 hM0 => ?_⟩
        have n0 := up1 (o := .lst ((["reader"] : List Str).map V.str)) hN2 hM0
        have e0 := up1 (o := .lst ((["reader"] : List Str).map V.str)) dz hM0
        have s0 := sH.trans (same_upd (o := .lst ((["reader"] : List Str).map V.str)) hM0)
        refine ⟨_, _, dp_names ["row"] n0, dp_names ["reader"] upd_same, (by decide +kernel), (by decide +kernel), _, rfl, ?_⟩
        rw [show PyData.eqv (.list ((["row"] : List Str).map PyData.str)) (.list ((["reader"] : List Str).map PyData.str)) = false from by decide +kernel]
        refine iteF ?_
        refine ⟨.ref N, rfl, (by show 1 ≤ sizeLine; decide), fun M1 hM1 => ?_⟩
        have n1 := up1 (o := .lst ((["row"] : List Str).map V.str)) n0 hM1
        have e1 := up1 (o := .lst ((["row"] : List Str).map V.str)) e0 hM1
        have s1 := s0.trans (same_upd (o := .lst ((["row"] : List Str).map V.str)) hM1)
        refine ⟨_, _, dp_names ["row"] n1, dp_names ["row"] upd_same, (by decide +kernel), (by decide +kernel), _, rfl, ?_⟩
        rw [show PyData.eqv (.list ((["row"] : List Str).map PyData.str)) (.list ((["row"] : List Str).map PyData.str)) = true from by decide +kernel]
        have hr9 := reprOk_int hk
        refine iteT ⟨.ref p.1, rfl, rfl, rfl, dd, _, _, rfl, e1, rfl, _, _, rfl, .int _, hr9.sh, hr9.nd, hr9.dp, hr9.sz, (by show 2 ≤ sizeLine; decide), fun t ht => ?_⟩
        exact q _ _ (s1.trans (same_upd ht)) (.tup upd_same (.cons (.str _) (.cons (.str _) .nil)))
end
end Kx
set_option Elab.async false
set_option linter.all false
set_option maxRecDepth 100000
set_option maxHeartbeats 4000000
namespace Kx
open PySem PySem.Spec PyProof.Rows L2
/-! ### o(e, ..) in a try -/
section
variable {X : Cx} {CX : CXT} {k : Nat} {C g : Addr} {fd : FuncData} {ps : List Str} {sp : Sp} {E : L2.St → XK} {fe e : Expr} {es : List Expr} {tf : TE} {t : TA} {pos : Pos}
def tCallOS (C : Addr) (sp : Sp) (E : L2.St → XK) (tf : TE) (t : TA) : TE := fun σ H Q => tf σ H fun y H1 => ∃ a dx fs, y = V.ref a ∧ t σ H1 fun vs H2 => H2 a = some (.ins C dx fs) ∧ sp (V.ref a :: vs) H2 Q (E σ)
theorem pe_callOS (hf : PE X fe tf) (c : StX.CallO X.K C g) (F : FnOk X.prog X.w X.K X.mg X.base CX k g fd ps sp) (hr : Room k X.A) (hb : Binds X.K fd ps []) (hx : ∀ σ, PassesAt CX X σ (E σ)) (ha : PA X (e :: es) t)
    (ht : eval (.Call fe (e :: es) [] pos) X.env = (do callWith pos (← eval fe X.env) [] (backTo pos (starEach (e :: es) X.env)) (backToKw pos (keywordEach [] X.env))) := by rfl)
    (he : starEach (e :: es) X.env = (false, eval e X.env) :: starEach es X.env := by rfl) (hpl : (backTo pos (starEach es X.env)).any (·.1) = false := by rfl) : PE X (.Call fe (e :: es) [] pos) (tCallOS C sp E tf t) := by
  constructor
  intro pins s σ H Q I h
  refine Call_ (thn (hf.run pins s σ H _ I h) fun u s1 hh => ?_) ht
  obtain ⟨y, H1, I1, ry, a, dx, fs, rfl, q⟩ := hh
  obtain rfl : u = Value.ref a := ry
  refine StX.callO_with (thn (ha.run pos pins s1 σ H1 _ I1 q) fun us s2 hh => ?_) he hpl
  obtain ⟨vs, H2, I2, r, hi, q2⟩ := hh
  obtain ⟨ox, od, J, hd⟩ := StX.insC_at I2 (.inr ⟨dx, fs, hi⟩)
  refine ⟨⟨C, ox, od, J, hd⟩, ?_⟩
  have hl : ((Value.ref a :: us) ++ []).length = ps.length := by
    have h1 := F.len _ _ _ _ q2
    have h2 := r.length
    simp at h1 ⊢
    omega
  have b := hb s2 (.ref a :: us) I2.kIn hl
  rw [List.append_nil] at b
  have r2 : Vals (V.ref a :: vs) (Value.ref a :: us) := .cons rfl r
  refine wpAny_call (PySem.W.kco_code I2.kIn J hd c.at_ c.fn c.fi (codeAny_mono (F.run X.A X.stack s2 H2 ⟨.ref a :: us, []⟩ _ _ Q (E σ) hr I2.env0 b r2 q2) fun r s' hq => ?_))
  cases r with
  | error er => exact hx σ pins H2 s2 er s' I2 hq
  | ok fl =>
    cases fl with
    | ret u => exact I2.after hq
    | _ => exact False.elim hq
theorem psS_imp {b : List Stmt} {t t' : TS} (h : PSs X b t) (i : ∀ D σ H, t' D σ H → t D σ H) : PSs X b t' := ⟨fun pins s σ H D I h' => h.run pins s σ H D I (i D σ H h')⟩
end
section
variable {P : Program} {w : World} {K : PySem.W.Frag} {mg : Str → Option Value} {base : Heap}
/-- the suite `return _law_error_told(e)`: what it wishes of the exception -/
def tTold (K : PySem.W.Frag) (i : Nat) (a : Addr) (cls : Value) (d : Option Addr) : TS := fun D σ H => σ[i]? = some (some (.ref a)) ∧ ∃ (x : Str) (dd : Addr) (fs : List (Str × V)) (res : PyData), cls = .ref (He.ga K x) ∧ d = some dd ∧ H dd = some (.xd fs) ∧ Told H x fs res ∧
  ∀ H' t, Same H H' → Rt H' t res → D.rt t H'
/-- what a call may let out here -/
theorem passAtN {X : Cx} {W : WX} (tk : L2N.Takes X W) (σ : L2.St) : PassesAt (L2N.CX X.prog X.w) X σ (fun cls d H => W cls d σ H) := fun _ _ _ er s' I c => tk er s' (L2N.XE.of_call I (fun _ _ _ h => h) c)
theorem takes_no {X : Cx} : L2N.Takes X (fun _ _ _ _ => False) := fun u s' ⟨_, _, _, _, _, _, _, _, _, _, _, _, _, _, _, _, h⟩ => h.elim
theorem callO_pair {K mg} (T : Txt K mg) : StX.CallO K (He.ga K "Pair") (He.ma K (He.ga K "Pair") "__call__") := ⟨(meth___call__ T).at_, (pairF T).cfn, (pairF T).cfi⟩
/-- a pair's row, asked and told -/
def calledD (D : PairD) (d : PyData) : PyData := match wrongL D.al.cps.toList d with
  | some k => .tuple [.str "row", .str (PyData.int k).shown]
  | none => match d with
    | .str z => .tuple [.str "told", encB (marksP D z.cps.toList)]
    | _ => .none
def sp_law_called (K : PySem.W.Frag) : Sp := fun vs H Q _ => ∃ (x : Addr) (D : PairD) (v : V) (d : PyData), vs = [.ref x, v] ∧ PairAt K H x D ∧ PairOk D ∧ Rp H v d ∧ smallT d ∧ ∀ H' t, Same H H' → Rt H' t (calledD D d) → Q t H'
theorem firstNot_lt {al : List Nat} : ∀ {cs : List Nat} {k : Nat} {j : Int}, firstNot al cs k = some j → (k : Int) ≤ j ∧ j < k + cs.length
  | [], _, _, h => by cases h
  | c :: cs, k, j, h => by
    unfold firstNot at h
    simp only [List.length_cons]
    by_cases hc : c ∈ al
    · rw [if_pos hc] at h
      have := firstNot_lt h
      omega
    · rw [if_neg hc] at h
      cases h
      omega
theorem wrongL_lt {al : List Nat} {d : PyData} {k : Int} (h : wrongL al d = some k) : -1 ≤ k ∧ k ≤ 100000 := by
  cases d with
  | str z =>
    have h : (if z.length ≤ 200 then firstNot al z.cps.toList 0 else some (-1)) = some k := h
    by_cases hz : z.length ≤ 200
    · rw [if_pos hz] at h
      have h1 := firstNot_lt h
      have h2 : z.cps.toList.length = z.length := Array.length_toList
      omega
    · rw [if_neg hz] at h; cases h; omega
  | _ => cases h; omega
theorem ok_law_called (T : Txt K mg) : CalG P w K mg base CX0 5 "_law_called" ["_law_pair", "_law_row"] (sp_law_called K) := by
  obtain ⟨fd, F⟩ := F__law_called T
  obtain ⟨fdC, FC⟩ := F_Pair___call__ T
  obtain ⟨fdE, FE, bE, kE⟩ := ok_law_error_told (P := P) (w := w) (base := base) T
  have bC : Binds K fdC ["self", "row"] [] := FC.bindsN fun _ _ _ _ _ _ us hl => match us, hl with | [_, _], _ => rfl
  refine calG_mk F (g__law_called T) sc__law_called (fun _ _ _ _ _ _ us hl => match us, hl with | [_, _], _ => rfl) (fun vs H Q E h => ?_) (fun cdv A outer s H vs Q E hG hr h => ?_)
  · obtain ⟨x, D, v, d, rfl, _⟩ := h; rfl
  · refine ⟨_, PSs.nox (pss_one (L2N.ps_try_as (i := 2) (c := .ref (He.ga K "SaidError")) (ts := tTold K 2) (Wout := fun _ _ _ _ => False) rfl rfl sc__law_called.nd rfl rfl ⟨by rfl, by decide, .inl (g_SaidError T)⟩ takes_no
      (fun W pn xe tk po => pss_one (ps_ret (pe_tup (pa_cons pe_str (pa_cons (pe_callOS (E := fun σ cls d H => W cls d σ H) (pv 0) (callO_pair T) (ok_Pair_call T FC) hr bC (passAtN tk) (pa_cons (pv 1) pa_nil)) pa_nil)))))
      (fun a oe cls d pn hz hf => ?_))), ?_⟩
    · obtain ⟨us, hus⟩ := hf
      refine psS_imp (pss_one (ps_ret (pe_callHG (p := (a, oe)) (E := E0) FE hG ⟨(hr.mono (by decide : 1 ≤ 4)).dp, (hr.mono (by decide : 1 ≤ 4)).un⟩ ⟨rfl, us, hus, hz.2.2 us hus⟩ (List.mem_cons_self ..) (by rfl) (g__law_error_told T) kE bE (fun _ _ _ _ _ _ _ z => z.elim) (pa_cons (pv 2) pa_nil)))) (fun D σ H h' => ?_)
      obtain ⟨hσ, x, dd, fs, res, rfl, rfl, h1, h2, h3⟩ := h'
      exact ⟨.ref a, hσ, x, dd, fs, res, rfl, ⟨hz.1, hz.2.1⟩, ⟨us, hus⟩, h1, h2, h3⟩
    · obtain ⟨x, D, v, d, rfl, PA, PO, rd, sm, q⟩ := h
      have PA' := PA
      obtain ⟨dx, vl, vr, vm, vk, h1, _⟩ := PA'
      refine ⟨.ref x, rfl, x, dx, _, rfl, v, rfl, h1, x, D, v, d, rfl, PA, PO, rd, sm, fun k hk H1 s1 d1 hd1 => ?_, fun z hz hw H1 r s1 r1 => ?_⟩
      · have e : calledD D d = .tuple [.str "row", .str (PyData.int k).shown] := by unfold calledD; rw [hk]
        rw [e] at q
        refine ⟨true, said_of T 4, fun _ a ha => ⟨rfl, "BadRow", d1, _, _, rfl, rfl, upd_same, .row (wrongL_lt hk), fun H2 t s2 r2 => q H2 t (s1.trans ((same_upd hd1).trans s2)) r2⟩, fun h => by cases h⟩
      · subst hz
        have e : calledD D (.str z) = .tuple [.str "told", encB (marksP D z.cps.toList)] := by unfold calledD; rw [hw]
        rw [e] at q
        refine ⟨(by show 2 ≤ sizeLine; decide), fun t ht => ?_⟩
        exact q _ _ (s1.trans (same_upd ht)) (.tup upd_same (.cons (.str _) (.cons (r1.tups (Same.tups (same_upd ht))) .nil)))
end
end Kx
set_option Elab.async false
set_option linter.all false
set_option maxRecDepth 100000
set_option maxHeartbeats 4000000
namespace Kx
open PySem PySem.Spec PyProof.Rows L2
section
variable {X : Cx} {CX : CXT} {C f : Addr} {fd : FuncData} {ps : List Str} {k : Nat} {sp : Sp} {E : L2.St → XK} {a b : Expr} {ta tb : TE} {pos : Pos}
/-- x in o, in a try -/
theorem pe_inOS (F : FnOk X.prog X.w X.K X.mg X.base CX k f fd ps sp) (hr : Room k X.A) (hs : PySem.W.findIn X.K (.ref C) "__contains__" = some (some (.ref f))) (hf : PySem.W.isFn X.K (.ref f) = true) (hb : Binds X.K fd ps []) (hx : ∀ σ, PassesAt CX X σ (E σ))
    (ha : PE X a ta) (hb' : PE X b tb) (hm : behindInMarks .In b = false) : PE X (.Compare a [.In] [b] pos) (fun σ H Q => ta σ H fun x H1 => tb σ H1 fun y H2 => rInO C sp (E σ) x y H2 Q) := by
  constructor
  intro pins s σ H Q I h
  refine wpAny_Compare1 (binT ha hb' I h fun v u s2 x y H2 I2 rx ry hq => ?_) hm
  obtain ⟨o, dx, fs, rfl, eo, q⟩ := hq
  obtain rfl : u = .ref o := ry
  obtain ⟨mA, O, _⟩ := ins_get I2.hok eo
  obtain ⟨od, J, _⟩ := O.look
  have hcall := run_fnS (us := [.ref o, v]) (vs := [.ref o, x]) F hr hb (hx σ) I2 (.cons rfl (.cons rx .nil)) q
  show wpAny _ _ (contains (Value.ref o) v >>= fun b => pure (Value.bool b)) _ _ _
  refine wpAny_bind ?_
  unfold contains
  refine wpAny_holding (wpAny_bind (wpAny_bind (J.type.here ((PySem.W.looks_findIn I2.kIn hs).here ?_))))
  rw [if_neg (by simp)]
  refine wpAny_bind (PySem.W.unlessNone_K I2.kIn J hs hf (wpAny_mono hcall (fun r s' z => ?_) fun _ _ z => z))
  obtain ⟨z, H', I', rz, b, ez, q'⟩ := z
  subst ez
  cases rz
  exact wpAny_truthy_bool (wpAny_pure ⟨.bl b, H', I', rfl, q'⟩)
end
section
variable {P : Program} {w : World} {K : PySem.W.Frag} {mg : Str → Option Value} {base : Heap}
/-- whether it is marked there, asked and told -/
def askedD (D : PairD) (d e : PyData) : PyData := match wrongL D.al.cps.toList d with
  | some k => .tuple [.str "row", .str (PyData.int k).shown]
  | none => match d with
    | .str z => if belowD z.length e = true then .tuple [.str "told", .bool ((marksP D z.cps.toList).getD (natD e) false)] else .tuple [.str "place", .str e.shown]
    | _ => .none
def sp_law_asked (K : PySem.W.Frag) : Sp := fun vs H Q _ => ∃ (x : Addr) (D : PairD) (vp : V) (dp d e : PyData), vs = [.ref x, vp] ∧ PairAt K H x D ∧ PairOk D ∧ Rp H vp dp ∧ itemsD dp = some [d, e] ∧ smallT d ∧ ReprOk e ∧ ∀ H' t, Same H H' → Rt H' t (askedD D d e) → Q t H'
theorem ok_law_asked (T : Txt K mg) : CalG P w K mg base CX0 5 "_law_asked" ["_law_pair", "_law_placed"] (sp_law_asked K) := by
  obtain ⟨fd, F⟩ := F__law_asked T
  obtain ⟨fdC, FC⟩ := F_Pair___contains__ T
  obtain ⟨fdE, FE, bE, kE⟩ := ok_law_error_told (P := P) (w := w) (base := base) T
  have bC : Binds K fdC ["self", "placed"] [] := FC.bindsN fun _ _ _ _ _ _ us hl => match us, hl with | [_, _], _ => rfl
  refine calG_mk F (g__law_asked T) sc__law_asked (fun _ _ _ _ _ _ us hl => match us, hl with | [_, _], _ => rfl) (fun vs H Q E h => ?_) (fun cdv A outer s H vs Q E hG hr h => ?_)
  · obtain ⟨x, D, vp, dp, d, e, rfl, _⟩ := h; rfl
  · refine ⟨_, PSs.nox (pss_one (L2N.ps_try_as (i := 2) (c := .ref (He.ga K "SaidError")) (ts := tTold K 2) (Wout := fun _ _ _ _ => False) rfl rfl sc__law_asked.nd rfl rfl ⟨by rfl, by decide, .inl (g_SaidError T)⟩ takes_no
      (fun W pn xe tk po => pss_one (ps_ret (pe_tup (pa_cons pe_str (pa_cons (pe_inOS (C := He.ga K "Pair") (E := fun σ cls d H => W cls d σ H) (ok_Pair_contains T FC) hr (meth___contains__ T).at_ (meth___contains__ T).fn bC (passAtN tk) (pv 1) (pv 0) rfl) pa_nil)))))
      (fun a oe cls d pn hz hf => ?_))), ?_⟩
    · obtain ⟨us, hus⟩ := hf
      refine psS_imp (pss_one (ps_ret (pe_callHG (p := (a, oe)) (E := E0) FE hG ⟨(hr.mono (by decide : 1 ≤ 4)).dp, (hr.mono (by decide : 1 ≤ 4)).un⟩ ⟨rfl, us, hus, hz.2.2 us hus⟩ (List.mem_cons_self ..) (by rfl) (g__law_error_told T) kE bE (fun _ _ _ _ _ _ _ z => z.elim) (pa_cons (pv 2) pa_nil)))) (fun D σ H h' => ?_)
      obtain ⟨hσ, x, dd, fs, res, rfl, rfl, h1, h2, h3⟩ := h'
      exact ⟨.ref a, hσ, x, dd, fs, res, rfl, ⟨hz.1, hz.2.1⟩, ⟨us, hus⟩, h1, h2, h3⟩
    · obtain ⟨x, D, vp, dp, d, e, rfl, PA, PO, rp, hi, sm, ro, q⟩ := h
      have PA' := PA
      obtain ⟨dx, vl, vr, vm, vk, h1, _⟩ := PA'
      refine ⟨vp, rfl, .ref x, rfl, x, dx, _, rfl, h1, x, D, vp, dp, d, e, rfl, PA, PO, rp, hi, sm, fun k hk H1 s1 d1 hd1 => ?_, fun z hz hw => ⟨fun hbe ve re H1 s1 d1 hd1 => ?_, fun n hn hlt H1 s1 => ⟨_, rfl, ?_⟩⟩⟩
      · have e1 : askedD D d e = .tuple [.str "row", .str (PyData.int k).shown] := by unfold askedD; rw [hk]
        rw [e1] at q
        refine ⟨true, said_of T 4, fun _ a ha => ⟨rfl, "BadRow", d1, _, _, rfl, rfl, upd_same, .row (wrongL_lt hk), fun H2 t s2 r2 => q H2 t (s1.trans ((same_upd hd1).trans s2)) r2⟩, fun h => by cases h⟩
      · subst hz
        have e1 : askedD D (.str z) e = .tuple [.str "place", .str e.shown] := by unfold askedD; rw [hw]; exact if_neg (by rw [hbe]; exact Bool.false_ne_true)
        rw [e1] at q
        refine ⟨true, said_of T 1, fun _ a ha => ⟨rfl, "BadPlace", d1, _, _, rfl, rfl, upd_same, .place (re.same (s1.trans (same_upd hd1))) ro, fun H2 t s2 r2 => q H2 t (s1.trans ((same_upd hd1).trans s2)) r2⟩, fun h => by cases h⟩
      · subst hz
        subst hn
        have hb1 : belowD z.length (.int (n : Nat)) = true := by show (decide ((0 : Int) ≤ (n : Nat)) && decide (((n : Nat) : Int) < (z.length : Nat))) = true; simp; omega
        have e1 : askedD D (.str z) (.int (n : Nat)) = .tuple [.str "told", .bool ((marksP D z.cps.toList).getD n false)] := by unfold askedD; rw [hw]; exact if_pos hb1
        rw [e1] at q
        refine ⟨(by show 2 ≤ sizeLine; decide), fun t ht => ?_⟩
        exact q _ _ (s1.trans (same_upd ht)) (.tup upd_same (.cons (.str _) (.cons (.bl _) .nil)))
end
end Kx
set_option Elab.async false
set_option linter.all false
set_option maxRecDepth 100000
set_option maxHeartbeats 4000000
namespace Kx
open PySem PySem.Spec PyProof.Rows L2
section
variable {X : Cx} {CX : CXT} {C f : Addr} {fd : FuncData} {ps : List Str} {k : Nat} {sp : Sp} {E : L2.St → XK} {x : Str} {e : Expr} {es : List Expr} {t : TA} {p pos : Pos}
/-- C(e, ..), in a try -/
def tMakeS (C : Addr) (sp : Sp) (E : L2.St → XK) (t : TA) : TE := fun σ H Q => t σ H fun vs H1 => ∀ x dx, H1 x = none → H1 dx = none → dx ≠ x → sp (.ref x :: vs) (upd (upd H1 dx (.own x)) x (.ins C dx [])) (fun v H2 => v = .non ∧ Q (.ref x) H2) (E σ)
theorem pe_makeS (M : Mk X.K C f) (F : FnOk X.prog X.w X.K X.mg X.base CX k f fd ps sp) (hr : Room (k + 1) X.A) (hg : Gl X x) (hm : X.mg x = some (.ref C)) (hb : Binds X.K fd ps []) (hx : ∀ σ, PassesAt CX X σ (E σ)) (ha : PA X (e :: es) t)
    (hdb : (x == ("__debug__" : Str)) = false := by decide) (he : starEach (e :: es) X.env = (false, eval e X.env) :: starEach es X.env := by rfl) (hpl : (backTo pos (starEach es X.env)).any (·.1) = false := by rfl) : PE X (.Call (.Name x p) (e :: es) [] pos) (tMakeS C sp E t) := by
  constructor
  intro pins s σ H Q I h
  refine wpAny_Call_Name_kw (ld_glob I hg hm ?_ hdb)
  refine PySem.W.callWith_K (h₀ := X.base) I.ok.mod.kin M.kp (thn (ha.run pos pins s σ H _ I h) fun us s1 hh => ?_) he hpl
  obtain ⟨vs, H1, I1, r, h1⟩ := hh
  refine ⟨I1.kIn, ?_⟩
  have hq := h1 (s1.heap.objs.size + 1) s1.heap.objs.size (I1.hok.fresh (Nat.le_succ _)) (I1.hok.fresh (Nat.le_refl _)) (Nat.ne_of_lt (Nat.lt_succ_self _))
  have I2 := Inv.made (C := C) I1
  have r2 : Vals (V.ref (s1.heap.objs.size + 1) :: vs) (Value.ref (s1.heap.objs.size + 1) :: us) := .cons rfl r
  have hl : (Value.ref (s1.heap.objs.size + 1) :: us ++ []).length = ps.length := by
    rw [List.append_nil, ← F.len _ _ _ _ hq]
    exact r2.length.symm
  have b := hb _ (Value.ref (s1.heap.objs.size + 1) :: us) I2.kIn hl
  rw [List.append_nil] at b
  refine wpAny_call (make_map (f := f) I1.kIn M.makes M.init (beq_iff_eq.mp M.fn) (codeAny_mono (F.run _ X.stack _ _ ⟨Value.ref (s1.heap.objs.size + 1) :: us, []⟩ _ _ _ (E σ) (hr.make C us []) (I2.env0.make C us []) b r2 hq) fun r s' hq' => ?_))
  cases r with
  | error er => exact hx σ pins _ _ er s' I2 hq'
  | ok fl =>
    cases fl with
    | ret u =>
      obtain ⟨v, H', I3, rv, ev, q3⟩ := I2.after hq'
      subst ev
      exact ⟨rv, V.ref (s1.heap.objs.size + 1), H', I3, rfl, q3⟩
    | _ => exact False.elim hq'
end
/-- what stood ahead of a making stands behind it -/
theorem sameX_made {H H' : Hp} {x dx C : Addr} (hx : H x = none) (hd : H dx = none) (s : SameX x (upd (upd H dx (.own x)) x (.ins C dx [])) H') : Same H H' := fun b o e => by
  have h1 := ne_of_none e hx
  exact s b o h1 (by rw [upd_ne h1, upd_ne (ne_of_none e hd)]; exact e)
theorem same_made {H : Hp} {x dx C : Addr} (hx : H x = none) (hd : H dx = none) : Same H (upd (upd H dx (.own x)) x (.ins C dx [])) := fun b o e => by
  rw [upd_ne (ne_of_none e hx), upd_ne (ne_of_none e hd)]; exact e
theorem pair_data {l r m : PyData} {z : Str} (h : pairDue (.str z) l r m = .ok) : keptD l = encR (tabD l) ∧ keptD r = encR (tabD r) ∧ keptD m = encT (trisD m) := by
  unfold pairDue at h
  split at h
  · split at h
    · cases h
    · rename_i h1
      split at h
      · cases h
      · rename_i h2
        split at h
        · cases h
        · rename_i h3
          exact ⟨(reader_back h1).1, (reader_back h2).1, (marked_back h3).1⟩
  · cases h
theorem due_left {a l r m : PyData} {k : Int} (h : pairDue a l r m = .left k) : -1 ≤ k ∧ k ≤ 100000 := by
  unfold pairDue at h
  split at h
  · split at h
    · rename_i j h1
      cases h
      exact readerDue_lt h1
    · split at h
      · cases h
      · split at h <;> cases h
  · cases h
theorem due_right {a l r m : PyData} {k : Int} (h : pairDue a l r m = .right k) : -1 ≤ k ∧ k ≤ 100000 := by
  unfold pairDue at h
  split at h
  · split at h
    · cases h
    · split at h
      · rename_i j h1
        cases h
        exact readerDue_lt h1
      · split at h <;> cases h
  · cases h
theorem due_marked {a l r m : PyData} {k : Int} (sm : smallM m) (h : pairDue a l r m = .marked k) : -1 ≤ k ∧ k ≤ 100000 := by
  unfold pairDue at h
  split at h
  · split at h
    · cases h
    · split at h
      · cases h
      · split at h
        · rename_i j h1
          cases h
          exact markedDue_lt sm h1
        · cases h
  · cases h
theorem due_alph {a l r m : PyData} (h : pairDue a l r m = .ok) : ∃ z, a = .str z := by
  unfold pairDue at h
  split at h
  · rename_i hb
    cases a <;> first | exact ⟨_, rfl⟩ | (exact Bool.noConfusion hb)
  · cases h
section
variable {P : Program} {w : World} {K : PySem.W.Frag} {mg : Str → Option Value} {base : Heap}
def sp_law_made : Sp := fun vs H Q _ => ∃ (va vl vr vm : V) (a l r m : PyData), vs = [va, vl, vr, vm] ∧ Rp H va a ∧ Rp H vl l ∧ Rp H vr r ∧ Rp H vm m ∧ smallA a l r m ∧ (alphaD a = false → ReprOk a) ∧
  ∀ H' t, Same H H' → Rt H' t (dueD a l r m) → Q t H'
theorem ok_law_made (T : Txt K mg) (GM : Cal P w K mg base CX0 2 "masks_of_triples" ["alphabet", "many", "marked"] sp_masks_of_triples) : CalG P w K mg base CX0 7 "_law_made" ["_law_alphabet_here", "_law_left", "_law_right", "_law_marked_here"] sp_law_made := by
  obtain ⟨fd, F⟩ := F__law_made T
  obtain ⟨fdI, FI⟩ := F_Pair___init__ T
  obtain ⟨fdE, FE, bE, kE⟩ := ok_law_error_told (P := P) (w := w) (base := base) T
  have bI : Binds K fdI ["self", "alphabet", "left", "right", "marked"] [] := FI.bindsN fun _ _ _ _ _ _ us hl => match us, hl with | [_, _, _, _, _], _ => rfl
  refine calG_mk F (g__law_made T) sc__law_made (fun _ _ _ _ _ _ us hl => match us, hl with | [_, _, _, _], _ => rfl) (fun vs H Q E h => ?_) (fun cdv A outer s H vs Q E hG hr h => ?_)
  · obtain ⟨va, vl, vr, vm, a, l, r, m, rfl, _⟩ := h; rfl
  · refine ⟨_, PSs.nox (pss_cons (L2N.ps_try_as (i := 5) (c := .ref (He.ga K "SaidError")) (ts := tTold K 5) (Wout := fun _ _ _ _ => False) rfl rfl sc__law_made.nd rfl rfl ⟨by rfl, by decide, .inl (g_SaidError T)⟩ takes_no
      (fun W pn xe tk po => pss_one (ps_set (i := 4) sc__law_made.nd rfl (Or.inl rfl) (pe_makeS (E := fun σ cls d H => W cls d σ H) (mkr_Pair T) (ok_Pair_init T FI GM) hr (by rfl) (g_Pair T) bI (passAtN tk) (pa_cons (pv 0) (pa_cons (pv 1) (pa_cons (pv 2) (pa_cons (pv 3) pa_nil)))))))
      (fun a oe cls d pn hz hf => ?_))
      (pss_one (ps_ret (pe_tup (pa_cons pe_str (pa_cons (pe_fld (pv 4) rfl) (pa_cons (pe_fld (pv 4) rfl) (pa_cons (pe_fld (pv 4) rfl) (pa_cons (pe_fld (pv 4) rfl) pa_nil))))))))), ?_⟩
    · obtain ⟨us, hus⟩ := hf
      refine psS_imp (pss_one (ps_ret (pe_callHG (p := (a, oe)) (E := E0) FE hG ⟨(hr.mono (by decide : 1 ≤ 6)).dp, (hr.mono (by decide : 1 ≤ 6)).un⟩ ⟨rfl, us, hus, hz.2.2 us hus⟩ (List.mem_cons_self ..) (by rfl) (g__law_error_told T) kE bE (fun _ _ _ _ _ _ _ z => z.elim) (pa_cons (pv 5) pa_nil)))) (fun D σ H h' => ?_)
      obtain ⟨hσ, x, dd, fs, res, rfl, rfl, h1, h2, h3⟩ := h'
      exact ⟨.ref a, hσ, x, dd, fs, res, rfl, ⟨hz.1, hz.2.1⟩, ⟨us, hus⟩, h1, h2, h3⟩
    · obtain ⟨va, vl, vr, vm, a, l, r, m, rfl, ra, rl, rr, rm, sm, ro, q⟩ := h
      refine ⟨va, rfl, vl, rfl, vr, rfl, vm, rfl, fun x dx hx hd hne => ?_⟩
      have s0 := same_made (C := He.ga K "Pair") hx hd
      refine ⟨x, dx, va, vl, vr, vm, a, l, r, m, rfl, upd_same, by rw [upd_ne hne]; exact upd_same, hne, ra.same s0, rl.same s0, rr.same s0, rm.same s0, sm, fun H1 sx => ?_, fun hok H1 sx PA PO => ?_⟩
      · have s1 := sameX_made hx hd sx
        intro d1 hd1
        have s2 := s1.trans (same_upd (o := .xd [("thing", va)]) hd1)
        cases hdue : pairDue a l r m with
        | alph =>
          have e1 : dueD a l r m = .tuple [.str "alphabet", .str a.shown] := by unfold dueD; rw [hdue]
          rw [e1] at q
          have hb : alphaD a = false := by
            cases h : alphaD a with
            | false => rfl
            | true =>
              exfalso
              unfold pairDue at hdue
              rw [if_pos h] at hdue
              split at hdue
              · cases hdue
              · split at hdue
                · cases hdue
                · split at hdue <;> cases hdue
          exact ⟨true, said_of T 0, fun _ b hb' => ⟨rfl, "BadAlphabet", d1, _, _, rfl, rfl, upd_same, .alph (ra.same s2) (ro hb), fun H2 t s3 r2 => q H2 t (s2.trans s3) r2⟩, fun h => by cases h⟩
        | left k =>
          have e1 : dueD a l r m = .tuple [.str "reader", .str "left", .str (PyData.int k).shown] := by unfold dueD; rw [hdue]
          rw [e1] at q
          exact ⟨true, said_of T 5, fun _ b hb' => ⟨rfl, "BadReader", d1, _, _, rfl, rfl, upd_same, .reader (due_left hdue), fun H2 t s3 r2 => q H2 t (s1.trans ((same_upd hd1).trans s3)) r2⟩, fun h => by cases h⟩
        | right k =>
          have e1 : dueD a l r m = .tuple [.str "reader", .str "right", .str (PyData.int k).shown] := by unfold dueD; rw [hdue]
          rw [e1] at q
          exact ⟨true, said_of T 5, fun _ b hb' => ⟨rfl, "BadReader", d1, _, _, rfl, rfl, upd_same, .reader (due_right hdue), fun H2 t s3 r2 => q H2 t (s1.trans ((same_upd hd1).trans s3)) r2⟩, fun h => by cases h⟩
        | marked k =>
          have e1 : dueD a l r m = .tuple [.str "marked", .str (PyData.int k).shown] := by unfold dueD; rw [hdue]
          rw [e1] at q
          exact ⟨true, said_of T 3, fun _ b hb' => ⟨rfl, "BadMarked", d1, _, _, rfl, rfl, upd_same, .marked (due_marked sm.2.2.2 hdue), fun H2 t s3 r2 => q H2 t (s1.trans ((same_upd hd1).trans s3)) r2⟩, fun h => by cases h⟩
        | ok => trivial
      · obtain ⟨z, rfl⟩ := due_alph hok
        obtain ⟨eL, eR, eM⟩ := pair_data hok
        have e1 : dueD (.str z) l r m = .tuple [.str "pair", .str z, keptD l, keptD r, keptD m] := by unfold dueD; rw [hok]
        rw [e1, eL, eR, eM] at q
        have s1 := sameX_made hx hd sx
        obtain ⟨dy, wl, wr, wm, wk, h1, h2, h3, h4, h5, h6⟩ := PA
        have Cp := cls_Pair T
        refine ⟨rfl, .ref x, rfl, x, _, dy, _, _, rfl, h1, Cp, noat_alphabet T, rfl, .ref x, rfl, x, _, dy, _, wl, rfl, h1, Cp, noat_left T, rfl, .ref x, rfl, x, _, dy, _, wr, rfl, h1, Cp, noat_right T, rfl, .ref x, rfl, x, _, dy, _, wm, rfl, h1, Cp, noat_marked T, rfl, (by show 5 ≤ sizeLine; decide), fun t ht => ?_⟩
        have s9 := same_upd (o := .tup [.str "pair", .str z, wl, wr, wm]) ht
        exact q _ _ (s1.trans s9) (.tup upd_same (.cons (.str _) (.cons (.str _) (.cons (h3.tups (Same.tups s9)) (.cons (h4.tups (Same.tups s9)) (.cons (h5.tups (Same.tups s9)) .nil))))))
end
end Kx
set_option Elab.async false
set_option linter.all false
set_option maxRecDepth 100000
set_option maxHeartbeats 4000000
namespace Kx
open PySem PySem.Spec PyProof.Rows L2
section
variable {P : Program} {w : World} {K : PySem.W.Frag} {mg : Str → Option Value} {base : Heap}
theorem Fra.over {a : Addr} {H H' : Hp} {D : Addr} {o : HO} (f : Fra a H H') (hD : H D = none) (hna : D ≠ a) : Fra a H (upd H' D o) := by
  refine ⟨?_, fun b u e => ?_⟩
  · obtain ⟨A, S, C, e⟩ := f.src
    exact ⟨A, S, C, by rw [upd_ne (Ne.symm hna)]; exact e⟩
  · have h1 := f.sm b u e
    by_cases hb : b = a
    · subst hb; rw [del_same] at e; cases e
    · rw [del_ne hb] at e h1 ⊢
      rw [upd_ne (ne_of_none e hD)]
      exact h1
def one1 (c : Nat) : Str := ⟨#[c]⟩
def sp_law_word : Sp := fun vs H Q _ => ∃ (a : Addr) (al : Str) (most : Nat), vs = [.ref a, .str al, .int (most : Nat)] ∧ 1 ≤ al.length ∧ al.length ≤ 8 ∧ most ≤ 200 ∧ SrcAt H a ∧
  ∀ H' (cs : List Nat), Fra a H H' → (∀ c ∈ cs, c ∈ al.cps.toList) → cs.length ≤ most → Q (.str (Txt.join "" (cs.map one1))) H'
theorem ok_law_word (T : Txt K mg) : Cal P w K mg base CX0 2 "_law_word" ["_law_source_here", "_law_alphabet_here", "_law_most"] sp_law_word := by
  obtain ⟨fd, F⟩ := F__law_word T
  refine cal_mk F (g__law_word T) sc__law_word (fun _ _ _ _ _ _ us hl => match us, hl with | [_, _, _], _ => rfl) (fun vs H Q E h => ?_) (fun cdv A outer s H vs Q E hr h => ?_)
  · obtain ⟨a, al, most, rfl, _⟩ := h; rfl
  · refine ⟨_, PSs.nox (pss_cons (ps_set (i := 3) sc__law_word.nd rfl (Or.inl rfl) (pe_cal (ok_law_pick T) hr pass0 (pa_cons (pv 0) (pa_cons (pe_op op_add (pv 2) pe_int) pa_nil))))
      (pss_one (ps_ret (pe_join pe_str (pe_lc (own := [("_law_k", 4)]) (g := gName 4) (tt := tYes) rfl sc__law_word.nd (pi_range1 (by rfl) (fr_range T) (pa_cons (pv 3) pa_nil)) (blkOk_by (N := N__law_word) (sc := defScope s__law_word) (by decide +kernel))
        (fun _ _ _ _ _ => pg_name (i := 4) sc__law_word.nd rfl (Or.inl rfl)) (fun _ _ _ _ _ => pts_nil)
        (fun _ _ _ _ _ => by refine pe_ix (ta := tVar 1) (tb := tCall sp_law_pick [] E0 (tCons (tVar 0) (tCons (tCB (rLen K) (tCons (tVar 1) tNil)) tNil))) (r := rIx K) ?_ (pv 1) ?_ (fun _ _ => rfl); exact ix_seq; exact pe_cal (ok_law_pick T) hr pass0 (pa_cons (pv 0) (pa_cons (pe_callB call_len (by rfl) (fr_len T) boot_len (pa_cons (pv 1) pa_nil)) pa_nil)))))))), ?_⟩
    obtain ⟨a, al, most, rfl, h1, h8, hm, hs, q⟩ := h
    refine ⟨.ref a, rfl, .int (most : Nat), rfl, _, 1, rfl, rfl, a, _, rfl, (by omega), (by omega), hs, fun A1 S1 C1 d hd0 hd1 => ?_⟩
    have f1 : Fra a H (upd H a (three A1 S1 C1)) := Fra.drawn A1 S1 C1
    generalize upd H a (three A1 S1 C1) = H1 at f1
    obtain ⟨n, rfl⟩ := Int.eq_ofNat_of_zero_le hd0
    have hn : n ≤ most := by omega
    refine ⟨⟨"", rfl⟩, .int (n : Nat), rfl, (n : Nat), rfl, (by omega), (by omega), fun D hD => ?_⟩
    have hna : D ≠ a := fun z => by
      obtain ⟨A, S, C, e⟩ := f1.src
      rw [← z, hD] at e
      cases e
    have en : ((n : Nat) : Int).toNat = n := by omega
    rw [en]
    refine lc_it (walk_range (n := n)) (tt := tYes) (fun i H2 => ∃ cs : List Nat, H2 D = some (.lst (cs.map fun c => V.str (one1 c))) ∧ cs.length = i ∧ (∀ c ∈ cs, c ∈ al.cps.toList) ∧ Fra a H1 H2)
      ⟨[], upd_same, rfl, fun c hc => (by cases hc), Fra.same f1.src (same_upd hD)⟩ (fun _ _ _ _ => trivial) ?_ ?_
    · rintro i x H2 H3 hi ⟨cs, hDc, hl, hc, f2⟩ ⟨eH, ex0⟩
      replace eH := eH.symm
      subst eH
      refine ⟨rfl, .str al, rfl, .ref a, rfl, .str al, rfl, _, _, rfl, lenV_str (Nat.le_trans h8 (by decide)), a, _, rfl, (by omega), (by omega), f2.src, fun A2 S2 C2 d2 hd2 hd3 => ?_⟩
      have f3 : Fra a H2 (upd H2 a (three A2 S2 C2)) := Fra.drawn A2 S2 C2
      obtain ⟨m, rfl⟩ := Int.eq_ofNat_of_zero_le hd2
      have hml : m < al.cps.toList.length := by have e : al.cps.toList.length = al.length := Array.length_toList; omega
      have hD3 : upd H2 a (three A2 S2 C2) D = some (.lst (cs.map fun c => V.str (one1 c))) := by rw [upd_ne hna]; exact hDc
      refine rIx_str (Nat.le_trans h8 (by decide)) (List.getElem?_eq_getElem hml) ⟨_, hD3, ?_, cs ++ [al.cps.toList[m]], ?_, ?_, ?_, ?_⟩
      · rw [List.length_map, hl]
        exact Nat.lt_of_lt_of_le (by have : i < n := hi; omega : i < 201) (by decide)
      · rw [upd_same, List.map_append]
        rfl
      · rw [List.length_append, hl]
        rfl
      · intro c hcc
        rcases List.mem_append.mp hcc with h | h
        · exact hc c h
        · rw [List.mem_singleton.mp h]
          exact List.getElem_mem hml
      · exact (f2.trans f3).over hD hna
    · rintro H2 ⟨cs, hDc, hl, hc, f2⟩
      have hj : (((cs.map one1).map V.str)) = cs.map fun c => V.str (one1 c) := by rw [List.map_map]; rfl
      refine ⟨"", D, cs.map one1, rfl, rfl, .inl (SqL.of (by rw [hDc, hj])), ?_, q H2 cs (f1.trans f2) hc (by omega)⟩
      have e : ((cs.map one1).map (·.length)).sum = cs.length := by
        clear hDc hl hc f2 hj
        induction cs with
        | nil => rfl
        | cons c cs ih => simp only [List.map_cons, List.sum_cons, ih, List.length_cons]; show 1 + cs.length = cs.length + 1; omega
      rw [e]
      have e0 : ("" : Str).length = 0 := rfl
      rw [e0]
      omega
end
end Kx
set_option Elab.async false
set_option linter.all false
set_option maxRecDepth 100000
set_option maxHeartbeats 4000000
namespace Kx
open PySem PySem.Spec PyProof.Rows L2
theorem op_is_bl {X : Cx} : OpR X (compareOp .Is) (fun x y H Q => ∃ i j, x = .bl i ∧ y = .bl j ∧ Q (.bl (i == j)) H) := by
  intro pins s σ H x y v u Q I rx ry h
  obtain ⟨i, j, rfl, rfl, q⟩ := h
  cases rx
  cases ry
  exact is_bool ⟨.bl (i == j), H, I, rfl, q⟩
section
variable {P : Program} {w : World} {K : PySem.W.Frag} {mg : Str → Option Value} {base : Heap}
def sp_law_bools : Sp := fun vs H Q _ => ∃ (v : V) (n : Nat) (bs : List Bool), vs = [v, .int (n : Nat)] ∧ Rt H v (encB bs) ∧ bs.length ≤ 1000 ∧ ∀ H', Same H H' → Q (.bl (decide (bs.length = n))) H'
theorem ok_law_bools (T : Txt K mg) : Cal P w K mg base CX0 1 "_law_bools" ["_law_thing", "_law_size"] sp_law_bools := by
  obtain ⟨fd, F⟩ := F__law_bools T
  refine cal_mk F (g__law_bools T) sc__law_bools (fun _ _ _ _ _ _ us hl => match us, hl with | [_, _], _ => rfl) (fun vs H Q E h => ?_) (fun cdv A outer s H vs Q E hr h => ?_)
  · obtain ⟨v, n, bs, rfl, _⟩ := h; rfl
  · refine ⟨_, PSs.nox (pss_one (ps_ret (pe_and (pe_callB call_isB (by rfl) (fr_isinstance T) b_isinstance (pa_cons (pv 0) (pa_cons (pe_ty (fr_tuple T) b_tuple) pa_nil)))
      (pe_and (pe_cmpR op_eq (pe_callB call_len (by rfl) (fr_len T) boot_len (pa_cons (pv 0) pa_nil)) (pv 1) (nomark _))
      (pe_one (pe_callB (cr_all rfl) (by rfl) (fr_all T) b_all (pa_cons (pe_lc (own := [("_law_one", 2)]) (g := gName 2) (tt := tYes) rfl sc__law_bools.nd (pi_tup (pv 0)) (blkOk_by (N := N__law_bools) (sc := defScope s__law_bools) (by decide +kernel))
        (fun _ _ _ _ _ => pg_name (i := 2) sc__law_bools.nd rfl (Or.inl rfl)) (fun _ _ _ _ _ => pts_nil) (fun _ _ _ _ _ => pe_or (pe_cmpR op_is_bl (pv 2) pe_bl (nomark _)) (pe_one (pe_cmpR op_is_bl (pv 2) pe_bl (nomark _))))) pa_nil))))))), ?_⟩
    obtain ⟨v, n, bs, rfl, rt, hbs, q⟩ := h
    unfold encB at rt
    cases rt with
    | @tup a xs _ ha hx =>
      have hl : xs.length = bs.length := by have := hx.length; rwa [List.length_map] at this
      refine ⟨.ref a, rfl, .ref a, "tuple", .tup, rfl, .base (.tup ha), k_tuple _, _, rfl, iteT ?_⟩
      refine ⟨.ref a, rfl, _, _, rfl, lenV_sq (.inr ha) hl, .int (n : Nat), rfl, rfl, _, rfl, ?_⟩
      by_cases hn : bs.length = n
      case neg =>
        have e : decide (V.int (bs.length : Nat) = V.int (n : Nat)) = false := by simp; omega
        rw [e]
        have := q H (Same.refl H)
        rw [decide_eq_false hn] at this
        exact iteF this
      have e : decide (V.int (bs.length : Nat) = V.int (n : Nat)) = true := by simp; omega
      rw [e]
      rw [decide_eq_true hn] at q
      refine iteT ⟨.ref a, rfl, a, rfl, ⟨xs, SqT.of ha⟩, fun D hD => ?_⟩
      refine lc_new (walk_tup (xs := xs)) hD (Nat.le_trans (by rw [hl]; exact hbs) (by decide)) (fun (i : Nat) _ v => v = V.bl true) (fun _ _ _ _ _ h => h) (fun H' s => SqT.of (s _ _ ha)) (fun i x H2 H3 Qk hi s2 hy hk => ?_) (fun H2 acc s2 hD2 hla hacc => ?_)
      · obtain ⟨rfl, hx0⟩ := hy
        obtain ⟨d, hd, rd⟩ := hx.get hx0
        rw [List.getElem?_map] at hd
        cases hb : bs[i]? with
        | none => rw [hb] at hd; cases hd
        | some b =>
          rw [hb] at hd
          cases hd
          cases rd
          refine ⟨rfl, .bl b, rfl, b, true, rfl, rfl, _, rfl, ?_⟩
          cases b with
          | true => exact iteT (hk _ _ (Same.refl _) rfl)
          | false => exact iteF ⟨.bl false, rfl, false, false, rfl, rfl, hk _ _ (Same.refl _) rfl⟩
      · have ea : acc = (List.replicate xs.length true).map V.bl := bls_of (by rw [hla, List.length_replicate]) fun i v hi b hb => by
          rw [hacc i v hi]
          have := List.mem_of_getElem? hb
          rw [List.mem_replicate] at this
          rw [this.2]
        refine ⟨D, _, rfl, SqL.of (by rw [hD2, ea]), ?_⟩
        have e3 : (List.replicate xs.length true).all id = true := by simp
        rw [e3]
        exact q H2 s2
end
end Kx
set_option Elab.async false
set_option linter.all false
set_option maxRecDepth 100000
set_option maxHeartbeats 4000000
namespace Kx
open PySem PySem.Spec PyProof.Rows L2
theorem none_upd {H : Hp} {p a : Addr} {o : HO} (h : upd H p o a = none) : H a = none := by
  by_cases e : a = p
  · subst e; rw [upd_same] at h; cases h
  · rwa [upd_ne e] at h
theorem cut_int {ns : List Int} {lo hi : Option Int} {v : V} (h : v ∈ cutV (ns.map V.int) lo hi) : ∃ j, v = .int j := by
  unfold cutV at h
  have h1 := List.mem_of_mem_drop (List.mem_of_mem_take h)
  obtain ⟨j, _, rfl⟩ := List.mem_map.mp h1
  exact ⟨j, rfl⟩
theorem log2_mono {a n : Nat} (h : a ≤ n) : a.log2 ≤ n.log2 := by
  by_cases ha : a = 0
  · subst ha; simp
  · exact Nat.le_of_lt_succ ((Nat.log2_lt ha).mpr (Nat.lt_of_le_of_lt h Nat.lt_log2_self))
theorem bits_mono {a n : Int} (h0 : 0 ≤ a) (h : a ≤ n) : Builtin.Int.intBits a ≤ Builtin.Int.intBits n := by
  unfold Builtin.Int.intBits
  have h1 := log2_mono (a := a.natAbs) (n := n.natAbs) (by omega)
  by_cases ha : a = 0
  · subst ha; simp
  · have hn : n ≠ 0 := by omega
    rw [if_neg (by simpa using ha), if_neg (by simpa using hn)]
    omega
theorem bits_quot {n : Int} (h0 : 0 ≤ n) (h : Builtin.Int.intBits n ≤ 1048576) : (Builtin.Int.intBits (n / 2 ^ (3000 : Int).toNat) : Int) + 3000 ≤ 2 ^ 27 := by
  have h1 : 0 ≤ n / 2 ^ (3000 : Int).toNat := Int.ediv_nonneg h0 (Int.le_of_lt (Int.pow_pos (by decide)))
  have h2 : n / 2 ^ (3000 : Int).toNat ≤ n := Int.ediv_le_self _ h0
  have h3 := bits_mono h1 h2
  have h4 : (Builtin.Int.intBits (n / 2 ^ (3000 : Int).toNat) : Int) ≤ 1048576 := by omega
  have h5 : (1048576 : Int) + 3000 ≤ 2 ^ 27 := by decide
  omega
theorem bits_small {n : Int} (h0 : 0 ≤ n) (h : n ≤ 100000) : Builtin.Int.intBits n ≤ 1048576 := by
  have := bits_mono h0 h
  have e : Builtin.Int.intBits 100000 ≤ 1048576 := by decide +kernel
  omega
section
variable {P : Program} {w : World} {K : PySem.W.Frag} {mg : Str → Option Value} {base : Heap}
def sp_law_source (K : PySem.W.Frag) : Sp := fun vs H Q _ => ∃ (b : Addr) (ns : List Int) (k : Nat), vs = [.ref b, .int (k : Nat)] ∧ SqL K H b (ns.map V.int) ∧ ns.length ≤ 1000 ∧ (∀ n ∈ ns, Builtin.Int.intBits n ≤ 1048576) ∧ k ≤ 1000 ∧
  ∀ H' a, Same H H' → SrcAt H' a → H a = none → Q (.ref a) H'
theorem ok_law_source (T : Txt K mg) : Cal P w K mg base CX0 1 "_law_source" ["_law_script", "_law_place"] (sp_law_source K) := by
  obtain ⟨fd, F⟩ := F__law_source T
  refine cal_mk F (g__law_source T) sc__law_source (fun _ _ _ _ _ _ us hl => match us, hl with | [_, _], _ => rfl) (fun vs H Q E h => ?_) (fun cdv A outer s H vs Q E hr h => ?_)
  · obtain ⟨b, ns, k, rfl, _⟩ := h; rfl
  · refine ⟨_, PSs.nox (pss_cons (ps_set (i := 2) sc__law_source.nd rfl (Or.inl rfl) (pe_ifExp (pt_cmpR op_lt (pv 1) (pe_callB call_len (by rfl) (fr_len T) boot_len (pa_cons (pv 0) pa_nil)) (nomark _)) (pe_ix ix_list (pv 0) (pv 1) (fun _ _ => rfl)) (pe_op op_add (pe_op op_mul pe_int (pv 1)) pe_int)))
      (pss_cons (ps_set (i := 3) sc__law_source.nd rfl (Or.inl rfl) (pe_op op_add (pe_op op_mul pe_int (pv 1)) pe_int))
      (pss_cons (ps_for PassesOwn.never rfl (pi_list (pe_slice sl_list (pv 0) po_none (po_some pe_int))) (pg_name (i := 4) sc__law_source.nd rfl (Or.inl rfl))
        (pss_one (ps_set (i := 3) sc__law_source.nd rfl (Or.inl rfl) (pe_op op_mod (pe_callTy call_int1 (by rfl) (fr_int T) b_int (pa_cons (pe_op op_add (pe_op op_mul (pv 3) pe_int) (pe_op op_mod (pe_callTy call_int1 (by rfl) (fr_int T) b_int (pa_cons (pv 4) pa_nil)) pe_int)) pa_nil)) pe_int))))
      (pss_cons (ps_set (i := 3) sc__law_source.nd rfl (Or.inl rfl) (pe_op op_mod (pe_callTy call_int1 (by rfl) (fr_int T) b_int (pa_cons (pe_op op_add (pe_op op_mul (pv 3) pe_int) (pe_op op_mod (pe_callTy call_int1 (by rfl) (fr_int T) b_int (pa_cons (pv 2) pa_nil)) pe_int)) pa_nil)) pe_int))
      (pss_cons (ps_set (i := 5) sc__law_source.nd rfl (Or.inl rfl) (pe_callB call_abs (by rfl) (fr_abs T) (by decide +kernel) (pa_cons (pv 2) pa_nil)))
      (pss_cons (ps_if (pt_cmpR op_lt (pv 5) (pe_op op_pow pe_int pe_int) (nomark _)) (pss_one (ps_ret (pe_lst (pa_cons pe_int (pa_cons (pv 3) (pa_cons pe_int pa_nil)))))) pss_nil)
      (pss_cons (ps_if (pt_cmpR op_gt (pe_op op_shr (pv 5) pe_int) pe_int (nomark _)) (pss_one (ps_set (i := 5) sc__law_source.nd rfl (Or.inl rfl) (pe_op op_sub (pv 5) (pe_op op_shlW (pe_op op_shr (pv 5) pe_int) pe_int)))) pss_nil)
      (pss_one (ps_ret (pe_lst (pa_cons (pv 5) (pa_cons (pv 3) (pa_cons pe_int pa_nil))))))))))))), ?_⟩
    obtain ⟨b, ns, k, rfl, hs, hn, hbits, hk, q⟩ := h
    have hlen : (ns.map V.int).length = ns.length := List.length_map ..
    by_cases hk2 : k < ns.length
    all_goals refine ⟨.int (k : Nat), rfl, .ref b, rfl, _, _, rfl, .inl ⟨_, hs, rfl⟩, _, _, rfl, rfl, _, rfl, ?_⟩
    · rw [decide_eq_true (by rw [hlen]; omega)]
      have hg : (ns.map V.int)[k]? = some (V.int ns[k]) := by rw [List.getElem?_map, List.getElem?_eq_getElem hk2]; rfl
      have hb9 := hbits _ (List.getElem_mem hk2)
      refine iteT ⟨.ref b, rfl, .int (k : Nat), rfl, b, _, _, V.int ns[k], rfl, rfl, hs, atI_nat hg, ?_⟩
      generalize ns[k] = c at hb9 ⊢
      refine ⟨.int (k : Nat), rfl, 1009, _, rfl, rfl, .inl (by omega), _, 17, rfl, rfl, ?_⟩
      refine ⟨.ref b, rfl, 3, rfl, b, _, rfl, hs, fun p hp => ?_⟩
      have sp1 := same_upd (o := .lst (cutV (ns.map V.int) none (some 3))) hp
      refine ⟨p, rfl, ⟨_, SqL.of upd_same⟩, ?_⟩
      refine for_it (walk_list (xs := cutV (ns.map V.int) none (some 3))) (fun i σ H2 => ∃ (seed : Int) (v4 v5 : Option V), σ = [some (.ref b), some (.int (k : Nat)), some (.int c), some (.int seed), v4, v5] ∧ H2 = upd H p (.lst (cutV (ns.map V.int) none (some 3))))
        ⟨_, none, none, rfl, rfl⟩ (fun i σ H2 _ ⟨_, _, _, _, e⟩ => SqL.of (by rw [e]; exact upd_same)) ?_ ?_
      · rintro i x σ H2 H3 hi ⟨seed, v4, v5, rfl, rfl⟩ ⟨eH, hx⟩
        subst eH
        obtain ⟨j, rfl⟩ := cut_int (List.mem_of_getElem? hx)
        exact ⟨_, rfl, _, 31, rfl, rfl, .inr (by omega), .int j, rfl, .inl ⟨j, rfl, _, 2147483629, rfl, rfl, by omega, _, _, rfl, rfl, .inl ⟨_, rfl, _, 2147483629, rfl, rfl, by omega, _, _, _, rfl, rfl⟩⟩⟩
      · rintro σ H2 ⟨seed, v4, v5, rfl, rfl⟩
        refine ⟨_, rfl, _, 31, rfl, rfl, .inr (by omega), .int c, rfl, .inl ⟨c, rfl, _, 2147483587, rfl, rfl, by omega, _, _, rfl, rfl, .inl ⟨_, rfl, _, 2147483629, rfl, rfl, by omega, ?_⟩⟩⟩
        refine ⟨.int c, rfl, c, rfl, ?_⟩
        have hb0 : Builtin.Int.intBits (if c < 0 then -c else c) ≤ 1048576 ∧ 0 ≤ (if c < 0 then -c else c) := by
          constructor
          · unfold Builtin.Int.intBits at hb9 ⊢
            split
            · simpa using hb9
            · exact hb9
          · split <;> omega
        generalize (if c < 0 then -c else c) = num at hb0
        obtain ⟨hb1, hn0⟩ := hb0
        refine ⟨.int num, rfl, 10, 18, rfl, rfl, ⟨by omega, by omega, by decide⟩, _, _, rfl, rfl, _, rfl, ?_⟩
        cases hlt : decide (num < 10 ^ (18 : Int).toNat) with
        | true => exact iteT ⟨_, rfl, (by show 3 ≤ sizeLine; decide), fun a ha => q _ a (sp1.trans (same_upd ha)) ⟨0, _, 0, upd_same⟩ (none_upd ha)⟩
        | false =>
          refine iteF ⟨.int num, rfl, num, 3000, rfl, rfl, by omega, _, 0, rfl, rfl, _, rfl, ?_⟩
          cases hgt : decide (0 < num / 2 ^ (3000 : Int).toNat) with
          | false => exact iteF ⟨.int num, rfl, _, rfl, (by show 3 ≤ sizeLine; decide), fun a ha => q _ a (sp1.trans (same_upd ha)) ⟨num, _, 0, upd_same⟩ (none_upd ha)⟩
          | true =>
            refine iteT ⟨.int num, rfl, .int num, rfl, num, 3000, rfl, rfl, by omega, _, 3000, rfl, rfl, ⟨by omega, bits_quot hn0 hb1⟩, num, _, rfl, rfl, ?_⟩
            exact ⟨_, rfl, _, rfl, (by show 3 ≤ sizeLine; decide), fun a ha => q _ a (sp1.trans (same_upd ha)) ⟨_, _, 0, upd_same⟩ (none_upd ha)⟩
    · rw [decide_eq_false (by rw [hlen]; omega)]
      refine iteF ⟨.int (k : Nat), rfl, 5, _, rfl, rfl, .inl (by omega), _, 3, rfl, rfl, ?_⟩
      have hb9 : Builtin.Int.intBits (5 * ((k : Nat) : Int) + 3) ≤ 1048576 := bits_small (by omega) (by omega)
      refine ⟨.int (k : Nat), rfl, 1009, _, rfl, rfl, .inl (by omega), _, 17, rfl, rfl, ?_⟩
      refine ⟨.ref b, rfl, 3, rfl, b, _, rfl, hs, fun p hp => ?_⟩
      have sp1 := same_upd (o := .lst (cutV (ns.map V.int) none (some 3))) hp
      refine ⟨p, rfl, ⟨_, SqL.of upd_same⟩, ?_⟩
      refine for_it (walk_list (xs := cutV (ns.map V.int) none (some 3))) (fun i σ H2 => ∃ (seed : Int) (v4 v5 : Option V), σ = [some (.ref b), some (.int (k : Nat)), some (.int (5 * ((k : Nat) : Int) + 3)), some (.int seed), v4, v5] ∧ H2 = upd H p (.lst (cutV (ns.map V.int) none (some 3))))
        ⟨_, none, none, rfl, rfl⟩ (fun i σ H2 _ ⟨_, _, _, _, e⟩ => SqL.of (by rw [e]; exact upd_same)) ?_ ?_
      · rintro i x σ H2 H3 hi ⟨seed, v4, v5, rfl, rfl⟩ ⟨eH, hx⟩
        subst eH
        obtain ⟨j, rfl⟩ := cut_int (List.mem_of_getElem? hx)
        exact ⟨_, rfl, _, 31, rfl, rfl, .inr (by omega), .int j, rfl, .inl ⟨j, rfl, _, 2147483629, rfl, rfl, by omega, _, _, rfl, rfl, .inl ⟨_, rfl, _, 2147483629, rfl, rfl, by omega, _, _, _, rfl, rfl⟩⟩⟩
      · rintro σ H2 ⟨seed, v4, v5, rfl, rfl⟩
        refine ⟨_, rfl, _, 31, rfl, rfl, .inr (by omega), .int (5 * ((k : Nat) : Int) + 3), rfl, .inl ⟨(5 * ((k : Nat) : Int) + 3), rfl, _, 2147483587, rfl, rfl, by omega, _, _, rfl, rfl, .inl ⟨_, rfl, _, 2147483629, rfl, rfl, by omega, ?_⟩⟩⟩
        refine ⟨.int (5 * ((k : Nat) : Int) + 3), rfl, (5 * ((k : Nat) : Int) + 3), rfl, ?_⟩
        have hb0 : Builtin.Int.intBits (if (5 * ((k : Nat) : Int) + 3) < 0 then -(5 * ((k : Nat) : Int) + 3) else (5 * ((k : Nat) : Int) + 3)) ≤ 1048576 ∧ 0 ≤ (if (5 * ((k : Nat) : Int) + 3) < 0 then -(5 * ((k : Nat) : Int) + 3) else (5 * ((k : Nat) : Int) + 3)) := by
          constructor
          · unfold Builtin.Int.intBits at hb9 ⊢
            split
            · simpa using hb9
            · exact hb9
          · split <;> omega
        generalize (if (5 * ((k : Nat) : Int) + 3) < 0 then -(5 * ((k : Nat) : Int) + 3) else (5 * ((k : Nat) : Int) + 3)) = num at hb0
        obtain ⟨hb1, hn0⟩ := hb0
        refine ⟨.int num, rfl, 10, 18, rfl, rfl, ⟨by omega, by omega, by decide⟩, _, _, rfl, rfl, _, rfl, ?_⟩
        cases hlt : decide (num < 10 ^ (18 : Int).toNat) with
        | true => exact iteT ⟨_, rfl, (by show 3 ≤ sizeLine; decide), fun a ha => q _ a (sp1.trans (same_upd ha)) ⟨0, _, 0, upd_same⟩ (none_upd ha)⟩
        | false =>
          refine iteF ⟨.int num, rfl, num, 3000, rfl, rfl, by omega, _, 0, rfl, rfl, _, rfl, ?_⟩
          cases hgt : decide (0 < num / 2 ^ (3000 : Int).toNat) with
          | false => exact iteF ⟨.int num, rfl, _, rfl, (by show 3 ≤ sizeLine; decide), fun a ha => q _ a (sp1.trans (same_upd ha)) ⟨num, _, 0, upd_same⟩ (none_upd ha)⟩
          | true =>
            refine iteT ⟨.int num, rfl, .int num, rfl, num, 3000, rfl, rfl, by omega, _, 3000, rfl, rfl, ⟨by omega, bits_quot hn0 hb1⟩, num, _, rfl, rfl, ?_⟩
            exact ⟨_, rfl, _, rfl, (by show 3 ≤ sizeLine; decide), fun a ha => q _ a (sp1.trans (same_upd ha)) ⟨_, _, 0, upd_same⟩ (none_upd ha)⟩
end
end Kx
set_option Elab.async false
set_option linter.all false
set_option maxRecDepth 100000
set_option maxHeartbeats 4000000
namespace Kx
open PySem PySem.Spec PyProof.Rows L2
def rowD (r : List Nat) : PyData := .list (r.map fun k => .int (k : Nat))
def rowsD (rows : List (List Nat)) : PyData := .list (rows.map rowD)
structure RowsOk (many most : Nat) (rows : List (List Nat)) : Prop where
  ne : 1 ≤ rows.length
  le : rows.length ≤ most
  ok : ∀ r ∈ rows, r.length = many ∧ ∀ k ∈ r, k < rows.length
theorem SrcAt.ne {a b : Addr} {H : Hp} (h : SrcAt H a) (hb : H b = none) : b ≠ a := fun z => by
  obtain ⟨A, S, C, e⟩ := h
  rw [← z, hb] at e
  cases e
theorem Fra.none {a b : Addr} {H H' : Hp} (f : Fra a H H') (hn : b ≠ a) (hb : H' b = none) : H b = none := by
  cases e : H b with
  | none => rfl
  | some o =>
    have := f.sm b o (by rw [del_ne hn]; exact e)
    rw [del_ne hn, hb] at this
    cases this
theorem del_upd {H : Hp} {a : Addr} {o : HO} : del (upd H a o) a = del H a := by
  funext b
  by_cases hb : b = a
  · subst hb; rw [del_same, del_same]
  · rw [del_ne hb, del_ne hb, upd_ne hb]
theorem dd_same {H : Hp} {a D : Addr} {o : HO} : del (del (upd H D o) a) D = del (del H a) D := by
  funext b
  by_cases hb : b = D
  · subst hb; rw [del_same, del_same]
  · rw [del_ne hb, del_ne hb]
    by_cases ha : b = a
    · subst ha; rw [del_same, del_same]
    · rw [del_ne ha, del_ne ha, upd_ne hb]
theorem same_dd {G H : Hp} {a D D2 : Addr} {o : HO} (s : Same G (del (del H a) D)) (g : G D2 = none) : Same G (del (del (upd H D2 o) a) D) := fun b u e => by
  have h := s b u e
  have h2 := ne_of_none e g
  by_cases hb : b = D
  · subst hb; rw [del_same] at h; cases h
  · rw [del_ne hb] at h ⊢
    by_cases ha : b = a
    · subst ha; rw [del_same] at h; cases h
    · rw [del_ne ha] at h ⊢
      rw [upd_ne h2]
      exact h
theorem dd_upd {H : Hp} {a D D2 : Addr} {o : HO} (g : del (del H a) D D2 = none) : Same (del (del H a) D) (del (del (upd H D2 o) a) D) := same_dd (Same.refl _) g
theorem rpL_append {H : Hp} {v : V} {d : PyData} : ∀ {vs : List V} {ds : List PyData}, RpL H vs ds → Rp H v d → RpL H (vs ++ [v]) (ds ++ [d])
  | _, _, .nil, h => .cons h .nil
  | _, _, .cons a b, h => .cons a (rpL_append b h)
theorem rpL_nats {H : Hp} : ∀ r : List Nat, RpL H (r.map fun k => V.int (k : Nat)) (r.map fun k => PyData.int (k : Nat))
  | [] => .nil
  | k :: r => .cons (.int _) (rpL_nats r)
section
variable {P : Program} {w : World} {K : PySem.W.Frag} {mg : Str → Option Value} {base : Heap}
def lcSc : Stmt → Scope
  | .Return (some (.ListComp _ _ sc _)) _ => sc
  | _ => ⟨.function, [], false, false, []⟩
def sp_law_reader : Sp := fun vs H Q _ => ∃ (a : Addr) (many most : Nat), vs = [.ref a, .int (many : Nat), .int (most : Nat)] ∧ 1 ≤ many ∧ many ≤ 8 ∧ 1 ≤ most ∧ most ≤ 40 ∧ SrcAt H a ∧
  ∀ H' t (rows : List (List Nat)), Fra a H H' → Rp (del H' a) t (rowsD rows) → RowsOk many most rows → Q t H'
theorem ok_law_reader (T : Txt K mg) : Cal P w K mg base CX0 2 "_law_reader" ["_law_source_here", "_law_many", "_law_most"] sp_law_reader := by
  obtain ⟨fd, F⟩ := F__law_reader T
  refine cal_mk F (g__law_reader T) sc__law_reader (fun _ _ _ _ _ _ us hl => match us, hl with | [_, _, _], _ => rfl) (fun vs H Q E h => ?_) (fun cdv A outer s H vs Q E hr h => ?_)
  · obtain ⟨a, many, most, rfl, _⟩ := h; rfl
  · refine ⟨_, PSs.nox (pss_cons (ps_set (i := 3) sc__law_reader.nd rfl (Or.inr rfl) (pe_op op_add pe_int (pe_cal (ok_law_pick T) hr pass0 (pa_cons (pv 0) (pa_cons (pv 2) pa_nil)))))
      (pss_one (ps_ret (pe_lc (own := [("_law_p", 5)]) (g := gName 5) (tt := tYes) rfl sc__law_reader.nd (pi_range1 (by rfl) (fr_range T) (pa_cons (pv 3) pa_nil)) (blkOk_by (N := N__law_reader) (sc := defScope s__law_reader) (by decide +kernel))
        (fun _ _ _ _ _ => pg_name (i := 5) sc__law_reader.nd rfl (Or.inl rfl)) (fun _ _ _ _ _ => pts_nil)
        (fun _ _ _ _ _ => by
          refine pe_lc (te := tCall sp_law_pick [] E0 (tCons (tVar 0) (tCons (tVar 3) tNil))) (wi := iRng1 (tCons (tVar 1) tNil)) (own := [("_law_t", 4)]) (g := gName 4) (tt := tYes) rfl sc__law_reader.nd (pi_range1 (by rfl) (fr_range T) (pa_cons (pv 1) pa_nil)) ?_
            (fun _ _ _ _ _ => pg_name (i := 4) sc__law_reader.nd rfl (Or.inl rfl)) (fun _ _ _ _ _ => pts_nil) (fun _ _ _ _ _ => ?_)
          · refine blkOk_by ?_
            simp only [cxOf, Cx.nox, Cx.blk, compEnvC]
            change blkC _ (relabel _ (envOfC "_law_reader" (defScope s__law_reader) 0 0 Value.none)) _ _ = true
            decide +kernel
          exact pe_cal (ok_law_pick T) hr pass0 (pa_cons (pv 0) (pa_cons (pv 3) pa_nil))))))), ?_⟩
    obtain ⟨a, many, most, rfl, h1, h8, hm1, hm4, hs, q⟩ := h
    refine ⟨.ref a, rfl, .int (most : Nat), rfl, a, _, rfl, (by omega), (by omega), hs, fun A1 S1 C1 d hd0 hd1 => ⟨1, _, rfl, rfl, ?_⟩⟩
    have f1 : Fra a H (upd H a (three A1 S1 C1)) := Fra.drawn A1 S1 C1
    generalize upd H a (three A1 S1 C1) = H1 at f1 ⊢
    obtain ⟨n, rfl⟩ := Int.eq_ofNat_of_zero_le hd0
    refine ⟨_, rfl, 1 + ((n : Nat) : Int), rfl, (by omega), (by omega), fun D hD => ?_⟩
    have en : ((1 : Int) + ((n : Nat) : Int)).toNat = n + 1 := by omega
    rw [en]
    have hna : D ≠ a := f1.src.ne hD
    refine lc_it (walk_range (n := n + 1)) (tt := tYes) (fun i H2 => ∃ (rows : List (List Nat)) (vs : List V), rows.length = i ∧ (∀ r ∈ rows, r.length = many ∧ ∀ k ∈ r, k < n + 1) ∧ H2 D = some (.lst vs) ∧ RpL (del (del H2 a) D) vs (rows.map rowD) ∧ Fra a H1 H2)
      ⟨[], [], rfl, fun r hr => (by cases hr), upd_same, .nil, Fra.same f1.src (same_upd hD)⟩ (fun _ _ _ _ => trivial) ?_ ?_
    · rintro i x H2 H3 hi ⟨rows, vs, hrl, hro, hDv, hrp, f2⟩ ⟨eH, ex0⟩
      replace eH := eH.symm
      subst eH
      refine ⟨rfl, .int (many : Nat), rfl, (many : Nat), rfl, (by omega), (by omega), fun D2 hD2 => ?_⟩
      have hDD : D2 ≠ D := fun z => by rw [z, hDv] at hD2; cases hD2
      have h2a : D2 ≠ a := f2.src.ne hD2
      have h1D2 : H1 D2 = none := f2.none h2a hD2
      have gD2 : del (del H2 a) D D2 = none := by rw [del_ne hDD, del_ne h2a]; exact hD2
      have em : (((many : Nat) : Int)).toNat = many := by omega
      rw [em]
      refine lc_it (walk_range (n := many)) (tt := tYes) (fun j H5 => ∃ r : List Nat, r.length = j ∧ (∀ k ∈ r, k < n + 1) ∧ H5 D2 = some (.lst (r.map fun k => V.int (k : Nat))) ∧ H5 D = some (.lst vs) ∧ Same (del (del H2 a) D) (del (del H5 a) D) ∧ Fra a H1 H5)
        ⟨[], rfl, fun k hk => (by cases hk), upd_same, by rw [upd_ne (Ne.symm hDD)]; exact hDv, dd_upd gD2, f2.over h1D2 h2a⟩ (fun _ _ _ _ => trivial) ?_ ?_
      · rintro j y H5 H6 hj ⟨r, hrj, hrk, hr2, hrD, sg, f5⟩ ⟨eH, ey0⟩
        replace eH := eH.symm
        subst eH
        refine ⟨rfl, .ref a, rfl, _, rfl, a, _, rfl, (by omega), (by omega), f5.src, fun A2 S2 C2 d2 hd2 hd3 => ?_⟩
        obtain ⟨m, rfl⟩ := Int.eq_ofNat_of_zero_le hd2
        have f6 : Fra a H5 (upd H5 a (three A2 S2 C2)) := Fra.drawn A2 S2 C2
        have e6 : del (upd H5 a (three A2 S2 C2)) a = del H5 a := del_upd
        refine ⟨r.map fun k => V.int (k : Nat), by rw [upd_ne h2a]; exact hr2, ?_, r ++ [m], ?_, ?_, ?_, ?_, ?_, ?_⟩
        · rw [List.length_map, hrj]
          exact Nat.lt_of_lt_of_le (by have : j < many := hj; omega : j < 201) (by decide)
        · rw [List.length_append, hrj]; rfl
        · intro k hk
          rcases List.mem_append.mp hk with h | h
          · exact hrk k h
          · rw [List.mem_singleton.mp h]; omega
        · rw [upd_same, List.map_append]; rfl
        · rw [upd_ne (Ne.symm hDD), upd_ne hna]; exact hrD
        · have s6 : Same (del (del H2 a) D) (del (del (upd H5 a (three A2 S2 C2)) a) D) := by rw [e6]; exact sg
          exact same_dd s6 gD2
        · exact (f5.trans f6).over h1D2 h2a
      · rintro H5 ⟨r, hrj, hrk, hr2, hrD, sg, f5⟩
        refine ⟨vs, hrD, ?_, rows ++ [r], vs ++ [.ref D2], by rw [List.length_append, hrl]; rfl, ?_, upd_same, ?_, f5.over hD hna⟩
        · have := hrp.length
          rw [List.length_map] at this
          rw [this, hrl]
          exact Nat.lt_of_lt_of_le (by have : i < n + 1 := hi; omega : i < 201) (by decide)
        · intro z hz
          rcases List.mem_append.mp hz with h | h
          · exact hro z h
          · rw [List.mem_singleton.mp h]; exact ⟨hrj, hrk⟩
        · rw [dd_same, List.map_append]
          refine rpL_append (hrp.same sg) (.lst (by rw [del_ne hDD, del_ne h2a]; exact hr2) ?_)
          exact rpL_nats r
    · rintro H2 ⟨rows, vs, hrl, hro, hDv, hrp, f2⟩
      refine q H2 (.ref D) rows (f1.trans f2) (.lst (by rw [del_ne hna]; exact hDv) (hrp.same (del_le D))) ⟨by omega, by omega, fun r hr => ⟨(hro r hr).1, fun k hk => by rw [hrl]; exact (hro r hr).2 k hk⟩⟩
end
end Kx
set_option Elab.async false
set_option linter.all false
set_option maxRecDepth 100000
set_option maxHeartbeats 4000000
namespace Kx
open PySem PySem.Spec PyProof.Rows L2
/-- the triples in the order of three loops -/
def fullQ (p c nr : Nat) : List Tri := (List.range nr).map fun q => (p, c, q)
def fullC (p nr : Nat) (cs : List Nat) : List Tri := cs.flatMap fun c => fullQ p c nr
def fullP (n nr : Nat) (cs : List Nat) : List Tri := (List.range n).flatMap fun p => fullC p nr cs
theorem fullQ_succ (p c n : Nat) : fullQ p c (n + 1) = fullQ p c n ++ [(p, c, n)] := by
  unfold fullQ
  rw [List.range_succ, List.map_append]
  rfl
theorem fullP_succ (n nr : Nat) (cs : List Nat) : fullP (n + 1) nr cs = fullP n nr cs ++ fullC n nr cs := by
  unfold fullP
  rw [List.range_succ, List.flatMap_append]
  simp
theorem fullC_snoc (p nr : Nat) (cs : List Nat) (c : Nat) : fullC p nr (cs ++ [c]) = fullC p nr cs ++ fullQ p c nr := by
  unfold fullC
  rw [List.flatMap_append]
  simp
section
variable {P : Program} {w : World} {K : PySem.W.Frag} {mg : Str → Option Value} {base : Heap}
def sp_law_marked : Sp := fun vs H Q _ => ∃ (a : Addr) (al : Str) (vl vr : V) (nl nr : Nat), vs = [.ref a, .str al, vl, vr] ∧ SrcAt H a ∧ SeqN (del H a) vl nl ∧ SeqN (del H a) vr nr ∧ al.length ≤ 8 ∧ nl ≤ 40 ∧ nr ≤ 40 ∧
  ∀ H' t (trs : List Tri), Fra a H H' → Rp (del H' a) t (.list (trs.map encTri)) → trs.Sublist (fullP nl nr al.cps.toList) → trs.length ≤ 12800 → Q t H'
theorem ok_law_marked (T : Txt K mg) : Cal P w K mg base CX0 2 "_law_marked" ["_law_source_here", "_law_alphabet_here", "_law_left", "_law_right"] sp_law_marked := by
  obtain ⟨fd, F⟩ := F__law_marked T
  refine cal_mk F (g__law_marked T) sc__law_marked (fun _ _ _ _ _ _ us hl => match us, hl with | [_, _, _, _], _ => rfl) (fun vs H Q E h => ?_) (fun cdv A outer s H vs Q E hr h => ?_)
  · obtain ⟨a, al, vl, vr, nl, nr, rfl, _⟩ := h; rfl
  · refine ⟨_, PSs.nox (pss_cons (ps_set (i := 4) sc__law_marked.nd rfl (Or.inl rfl) (pe_lst pa_nil))
      (pss_cons (ps_for PassesOwn.never rfl (pi_range1 (by rfl) (fr_range T) (pa_cons (pe_callB call_len (by rfl) (fr_len T) boot_len (pa_cons (pv 2) pa_nil)) pa_nil)) (pg_name (i := 5) sc__law_marked.nd rfl (Or.inl rfl))
        (pss_one (ps_for PassesOwn.never rfl (pi_str (pv 1)) (pg_name (i := 6) sc__law_marked.nd rfl (Or.inl rfl))
          (pss_one (ps_for PassesOwn.never rfl (pi_range1 (by rfl) (fr_range T) (pa_cons (pe_callB call_len (by rfl) (fr_len T) boot_len (pa_cons (pv 3) pa_nil)) pa_nil)) (pg_name (i := 7) sc__law_marked.nd rfl (Or.inl rfl))
            (pss_one (ps_if (pt_cmpR op_eq (pe_cal (ok_law_pick T) hr pass0 (pa_cons (pv 0) (pa_cons pe_int pa_nil))) pe_int (nomark _))
              (pss_one (ps_expr (pe_bm PySem.F.plainAttrs_list PySem.F.slot_list_append PySem.F.type_list_append mt_append (pv 4) (pa_cons (pe_tup (pa_cons (pv 5) (pa_cons (pv 6) (pa_cons (pv 7) pa_nil)))) pa_nil)))) pss_nil)))))))
      (pss_one (ps_ret (pv 4))))), ?_⟩
    obtain ⟨a, al, vl, vr, nl, nr, rfl, hs, sl, sr, h8, hl40, hr40, q⟩ := h
    refine ⟨(by show 0 ≤ sizeLine; decide), fun N hN => ?_⟩
    have hNa : N ≠ a := hs.ne hN
    have hz : al.cps.toList.length = al.length := Array.length_toList
    -- what holds all along
    have lenL : ∀ H2, Fra a H H2 → LenV K vl H2 nl := fun H2 f => (sl.same f.up).lenV
    have lenR : ∀ H2, Fra a H H2 → LenV K vr H2 nr := fun H2 f => (sr.same f.up).lenV
    have f0 : Fra a H (upd H N (.lst [])) := (Fra.refl hs).over hN hNa
    refine ⟨vl, rfl, _, _, rfl, lenL _ f0, (nl : Nat), rfl, by omega, by omega, ?_⟩
    refine for_it walk_range (fun i σ H2 => ∃ (v5 v6 v7 : Option V) (trs : List Tri) (vs : List V), σ = [some (.ref a), some (.str al), some vl, some vr, some (.ref N), v5, v6, v7] ∧ H2 N = some (.lst vs) ∧ RpL (del (del H2 a) N) vs (trs.map encTri) ∧ trs.Sublist (fullP i nr al.cps.toList) ∧ trs.length ≤ i * 320 ∧ Fra a H H2)
      ⟨none, none, none, [], [], rfl, upd_same, .nil, List.nil_sublist _, Nat.zero_le _, f0⟩ (fun _ _ _ _ _ => trivial) ?_ ?_
    · rintro i x σ H2 H3 hi ⟨v5, v6, v7, trs, vs, rfl, hNv, hrp, hsub, hlen, f2⟩ ⟨eH, ex0⟩
      replace eH := eH.symm
      subst eH
      replace ex0 : x = .int (i : Nat) := ex0.trans (congrArg V.int (Int.zero_add _))
      subst ex0
      have hi40 : i < 40 := by have : i < (((nl : Nat) : Int)).toNat := hi; omega
      refine ⟨.str al, rfl, al, rfl, ?_⟩
      refine for_it walk_str (fun j σ H2 => ∃ (v6 v7 : Option V) (trs : List Tri) (vs : List V), σ = [some (.ref a), some (.str al), some vl, some vr, some (.ref N), some (.int (i : Nat)), v6, v7] ∧ H2 N = some (.lst vs) ∧ RpL (del (del H2 a) N) vs (trs.map encTri) ∧
          trs.Sublist (fullP i nr al.cps.toList ++ fullC i nr (al.cps.toList.take j)) ∧ trs.length ≤ i * 320 + j * 40 ∧ Fra a H H2)
        ⟨v6, v7, trs, vs, rfl, hNv, hrp, by rw [List.take_zero]; unfold fullC; simpa using hsub, by omega, f2⟩ (fun _ _ _ _ _ => trivial) ?_ ?_
      · rintro j y σ H2 H3 hj ⟨v6, v7, trs, vs, rfl, hNv, hrp, hsub, hlen, f2⟩ ⟨eH, c, hc, rfl⟩
        replace eH := eH.symm
        subst eH
        have hc' : al.cps.toList[j]? = some c := by rw [Array.getElem?_toList]; exact hc
        have htk : al.cps.toList.take (j + 1) = al.cps.toList.take j ++ [c] := by rw [List.take_succ, hc']; rfl
        have hj8 : j < 8 := by have : j < al.cps.size := hj; have e : al.cps.size = al.length := rfl; omega
        refine ⟨vr, rfl, _, _, rfl, lenR _ f2, (nr : Nat), rfl, by omega, by omega, ?_⟩
        refine for_it walk_range (fun k σ H2 => ∃ (v7 : Option V) (trs : List Tri) (vs : List V), σ = [some (.ref a), some (.str al), some vl, some vr, some (.ref N), some (.int (i : Nat)), some (.str ⟨#[c]⟩), v7] ∧ H2 N = some (.lst vs) ∧ RpL (del (del H2 a) N) vs (trs.map encTri) ∧
            trs.Sublist (fullP i nr al.cps.toList ++ fullC i nr (al.cps.toList.take j) ++ fullQ i c k) ∧ trs.length ≤ i * 320 + j * 40 + k ∧ Fra a H H2)
          ⟨v7, trs, vs, rfl, hNv, hrp, by unfold fullQ; simpa using hsub, by omega, f2⟩ (fun _ _ _ _ _ => trivial) ?_ ?_
        · rintro k z σ H2 H3 hk ⟨v7, trs, vs, rfl, hNv, hrp, hsub, hlen, f2⟩ ⟨eH, ez0⟩
          replace eH := eH.symm
          subst eH
          replace ez0 : z = .int (k : Nat) := ez0.trans (congrArg V.int (Int.zero_add _))
          subst ez0
          have hk40 : k < 40 := by have : k < (((nr : Nat) : Int)).toNat := hk; omega
          refine ⟨.ref a, rfl, a, 2, rfl, (by omega), (by omega), f2.src, fun A2 S2 C2 d hd0 hd1 => ?_⟩
          have f3 : Fra a H (upd H2 a (three A2 S2 C2)) := f2.trans (Fra.drawn A2 S2 C2)
          have e3 : del (upd H2 a (three A2 S2 C2)) a = del H2 a := del_upd
          have hN3 : upd H2 a (three A2 S2 C2) N = some (.lst vs) := by rw [upd_ne hNa]; exact hNv
          have r3 : RpL (del (del (upd H2 a (three A2 S2 C2)) a) N) vs (trs.map encTri) := by rw [e3]; exact hrp
          generalize upd H2 a (three A2 S2 C2) = H4 at f3 e3 hN3 r3 ⊢
          refine ⟨rfl, _, rfl, ?_⟩
          cases hd : decide (V.int d = V.int 1) with
          | false => exact iteF ⟨_, trs, vs, rfl, hN3, r3, by rw [fullQ_succ, ← List.append_assoc]; exact hsub.trans (List.sublist_append_left _ _), by omega, f3⟩
          | true =>
            refine iteT ⟨.ref N, rfl, .inl ⟨rfl, _, SqL.of hN3⟩, .int (i : Nat), rfl, .str ⟨#[c]⟩, rfl, .int (k : Nat), rfl, (by show 3 ≤ sizeLine; decide), fun t ht => ?_⟩
            have hta : t ≠ a := f3.src.ne ht
            have htN : t ≠ N := fun z => by rw [z, hN3] at ht; cases ht
            have gt : del (del H4 a) N t = none := by rw [del_ne htN, del_ne hta]; exact ht
            have sT := dd_upd (o := .tup [.int (i : Nat), .str ⟨#[c]⟩, .int (k : Nat)]) gt
            have f4 := f3.over (o := .tup [.int (i : Nat), .str ⟨#[c]⟩, .int (k : Nat)]) (f3.none hta ht) hta
            have hvl : vs.length = trs.length := by have := r3.length; rwa [List.length_map] at this
            refine ⟨N, vs, _, rfl, rfl, by rw [upd_ne (Ne.symm htN)]; exact hN3, Nat.lt_of_lt_of_le (by omega : vs.length < 20000) (by decide), ?_⟩
            refine ⟨_, trs ++ [(i, c, k)], vs ++ [.ref t], rfl, upd_same, ?_, ?_, ?_, f4.over hN hNa⟩
            · rw [dd_same, List.map_append]
              refine rpL_append (r3.same sT) (.tup (by rw [del_ne htN, del_ne hta]; exact upd_same) (.cons (.int _) (.cons (.str _) (.cons (.int _) .nil))))
            · rw [fullQ_succ, ← List.append_assoc]
              exact hsub.append (List.Sublist.refl _)
            · rw [List.length_append]
              show trs.length + 1 ≤ _
              omega
        · rintro σ H2 ⟨v7, trs, vs, rfl, hNv, hrp, hsub, hlen, f2⟩
          have e9 : (((nr : Nat) : Int)).toNat = nr := by omega
          rw [e9] at hsub hlen
          exact ⟨_, _, trs, vs, rfl, hNv, hrp, by rw [htk, fullC_snoc, ← List.append_assoc]; exact hsub, by omega, f2⟩
      · rintro σ H2 ⟨v6, v7, trs, vs, rfl, hNv, hrp, hsub, hlen, f2⟩
        have e9 : al.cps.size = al.length := rfl
        rw [← Array.length_toList, List.take_length] at hsub
        rw [e9] at hlen
        exact ⟨_, _, _, trs, vs, rfl, hNv, hrp, by rw [fullP_succ]; exact hsub, by omega, f2⟩
    · rintro σ H2 ⟨v5, v6, v7, trs, vs, rfl, hNv, hrp, hsub, hlen, f2⟩
      have e9 : (((nl : Nat) : Int)).toNat = nl := by omega
      rw [e9] at hsub hlen
      refine ⟨.ref N, rfl, q H2 (.ref N) trs f2 (.lst (by rw [del_ne hNa]; exact hNv) (hrp.same (del_le N))) hsub (by omega)⟩
end
end Kx
set_option Elab.async false
set_option linter.all false
set_option maxRecDepth 100000
set_option maxHeartbeats 4000000
namespace Kx
open PySem PySem.Spec PyProof.Rows L2
section
variable {P : Program} {w : World} {K : PySem.W.Frag} {mg : Str → Option Value} {base : Heap}
/-- steady readers are not drawn here -/
theorem ok_law_steady_reader (T : Txt K mg) : Cal P w K mg base CX0 1 "_law_steady_reader" ["_law_source_here", "_law_many", "_law_most"] (fun _ _ _ _ => False) := by
  obtain ⟨fd, F⟩ := F__law_steady_reader T
  exact cal_mk F (g__law_steady_reader T) sc__law_steady_reader (fun _ _ _ _ _ _ us hl => match us, hl with | [_, _, _], _ => rfl) (fun vs H Q E h => h.elim) (fun cdv A outer s H vs Q E hr h => h.elim)
def tabsD (ls rs : List (List Nat)) (trs : List Tri) : PyData := .tuple [rowsD ls, rowsD rs, .list (trs.map encTri)]
structure TabsOk (al : Str) (most : Nat) (ls rs : List (List Nat)) (trs : List Tri) : Prop where
  l : RowsOk al.length most ls
  r : RowsOk al.length most rs
  sub : trs.Sublist (fullP ls.length rs.length al.cps.toList)
  le : trs.length ≤ 12800
def sp_law_tables : Sp := fun vs H Q _ => ∃ (a : Addr) (al : Str) (most : Nat), vs = [.ref a, .str al, .int (most : Nat), .bl false] ∧ SrcAt H a ∧ 1 ≤ al.length ∧ al.length ≤ 8 ∧ 1 ≤ most ∧ most ≤ 40 ∧
  ∀ H' t (ls rs : List (List Nat)) (trs : List Tri), Fra a H H' → Rp (del H' a) t (tabsD ls rs trs) → TabsOk al most ls rs trs → Q t H'
theorem ok_law_tables (T : Txt K mg) : Cal P w K mg base CX0 3 "_law_tables" ["_law_source_here", "_law_alphabet_here", "_law_most", "_law_steady"] sp_law_tables := by
  obtain ⟨fd, F⟩ := F__law_tables T
  refine cal_mk F (g__law_tables T) sc__law_tables (fun _ _ _ _ _ _ us hl => match us, hl with | [_, _, _, _], _ => rfl) (fun vs H Q E h => ?_) (fun cdv A outer s H vs Q E hr h => ?_)
  · obtain ⟨a, al, most, rfl, _⟩ := h; rfl
  · refine ⟨_, PSs.nox (pss_cons (ps_set (i := 4) sc__law_tables.nd rfl (Or.inl rfl) (pe_callB call_len (by rfl) (fr_len T) boot_len (pa_cons (pv 1) pa_nil)))
      (pss_cons (ps_if (pt_val (pv 3))
          (pss_cons (ps_set (i := 5) sc__law_tables.nd rfl (Or.inl rfl) (pe_cal (ok_law_steady_reader T) (hr.mono (by decide)) pass0 (pa_cons (pv 0) (pa_cons (pv 4) (pa_cons (pv 2) pa_nil)))))
            (pss_one (ps_set (i := 6) sc__law_tables.nd rfl (Or.inl rfl) (pe_cal (ok_law_steady_reader T) (hr.mono (by decide)) pass0 (pa_cons (pv 0) (pa_cons (pv 4) (pa_cons (pv 2) pa_nil)))))))
          (pss_cons (ps_set (i := 5) sc__law_tables.nd rfl (Or.inl rfl) (pe_cal (ok_law_reader T) hr pass0 (pa_cons (pv 0) (pa_cons (pv 4) (pa_cons (pv 2) pa_nil)))))
            (pss_one (ps_set (i := 6) sc__law_tables.nd rfl (Or.inl rfl) (pe_cal (ok_law_reader T) hr pass0 (pa_cons (pv 0) (pa_cons (pv 4) (pa_cons (pv 2) pa_nil))))))))
      (pss_one (ps_ret (pe_tup (pa_cons (pv 5) (pa_cons (pv 6) (pa_cons (pe_cal (ok_law_marked T) hr pass0 (pa_cons (pv 0) (pa_cons (pv 1) (pa_cons (pv 5) (pa_cons (pv 6) pa_nil))))) pa_nil)))))))), ?_⟩
    obtain ⟨a, al, most, rfl, hs, h1, h8, m1, m40, q⟩ := h
    refine ⟨.str al, rfl, _, _, rfl, lenV_str (Nat.le_trans h8 (by decide)), .bl false, rfl, false, rfl, iteF ?_⟩
    refine ⟨.ref a, rfl, .int (al.length : Nat), rfl, .int (most : Nat), rfl, a, al.length, most, rfl, h1, h8, m1, m40, hs, fun H1 tl ls f1 d1 k1 => ?_⟩
    refine ⟨.ref a, rfl, .int (al.length : Nat), rfl, .int (most : Nat), rfl, a, al.length, most, rfl, h1, h8, m1, m40, f1.src, fun H2 tr rs f2 d2 k2 => ?_⟩
    have d1' := d1.same f2.sm
    have sl : SeqN (del H2 a) tl ls.length := by
      have := seqN_of d1' (ds := ls.map rowD) rfl
      unfold lenD rowsD itemsD at this
      simpa using this
    have sr : SeqN (del H2 a) tr rs.length := by
      have := seqN_of d2 (ds := rs.map rowD) rfl
      unfold lenD rowsD itemsD at this
      simpa using this
    refine ⟨tl, rfl, tr, rfl, .ref a, rfl, .str al, rfl, tl, rfl, tr, rfl, a, al, tl, tr, ls.length, rs.length, rfl, f2.src, sl, sr, h8, Nat.le_trans k1.le m40, Nat.le_trans k2.le m40, fun H3 tm trs f3 d3 hsub hlen => ?_⟩
    refine ⟨(by show 3 ≤ sizeLine; decide), fun t ht => ?_⟩
    have hta : t ≠ a := f3.src.ne ht
    have s4 := same_del a (same_upd (o := .tup [tl, tr, tm]) ht)
    refine q _ _ ls rs trs ((f1.trans (f2.trans f3)).trans (Fra.same f3.src (same_upd ht))) (.tup (by rw [del_ne hta]; exact upd_same) (.cons ((d1'.same f3.sm).same s4) (.cons ((d2.same f3.sm).same s4) (.cons (d3.same s4) .nil)))) ⟨k1, k2, hsub, hlen⟩
end
end Kx
set_option Elab.async false
set_option linter.all false
set_option maxRecDepth 100000
set_option maxHeartbeats 4000000
namespace Kx
open PySem PySem.Spec PyProof.Rows L2
/-! ### drawn tables are right -/
theorem all_below {m : Nat} : ∀ {r : List Nat}, (∀ k ∈ r, k < m) → (r.map fun k => PyData.int (k : Nat)).all (belowD m) = true
  | [], _ => rfl
  | k :: r, h => by
    rw [List.map_cons, List.all_cons, all_below fun x hx => h x (List.mem_cons_of_mem _ hx), Bool.and_true]
    have := h k (List.mem_cons_self ..)
    show (decide ((0 : Int) ≤ (k : Nat)) && decide (((k : Nat) : Int) < (m : Nat))) = true
    rw [decide_eq_true (by omega), decide_eq_true (by omega)]
    rfl
theorem rows_due {many most : Nat} {rows : List (List Nat)} (k : RowsOk many most rows) (hm : most ≤ 40) : readerDue many (rowsD rows) = none := by
  have hl := k.ne
  have hle := k.le
  unfold readerDue rowsD itemsD
  dsimp only
  rw [if_pos ⟨by rw [List.length_map]; omega, by rw [List.length_map]; omega⟩]
  refine firstBad_none fun j d hd => ?_
  rw [List.getElem?_map] at hd
  cases hr : rows[j]? with
  | none => rw [hr] at hd; cases hd
  | some r =>
    rw [hr] at hd
    cases hd
    obtain ⟨h1, h2⟩ := k.ok r (List.mem_of_getElem? hr)
    unfold moveD rowD itemsD
    dsimp only
    rw [List.length_map, List.length_map, h1, all_below h2]
    simp
theorem small_rows {many most : Nat} {rows : List (List Nat)} (k : RowsOk many most rows) (hm : most ≤ 40) (h8 : many ≤ 8) : smallR (rowsD rows) := by
  intro ds hds
  cases hds
  refine ⟨by rw [List.length_map]; have := k.le; omega, fun x hx es hes => ?_⟩
  obtain ⟨r, hr, rfl⟩ := List.mem_map.mp hx
  cases hes
  rw [List.length_map, (k.ok r hr).1]
  omega
/-- what a loop's product holds -/
theorem fullP_mem {n nr : Nat} {cs : List Nat} {t : Tri} (h : t ∈ fullP n nr cs) : t.1 < n ∧ t.2.1 ∈ cs ∧ t.2.2 < nr := by
  unfold fullP fullC fullQ at h
  simp only [List.mem_flatMap, List.mem_map, List.mem_range] at h
  obtain ⟨p, hp, c, hc, q, hq, rfl⟩ := h
  exact ⟨hp, hc, hq⟩
theorem tri_right {al : List Nat} {nl nr : Nat} {t : Tri} (h : t.1 < nl ∧ t.2.1 ∈ al ∧ t.2.2 < nr) : tripleD al nl nr (encTri t) = true := by
  unfold tripleD encTri itemsD
  dsimp only
  have e1 : belowD nl (.int (t.1 : Nat)) = true := by
    show (decide ((0 : Int) ≤ (t.1 : Nat)) && decide (((t.1 : Nat) : Int) < (nl : Nat))) = true
    rw [decide_eq_true (by omega), decide_eq_true (by omega)]
    rfl
  have e3 : belowD nr (.int (t.2.2 : Nat)) = true := by
    show (decide ((0 : Int) ≤ (t.2.2 : Nat)) && decide (((t.2.2 : Nat) : Int) < (nr : Nat))) = true
    rw [decide_eq_true (by omega), decide_eq_true (by omega)]
    rfl
  have e2 : letterL al (.str ⟨#[t.2.1]⟩) = true := decide_eq_true h.2.1
  rw [e1, e2, e3]
  rfl
end Kx
set_option Elab.async false
set_option linter.all false
set_option maxRecDepth 100000
set_option maxHeartbeats 4000000
namespace Kx
open PySem PySem.Spec PyProof.Rows L2
def ltT (s t : Tri) : Prop := s.1 < t.1 ∨ (s.1 = t.1 ∧ (s.2.1 < t.2.1 ∨ (s.2.1 = t.2.1 ∧ s.2.2 < t.2.2)))
theorem one_lt {c d : Nat} (h : c < d) : ([c] : List Nat) < [d] := List.Lex.rel h
theorem lt_tri {s t : Tri} (h : ltT s t) : PySem.W.dataLt (encTri s) (encTri t) = true := by
  unfold encTri
  rw [PySem.W.dataLt_tuple]
  have ai : ∀ i j : Int, PySem.W.alike (.int i) (.int j) = true := fun _ _ => rfl
  have as : ∀ i j : Str, PySem.W.alike (.str i) (.str j) = true := fun _ _ => rfl
  rcases h with h | ⟨h1, h | ⟨h2, h⟩⟩
  · rw [PySem.W.dataLt_all_no (ai _ _) (by simp [PyData.eqv]; omega), PySem.W.dataLt_int]
    exact decide_eq_true (by omega)
  · rw [PySem.W.dataLt_all_yes (ai _ _) (by simp [PyData.eqv]; omega), PySem.W.dataLt_all_no (as _ _) (by simp [PyData.eqv]; omega), PySem.W.dataLt_str]
    exact decide_eq_true (one_lt h)
  · rw [PySem.W.dataLt_all_yes (ai _ _) (by simp [PyData.eqv]; omega), PySem.W.dataLt_all_yes (as _ _) (by simp [PyData.eqv]; omega), PySem.W.dataLt_all_no (ai _ _) (by simp [PyData.eqv]; omega), PySem.W.dataLt_int]
    exact decide_eq_true (by omega)
theorem fullP_asc {n nr : Nat} {cs : List Nat} (h : cs.Pairwise (· < ·)) : (fullP n nr cs).Pairwise ltT := by
  unfold fullP
  rw [List.pairwise_flatMap]
  refine ⟨fun p hp => ?_, ?_⟩
  · unfold fullC
    rw [List.pairwise_flatMap]
    refine ⟨fun c hc => ?_, h.imp fun hcd x hx y hy => ?_⟩
    · unfold fullQ
      rw [List.pairwise_map]
      exact List.pairwise_lt_range.imp fun hq => .inr ⟨rfl, .inr ⟨rfl, hq⟩⟩
    · unfold fullQ at hx hy
      obtain ⟨q, _, rfl⟩ := List.mem_map.mp hx
      obtain ⟨q', _, rfl⟩ := List.mem_map.mp hy
      exact .inr ⟨rfl, .inl hcd⟩
  · refine List.pairwise_lt_range.imp fun hpp x hx y hy => ?_
    unfold fullC fullQ at hx hy
    simp only [List.mem_flatMap, List.mem_map] at hx hy
    obtain ⟨c, _, q, _, rfl⟩ := hx
    obtain ⟨c', _, q', _, rfl⟩ := hy
    exact .inl hpp
theorem tup_tri (t : Tri) : tupOf (encTri t) = encTri t := rfl
theorem go_ok {al : List Nat} {nl nr : Nat} : ∀ {trs : List Tri} {prev : Option PyData} {k : Int}, (∀ t ∈ trs, tripleD al nl nr (encTri t) = true) → trs.Pairwise ltT → (∀ p, prev = some p → ∃ s, p = encTri s ∧ ∀ t ∈ trs, ltT s t) →
    goMarked al nl nr prev (trs.map encTri) k = none
  | [], _, _, _, _, _ => rfl
  | t :: trs, prev, k, h1, h2, h3 => by
    rw [List.map_cons, goMarked_cons, if_pos (h1 t (List.mem_cons_self ..))]
    have hp : (prev.all fun p => PySem.W.dataLt p (tupOf (encTri t))) = true := by
      cases prev with
      | none => rfl
      | some p =>
        obtain ⟨s, rfl, hs⟩ := h3 p rfl
        exact lt_tri (hs t (List.mem_cons_self ..))
    rw [if_pos hp]
    obtain ⟨h4, h5⟩ := List.pairwise_cons.mp h2
    exact go_ok (fun u hu => h1 u (List.mem_cons_of_mem _ hu)) h5 fun p hp => by
      cases hp
      exact ⟨t, rfl, h4⟩
theorem marked_due {al : List Nat} {nl nr : Nat} {trs : List Tri} (ha : al.Pairwise (· < ·)) (hs : trs.Sublist (fullP nl nr al)) : markedDue al nl nr (.list (trs.map encTri)) = none := by
  unfold markedDue itemsD
  exact go_ok (fun t ht => tri_right (fullP_mem (hs.subset ht))) ((fullP_asc ha).sublist hs) (fun p hp => by cases hp)
/-- the drawn tables make a pair -/
theorem tabs_due {al : Str} {most : Nat} {ls rs : List (List Nat)} {trs : List Tri} (hal : alphaD (.str al) = true) (k : TabsOk al most ls rs trs) (hm : most ≤ 40) : pairDue (.str al) (rowsD ls) (rowsD rs) (.list (trs.map encTri)) = .ok := by
  rw [pairDue_ok hal, rows_due k.l hm, rows_due k.r hm]
  have ha : ascL al.cps.toList = true := by
    have h1 : alphaL al.cps.toList = true := hal
    unfold alphaL at h1
    rw [Bool.and_eq_true, Bool.and_eq_true] at h1
    exact h1.2.2
  have e1 : lenD (rowsD ls) = ls.length := by unfold lenD rowsD itemsD; simp
  have e2 : lenD (rowsD rs) = rs.length := by unfold lenD rowsD itemsD; simp
  dsimp only
  rw [e1, e2, marked_due (asc_pair ha) k.sub]
end Kx
set_option Elab.async false
set_option linter.all false
set_option maxRecDepth 100000
set_option maxHeartbeats 4000000
namespace Kx
open PySem PySem.Spec PyProof.Rows L2
theorem menu_right : ∀ z ∈ menuA, alphaD (.str z) = true := by
  have h : (menuA.all fun z => alphaD (.str z)) = true := by decide +kernel
  exact fun z hz => List.all_eq_true.mp h z hz
theorem menu_len : ∀ z ∈ menuA, 1 ≤ z.length ∧ z.length ≤ 8 := by
  have h : (menuA.all fun z => decide (1 ≤ z.length ∧ z.length ≤ 8)) = true := by decide +kernel
  exact fun z hz => of_decide_eq_true (List.all_eq_true.mp h z hz)
theorem moveT_row (r : List Nat) : moveT (rowD r) = r := by
  unfold moveT rowD itemsD
  rw [Option.getD_some, List.map_map]
  have : (natD ∘ fun k : Nat => PyData.int (k : Nat)) = id := funext fun k => Int.toNat_natCast k
  rw [this, List.map_id]
theorem tabD_rows (rows : List (List Nat)) : tabD (rowsD rows) = rows := by
  unfold tabD rowsD itemsD
  rw [Option.getD_some, List.map_map]
  have : (moveT ∘ rowD) = id := funext moveT_row
  rw [this, List.map_id]
theorem triD_tri (t : Tri) : triD (encTri t) = t := by
  unfold triD encTri itemsD
  show ((t.1 : Int).toNat, t.2.1, (t.2.2 : Int).toNat) = t
  rw [Int.toNat_natCast, Int.toNat_natCast]
theorem trisD_tris (trs : List Tri) : trisD (.list (trs.map encTri)) = trs := by
  unfold trisD itemsD
  rw [Option.getD_some, List.map_map]
  have : (triD ∘ encTri) = id := funext triD_tri
  rw [this, List.map_id]
/-- the pair that drawn tables make -/
theorem pairD_tabs (al : Str) (ls rs : List (List Nat)) (trs : List Tri) : pairD (.str al) (rowsD ls) (rowsD rs) (.list (trs.map encTri)) = ⟨al, ixF al, ls, rs, trs⟩ := by
  unfold pairD
  rw [tabD_rows, tabD_rows, trisD_tris]
  rfl
theorem small_tris (trs : List Tri) (h : trs.length ≤ 12800) : smallM (.list (trs.map encTri)) := by
  intro ds hds
  cases hds
  refine ⟨by rw [List.length_map]; omega, fun x hx es hes => ?_⟩
  obtain ⟨t, ht, rfl⟩ := List.mem_map.mp hx
  cases hes
  refine ⟨by simp, fun y hy z hz => ?_⟩
  simp only [List.mem_cons, List.not_mem_nil, or_false] at hy
  rcases hy with rfl | rfl | rfl
  · cases hz
  · cases hz
    show 1 ≤ 100000
    decide
  · cases hz
/-- all that is asked of what is passed to a making -/
theorem small_tabs {al : Str} {most : Nat} {ls rs : List (List Nat)} {trs : List Tri} (h8 : al.length ≤ 8) (k : TabsOk al most ls rs trs) (hm : most ≤ 40) : smallA (.str al) (rowsD ls) (rowsD rs) (.list (trs.map encTri)) :=
  ⟨fun z hz => by cases hz; omega, small_rows k.l hm h8, small_rows k.r hm h8, small_tris trs k.le⟩
end Kx
set_option Elab.async false
set_option linter.all false
set_option maxRecDepth 100000
set_option maxHeartbeats 4000000
namespace Kx
open PySem PySem.Spec PyProof.Rows L2
/-! ### right calls outside a try: no exception is due -/
theorem passAt0 {X : Cx} (σ : L2.St) : PassesAt (L2N.CX X.prog X.w) X σ E0 := fun _ _ _ _ _ _ c => by
  obtain ⟨_, _, _, _, _, _, _, _, _, _, _, _, h⟩ := c
  exact h.elim
section
variable {K : PySem.W.Frag}
/-- right things make a pair -/
theorem init_right {H : Hp} {x dx : Addr} {va vl vr vm : V} {a l r m : PyData} {Q : VK} {E : XK} (hx : H x = none) (hd : H dx = none) (hne : dx ≠ x) (ra : Rp H va a) (rl : Rp H vl l) (rr : Rp H vr r) (rm : Rp H vm m) (sm : smallA a l r m) (hok : pairDue a l r m = .ok)
    (q : ∀ H', Same H H' → PairAt K H' x (pairD a l r m) → PairOk (pairD a l r m) → Q (.ref x) H') :
    sp_Pair_init K [.ref x, va, vl, vr, vm] (upd (upd H dx (.own x)) x (.ins (He.ga K "Pair") dx [])) (fun v H2 => v = .non ∧ Q (.ref x) H2) E := by
  have s0 := same_made (C := He.ga K "Pair") hx hd
  refine ⟨x, dx, va, vl, vr, vm, a, l, r, m, rfl, upd_same, by rw [upd_ne hne]; exact upd_same, hne, ra.same s0, rl.same s0, rr.same s0, rm.same s0, sm, fun H1 sx => ?_, fun _ H1 sx PA PO => ⟨rfl, q H1 (sameX_made hx hd sx) PA PO⟩⟩
  intro d1 _
  rw [hok]
  trivial
/-- a right row is told -/
theorem call_right {H : Hp} {x : Addr} {D : PairD} {z : Str} {Q : VK} {E : XK} (PA : PairAt K H x D) (PO : PairOk D) (hz : z.length ≤ 200) (hl : ∀ c ∈ z.cps.toList, c ∈ D.al.cps.toList) (q : ∀ H' r, Same H H' → Rt H' r (encB (marksP D z.cps.toList)) → Q r H') :
    sp_Pair_call K [.ref x, .str z] H Q E := by
  have hw : wrongL D.al.cps.toList (.str z) = none := by
    show (if z.length ≤ 200 then firstNot D.al.cps.toList z.cps.toList 0 else some (-1)) = none
    rw [if_pos hz]
    exact firstNot_none fun j c hc => hl c (List.mem_of_getElem? hc)
  refine ⟨x, D, .str z, .str z, rfl, PA, PO, .str z, fun y hy => by cases hy; omega, fun k hk => ?_, fun y hy _ H' r s t => ?_⟩
  · rw [hw] at hk; cases hk
  · cases hy
    exact q H' r s t
/-- a right place is told -/
theorem in_right {H : Hp} {x : Addr} {D : PairD} {z : Str} {n : Nat} {vp : V} {dp : PyData} {Q : VK} {E : XK} (PA : PairAt K H x D) (PO : PairOk D) (hp : Rp H vp dp) (hi : itemsD dp = some [.str z, .int (n : Nat)]) (hz : z.length ≤ 200) (hl : ∀ c ∈ z.cps.toList, c ∈ D.al.cps.toList) (hn : n < z.length)
    (q : ∀ H', Same H H' → Q (.bl ((marksP D z.cps.toList).getD n false)) H') : sp_Pair_contains K [.ref x, vp] H Q E := by
  have hw : wrongL D.al.cps.toList (.str z) = none := by
    show (if z.length ≤ 200 then firstNot D.al.cps.toList z.cps.toList 0 else some (-1)) = none
    rw [if_pos hz]
    exact firstNot_none fun j c hc => hl c (List.mem_of_getElem? hc)
  refine ⟨x, D, vp, dp, .str z, .int (n : Nat), rfl, PA, PO, hp, hi, fun y hy => by cases hy; omega, fun k hk => ?_, fun y hy _ => ⟨fun hb => ?_, fun m hm hlt H' s => ?_⟩⟩
  · rw [hw] at hk; cases hk
  · cases hy
    have hb : (decide ((0 : Int) ≤ (n : Nat)) && decide (((n : Nat) : Int) < (z.length : Nat))) = false := hb
    rw [decide_eq_true (by omega), decide_eq_true (by omega)] at hb
    cases hb
  · cases hy
    have e : n = m := by cases hm; rfl
    subst e
    exact q H' s
end
end Kx
set_option Elab.async false
set_option linter.all false
set_option maxRecDepth 100000
set_option maxHeartbeats 4000000
namespace RT
open PySem PySem.W PySem.Calls PyProof.Rows PyProof.V PySem.Spec
section
variable {prog : Program} {w : World} {A : Around} {E : Value → Shared → Prop} {s : Shared} {R : Result → Shared → Prop}
/-- list(reversed(list)): a new list -/
theorem extend_rev {it l S : Addr} {c₀ : Nat} {items : Array Value} (hh : A.handled = none) (hit : s.heap.IsRevIter it l ((items.size : Int) - 1)) (hl : s.heap.IsList l items) (hne : l ≠ it) (hn : items.size ≤ sizeLine)
    (hS : s.heap.get? S = some { cls := .type "list", data := .seq #[] c₀ }) (hSi : S ≠ it) (hSl : S ≠ l)
    (hR : ∀ (h' : Heap) (tk : Nat) (acc : Array Value) (c' : Nat), (∀ b o, b ≠ S → b ≠ it → s.heap.get? b = some o → h'.get? b = some o) → h'.get? S = some { cls := .type "list", dict := none, data := .seq acc c', slots := #[] } →
      ItemsOf (fun i v => items[items.size - 1 - i]? = some v) acc items.size → R (.ok (.ret .none)) { s with heap := h', toks := tk }) :
    wpAny (model prog w) A.in1 (Builtin.List.listExtendWith (.ref S) (.ref it) .none)
      (fun fin s' => match fin with | .done f => R (.ok f) s' | .again c' => c'.quiet = true ∧ codeAny (model prog w) A c' R s') (fun e s' => R (.error e) s') s := by
  have W := (Walks.listRev (prog := prog) (w := w) (A := A.in1) hh it l hne items).toS
  have hSf : S ∉ [it, l] := by simp only [List.mem_cons, List.not_mem_nil, or_false, not_or]; exact ⟨hSi, hSl⟩
  have hT : s.TypeIs (.ref it) "list_reverseiterator" := hit.typeIs
  have h1 : Builtin.List.listSameRef (.ref S) (.ref it) = false := by simp [Builtin.List.listSameRef, hSi]
  unfold Builtin.List.listExtendWith
  refine wpAny_bind (wpAny_typeOf hT ?_)
  rw [if_neg (by rw [h1]; decide)]
  refine wpAny_bind (wpAny_pyIter_revIter hit ?_)
  refine wpAny_bind (wpAny_holding ?_)
  unfold Builtin.List.listLengthHint
  refine wpAny_bind (wpAny_specialOf hT nolen_lri ?_)
  show wpAny _ A.in1 (specialOf (Value.ref it) (Str.ofString "__length_hint__") >>= _) _ _ _
  refine wpAny_bind (wpAny_specialOf hT hint_lri ?_)
  generalize hid : ("list_reverseiterator.__length_hint__" : String) = id0
  wp_delta
  rw [show splitId id0 = some ("list_reverseiterator", "__length_hint__") from by subst hid; decide +kernel]
  subst hid
  refine wpAny_bind (wpAny_isInstance (b := true) hT (by rw [isSubtype_type]; kernel_rfl) ?_)
  refine wpAny_pure ?_
  rw [if_neg (by decide)]
  have e0 : ((items.size : Nat) : Int) - 1 - ((0 : Nat) : Int) = (items.size : Int) - 1 := by omega
  refine wpAny_pure ⟨plainId_quiet F.plain_extend_loop _, codeAny_extend_loopS W hn _ hSf _ items.size 0 _ _ _ rfl (Nat.zero_le _) ⟨Nat.zero_le _, by rw [e0]; exact hit, hl⟩ hS (ItemsOf.nil _) fun s' acc' c' hm hS' hacc => ?_⟩
  rw [Moved.eq_with hm]
  refine hR s'.heap s'.toks acc' c' (fun b o hb hb2 e => hm.heap b o (fun hmem => ?_) e) hS' hacc
  rcases List.mem_cons.mp hmem with e' | hmem
  · exact hb e'
  · exact hb2 (List.mem_singleton.mp hmem)
theorem list_init_rev {it l S : Addr} {items : Array Value} (hh : A.handled = none) (hit : s.heap.IsRevIter it l ((items.size : Int) - 1)) (hl : s.heap.IsList l items) (hne : l ≠ it) (hn : items.size ≤ sizeLine)
    (hS : s.heap.get? S = some { cls := .type "list", data := .seq #[] }) (hSi : S ≠ it) (hSl : S ≠ l)
    (hR : ∀ (h' : Heap) (tk : Nat) (acc : Array Value) (c' : Nat), (∀ b o, b ≠ S → b ≠ it → s.heap.get? b = some o → h'.get? b = some o) → h'.get? S = some { cls := .type "list", dict := none, data := .seq acc c', slots := #[] } →
      ItemsOf (fun i v => items[items.size - 1 - i]? = some v) acc items.size → R (.ok (.ret .none)) { s with heap := h', toks := tk }) :
    wpAny (model prog w) A.in1 (Builtin.«list.__init__» ⟨[.ref S, .ref it], []⟩)
      (fun fin s' => match fin with | .done f => R (.ok f) s' | .again c' => c'.quiet = true ∧ codeAny (model prog w) A c' R s') (fun e s' => R (.error e) s') s := by
  show wpAny _ A.in1 (do let old ← Builtin.List.listItems (.ref S); Builtin.List.listUpdate (.ref S) (fun _ => #[]); letGo old.toList.reverse; Builtin.List.listExtendWith (.ref S) (.ref it) .none) _ _ s
  refine wpAny_bind ?_
  unfold Builtin.List.listItems
  refine wpAny_bind (wpAny_seqItems hS rfl (wpAny_pure ?_))
  show wpAny _ A.in1 (updateSeq S (fun _ => #[]) >>= fun _ => letGo (#[] : Array Value).toList.reverse >>= fun _ => Builtin.List.listExtendWith (.ref S) (.ref it) .none) _ _ s
  refine wpAny_bind (wpAny_updateSeq hS rfl ?_)
  have hS₂ := Heap.get?_update_self (Obj.mapSeq (fun _ => (#[] : Array Value))) hS rfl
  have oth : ∀ b o, b ≠ S → s.heap.get? b = some o → (s.heap.update S (Obj.mapSeq (fun _ => (#[] : Array Value)))).get? b = some o :=
    fun b o hb e => (Heap.get?_update_other _ _ (Ne.symm hb)).trans e
  refine wpAny_bind (wpAny_letGo ?_)
  obtain ⟨ol, hol, hcl, nl, hdl⟩ := hl
  exact extend_rev (s := { s with heap := s.heap.update S (Obj.mapSeq (fun _ => (#[] : Array Value))) }) hh (hit.at fun o e => oth it o (Ne.symm hSi) e) ⟨ol, oth l ol (Ne.symm hSl) hol, hcl, nl, hdl⟩ hne hn hS₂ hSi hSl fun h' tk acc c' hk hS' hacc => hR h' tk acc c' (fun b o h1 h2 e => hk b o h1 h2 (oth b o h1 e)) hS' hacc
theorem call_list_rev {it l : Addr} {items : Array Value} {Q : Value → Shared → Prop} (hh : A.handled = none) (hit : s.heap.IsRevIter it l ((items.size : Int) - 1)) (hl : s.heap.IsList l items) (hne : l ≠ it) (hn : items.size ≤ sizeLine)
    (hQ : ∀ (h' : Heap) (tk : Nat) (acc : Array Value) (c' : Nat), (∀ b o, b ≠ it → s.heap.get? b = some o → h'.get? b = some o) → h'.get? s.heap.objs.size = some { cls := .type "list", dict := none, data := .seq acc c', slots := #[] } →
      ItemsOf (fun i v => items[items.size - 1 - i]? = some v) acc items.size → Q (.ref s.heap.objs.size) { s with heap := h', toks := tk }) :
    wpAny (model prog w) A (call (.type "list") [.ref it]) Q E s := by
  refine callType_codes (Q₁ := fun obj s₁ => obj = .ref s.heap.objs.size ∧ s₁ = { s with heap := s.heap.push { cls := .type "list", data := .seq #[] } }) F.called_list (F.typeCall_list_1 _) F.entry_list_init
    (code_list_new _ ⟨rfl, rfl⟩) fun obj s₁ h₁ => ?_
  obtain ⟨rfl, rfl⟩ := h₁
  have hS : (s.heap.push { cls := .type "list", data := .seq #[] }).get? s.heap.objs.size = some { cls := .type "list", data := .seq #[] } := Heap.get?_push_size _ rfl
  obtain ⟨oi, hoi, _⟩ := id hit
  obtain ⟨ol, hol, _⟩ := id hl
  refine ⟨⟨_, hS, rfl⟩, F.args_list_init_2 _ _, list_init_rev (A := A.in1) hh (hit.at fun o e => Heap.get?_push_of_some _ e) (hl.push _) hne hn hS (Nat.ne_of_gt (Heap.lt_size hoi)) (Nat.ne_of_gt (Heap.lt_size hol)) fun h' tk acc c' hk hS' hacc => ?_⟩
  exact ⟨rfl, hQ h' tk acc c' (fun b o hb e => hk b o (Nat.ne_of_lt (Heap.lt_size e)) hb (Heap.get?_push_of_some _ e)) hS' hacc⟩
end
end RT
namespace Kx
open PySem PySem.Spec PyProof.Rows L2
section
variable {X : Cx}
/-- list(reversed(x)), x a list: a new list -/
def tLstRev (K : PySem.W.Frag) (te : TE) : TE := fun σ H Q => te σ H fun v H1 => ∃ (a : Addr) (xs : List V), v = .ref a ∧ SqL K H1 a xs ∧ ∀ q, H1 q = none → Q (.ref q) (upd H1 q (.lst xs.reverse))
theorem pe_lstRev {e : Expr} {te : TE} {p p2 pos pos2 : Pos} (hc : X.calm = true) (hg : Gl X "list") (hm : X.mg "list" = none) (hg2 : Gl X "reversed") (hm2 : X.mg "reversed" = none) (he : PE X e te)
    (hs : starEach [e] X.env = (false, eval e X.env) :: starEach [] X.env := by rfl)
    (hs2 : starEach [.Call (.Name "reversed" p2) [e] [] pos2] X.env = (false, eval (.Call (.Name "reversed" p2) [e] [] pos2) X.env) :: starEach [] X.env := by rfl) :
    PE X (.Call (.Name "list" p) [.Call (.Name "reversed" p2) [e] [] pos2] [] pos) (tLstRev X.K te) := by
  refine ⟨fun pins s σ H Q I h => ?_⟩
  refine Call_ (ld_blt I hg hm (u := .type "list") (by decide +kernel) (PyProof.Rows.callWith_type1 (args_cons (Call_ (ld_blt I hg2 hm2 PyProof.Rows.boot_reversed (PyProof.Rows.callWith_type1 (args_cons (thn (he.run pins s σ H _ I h) fun u s1 ⟨v, H1, I1, r1, q1⟩ => args_nil ?_) hs) hs rfl))) hs2) hs2 rfl))
  obtain ⟨a, xs, ev, hq, q⟩ := q1
  subst ev
  obtain rfl : u = Value.ref a := r1
  obtain ⟨its, rv, p', hz⟩ := I1.list hq
  refine call_reversed_list p'.isList (args_nil ?_)
  have k0 : ∀ b o, s1.heap.get? b = some o → (s1.heap.push (revObj a ((its.toArray.size : Int) - 1))).get? b = some o := fun b o e => Heap.get?_push_of_some _ e
  have I2 : Inv X pins σ H1 { s1 with heap := s1.heap.push (revObj a ((its.toArray.size : Int) - 1)) } := I1.kept (t' := s1.toks) k0
  obtain ⟨f0, f1, f2, f3, f4, f5⟩ := I1.fpOk (H' := H1) (b := s1.heap.objs.size) (Nat.le_refl _) (I1.hok.fresh (Nat.le_refl _))
  have hl := p'.isList
  obtain ⟨ol, hol, _⟩ := id hl
  have hne : a ≠ s1.heap.objs.size := Nat.ne_of_lt (Heap.lt_size hol)
  have hn : its.toArray.size ≤ sizeLine := by rw [List.size_toArray, ← rv.length]; exact hz
  refine RT.call_list_rev (s := { s1 with heap := s1.heap.push (revObj a ((its.toArray.size : Int) - 1)) }) (I1.ok.hd hc) ⟨_, Heap.get?_push_size _ rfl, rfl, rfl⟩ (hl.push _) hne hn fun h' tk acc c' hk hnew hi => ?_
  have hnS : H1 (s1.heap.push (revObj a ((its.toArray.size : Int) - 1))).objs.size = none := I2.hok.fresh (Nat.le_refl _)
  have I3 := I2.turnedNew (h' := h') (t' := tk) (ch := [s1.heap.objs.size]) (T := (s1.heap.push (revObj a ((its.toArray.size : Int) - 1))).objs.size) (ob := .lst xs.reverse) (fun b o hb e => hk b o (fun z => hb (by simp [z])) e) (fun b hb => by rw [List.mem_singleton.mp hb]; exact ⟨f0, f1, f2, f3, f4, f5⟩) (Nat.le_refl _)
    (show ObjOk X.prog X.w _ _ _ (.lst xs.reverse) from ⟨by rw [List.length_reverse]; exact hz, acc.toList, c', RT.vals_rev rv hi, by rw [Array.toArray_toList]; exact hnew⟩)
  exact ⟨.ref _, upd H1 _ (.lst xs.reverse), I3, rfl, q _ hnS⟩
end
end Kx
set_option Elab.async false
set_option linter.all false
set_option maxRecDepth 100000
set_option maxHeartbeats 4000000
namespace Kx
open PySem PySem.Spec PyProof.Rows L2
theorem occ_head {al : Str} {c : Nat} (h : c ∈ al.cps.toList) : ∃ rest, Builtin.Str.occurrences al ⟨#[c]⟩ 0 al.length 1 = ixF al c :: rest := by
  have h1 := (find_in h).1
  unfold ixF
  unfold Txt.find at h1 ⊢
  cases ho : Builtin.Str.occurrences al ⟨#[c]⟩ 0 al.length 1 with
  | nil => rw [ho] at h1; exact absurd h1 (by decide)
  | cons i r => exact ⟨r, rfl⟩
/-- al.index(c) -/
theorem index_r {H : Hp} {al : Str} {c : Nat} {Q : VK} (h : c ∈ al.cps.toList) (q : Q (.int (ixF al c : Nat)) H) : (fun (x : V) (xs : List V) (H : Hp) (Q : VK) => ∃ a b i rest, x = .str a ∧ xs = [.str b] ∧ Builtin.Str.occurrences a b 0 a.length 1 = i :: rest ∧ Q (.int (i : Nat)) H) (.str al) [.str ⟨#[c]⟩] H Q := by
  obtain ⟨rest, e⟩ := occ_head h
  exact ⟨al, ⟨#[c]⟩, _, rest, rfl, rfl, e, q⟩
theorem rows_tab {many most : Nat} {rows : List (List Nat)} (k : RowsOk many most rows) (h : most ≤ 40) : TabOk rows many :=
  ⟨k.ne, Nat.le_trans k.le h, fun m hm => (k.ok m hm).1, fun m hm => (k.ok m hm).2⟩
/-- a row of a table of lists, its item -/
theorem rp_move {H : Hp} {v : V} {t : Tab} {na p k : Nat} (h : Rp H v (rowsD t)) (T : TabOk t na) (hp : p < t.length) (hk : k < na) :
    ∃ a xs b ys, v = .ref a ∧ H a = some (.lst xs) ∧ xs[p]? = some (.ref b) ∧ H b = some (.lst ys) ∧ ys[k]? = some (.int (stepT t p k : Nat)) := by
  unfold rowsD at h
  cases h with
  | @lst a xs _ ha hx =>
    have hl := hx.length
    rw [List.length_map] at hl
    have hpx : p < xs.length := by omega
    obtain ⟨d, hd, rd⟩ := hx.get (i := p) (List.getElem?_eq_getElem hpx)
    have ed : d = rowD t[p] := by
      rw [List.getElem?_map, List.getElem?_eq_getElem hp] at hd
      exact (Option.some.inj hd).symm
    subst ed
    unfold rowD at rd
    generalize hv : xs[p] = y at rd
    cases rd with
    | @lst b ys _ hb hy =>
      have ml := T.ml t[p] (List.getElem_mem hp)
      have hl2 := hy.length
      rw [List.length_map] at hl2
      have hky : k < ys.length := by omega
      obtain ⟨d2, hd2, rd2⟩ := hy.get (i := k) (List.getElem?_eq_getElem hky)
      have hk2 : k < t[p].length := by omega
      rw [List.getElem?_map, List.getElem?_eq_getElem hk2] at hd2
      have e2 : d2 = .int ((t[p][k] : Nat) : Int) := (Option.some.inj hd2).symm
      subst e2
      refine ⟨a, xs, b, ys, rfl, ha, by rw [List.getElem?_eq_getElem hpx, hv], hb, ?_⟩
      rw [List.getElem?_eq_getElem hky]
      have e3 : stepT t p k = t[p][k] := by
        unfold stepT
        simp [List.getD_eq_getElem?_getD, hp, hk2]
      rw [e3]
      generalize ys[k] = z at rd2
      cases rd2
      rfl
/-! ### the marks of triples -/
theorem maskC_bit (p c q : Nat) : ∀ trs : List Tri, (maskC p c trs).testBit q = decide ((p, c, q) ∈ trs) := by
  suffices h : ∀ (trs : List Tri) (m : Nat), (trs.foldl (fun m t => if t.1 = p ∧ t.2.1 = c then m ||| 1 <<< t.2.2 else m) m).testBit q = (m.testBit q || decide ((p, c, q) ∈ trs)) by
    intro trs
    unfold maskC
    rw [h, Nat.zero_testBit, Bool.false_or]
  intro trs
  induction trs with
  | nil => intro m; simp
  | cons t trs ih =>
    intro m
    rw [List.foldl_cons, ih]
    obtain ⟨a, b, d⟩ := t
    by_cases e : a = p ∧ b = c
    · rw [if_pos e]
      obtain ⟨rfl, rfl⟩ := e
      rw [Nat.testBit_or, Nat.one_shiftLeft, Nat.testBit_two_pow]
      by_cases hd : d = q
      · subst hd; simp
      · simp [hd, Ne.symm hd, eq_comm]
    · rw [if_neg e]
      have : (p, c, q) ≠ (a, b, d) := fun z => e (by injection z with z1 z2; injection z2 with z2 z3; exact ⟨z1.symm, z2.symm⟩)
      simp [List.mem_cons, this]
theorem markAt_mem {al : Str} {ls rs : Tab} {trs : List Tri} {p c q : Nat} (hn : al.cps.toList.Nodup) (hc : c ∈ al.cps.toList) (ht : ∀ t ∈ trs, t.2.1 ∈ al.cps.toList) : markAt ⟨al, ixF al, ls, rs, trs⟩ p c q = decide ((p, c, q) ∈ trs) := by
  obtain ⟨j, hj⟩ := List.mem_iff_getElem?.mp hc
  unfold markAt
  dsimp only
  rw [find_at hj hn, maskT_C hj hn trs ht, maskC_bit]
/-! ### a dict of triples -/
abbrev key3 (t : Tri) : List L2.Key := [Sum.inl (t.1 : Nat), Sum.inr ⟨#[t.2.1]⟩, Sum.inl (t.2.2 : Nat)]
theorem key3_inj {t u : Tri} (h : key3 t = key3 u) : t = u := by
  injection h with h1 h2
  injection h2 with h2 h3
  injection h3 with h3 _
  have e1 := Sum.inl.inj h1
  have e2 := Sum.inr.inj h2
  have e3 := Sum.inl.inj h3
  have e4 : (⟨#[t.2.1]⟩ : Str).cps.toList = (⟨#[u.2.1]⟩ : Str).cps.toList := by rw [e2]
  have e5 := (List.cons.inj e4).1
  obtain ⟨a, b, c⟩ := t
  obtain ⟨a', b', c'⟩ := u
  have : a = a' := by have : (a : Int) = a' := e1; omega
  have : c = c' := by have : (c : Int) = c' := e3; omega
  subst_vars
  rfl
def DictS (kvs : List (List L2.Key × V)) (l : List Tri) : Prop := ∀ t : Tri, (valV kvs (key3 t)).isSome = decide (t ∈ l)
theorem dictS_put {kvs : List (List L2.Key × V)} {l : List Tri} {t : Tri} {v : V} (h : DictS kvs l) : DictS (putK kvs (key3 t) v) (l ++ [t]) := by
  intro u
  rw [valV_put]
  by_cases e : u = t
  · subst e; rw [if_pos rfl]; simp
  · rw [if_neg (fun z => e (key3_inj z)), h u]; simp [e]
theorem aheadT_get (t : Tab) (ix : Nat → Nat) : ∀ (cs : List Nat) (p i : Nat), i < cs.length → (aheadT t ix p cs)[i]? = some (runT t ix p (cs.take i))
  | [], _, _, h => absurd h (Nat.not_lt_zero _)
  | c :: cs, p, 0, _ => rfl
  | c :: cs, p, i + 1, h => aheadT_get t ix cs (stepT t p (ix c)) i (Nat.lt_of_succ_lt_succ h)
theorem marks_at {D : PairD} {cs : List Nat} {k c : Nat} (h : cs[k]? = some c) : (marksP D cs)[k]? = some (markAt D (runT D.l D.ix 0 (cs.take k)) c (runT D.r D.ix 0 (cs.reverse.take (cs.length - 1 - k)))) := by
  have hk := (List.getElem?_eq_some_iff.mp h).1
  have hb : (behindT D.r D.ix cs)[k]? = some (runT D.r D.ix 0 (cs.reverse.take (cs.length - 1 - k))) := by
    unfold behindT
    rw [List.getElem?_reverse (by rw [aheadT_length, List.length_reverse]; exact hk), aheadT_length, List.length_reverse]
    exact aheadT_get _ _ _ _ _ (by rw [List.length_reverse]; omega)
  unfold marksP
  have hz : ((aheadT D.l D.ix 0 cs).zip (cs.zip (behindT D.r D.ix cs)))[k]? = some (runT D.l D.ix 0 (cs.take k), c, runT D.r D.ix 0 (cs.reverse.take (cs.length - 1 - k))) :=
    List.getElem?_zip_eq_some.mpr ⟨aheadT_get _ _ cs 0 k hk, List.getElem?_zip_eq_some.mpr ⟨h, hb⟩⟩
  rw [List.getElem?_map, hz]
  rfl
/-- told from behind -/
def backM (D : PairD) (cs : List Nat) (i : Nat) : List Bool := ((marksP D cs).reverse).take i
section
variable {P : Program} {w : World} {K : PySem.W.Frag} {mg : Str → Option Value} {base : Heap}
def sp_law_read : Sp := fun vs H Q _ => ∃ (al : Str) (v : V) (row : Str) (ls rs : List (List Nat)) (trs : List Tri), vs = [.str al, v, .str row] ∧ Rp H v (tabsD ls rs trs) ∧ TabOk ls al.length ∧ TabOk rs al.length ∧ al.cps.toList.Nodup ∧ (∀ t ∈ trs, t.2.1 ∈ al.cps.toList) ∧
  trs.length ≤ 100000 ∧ (∀ c ∈ row.cps.toList, c ∈ al.cps.toList) ∧ row.length ≤ 1000 ∧ ∀ H' p, Same H H' → H' p = some (.lst ((marksP ⟨al, ixF al, ls, rs, trs⟩ row.cps.toList).map V.bl)) → Q (.ref p) H'
theorem ok_law_read (T : Txt K mg) : Cal P w K mg base CX0 1 "_law_read" ["_law_alphabet_here", "_law_tables_here", "_law_row"] sp_law_read := by
  obtain ⟨fd, F⟩ := F__law_read T
  refine cal_mk F (g__law_read T) sc__law_read (fun _ _ _ _ _ _ us hl => match us, hl with | [_, _, _], _ => rfl) (fun vs H Q E h => ?_) (fun cdv A outer s H vs Q E hr h => ?_)
  · obtain ⟨al, v, row, ls, rs, trs, rfl, _⟩ := h; rfl
  · refine ⟨_, PSs.nox (pss_cons (ps_set (i := 3) sc__law_read.nd rfl (Or.inl rfl) pe_dnewT)
      (pss_cons (ps_for PassesOwn.never rfl (pi_seq (pe_ix ix_tup (pv 1) pe_int (fun _ _ => rfl))) (pg_name (i := 4) sc__law_read.nd rfl (Or.inl rfl))
        (pss_one (ps_dput (hu1 hr) (pv 3) (pe_callTy call_tuple_of (by rfl) (fr_tuple T) b_tuple (pa_cons (pv 4) pa_nil)) pe_bl (by rfl))))
      (pss_cons (ps_set (i := 5) sc__law_read.nd rfl (Or.inl rfl) (pe_lst pa_nil))
      (pss_cons (ps_set (i := 6) sc__law_read.nd rfl (Or.inl rfl) pe_int)
      (pss_cons (ps_for PassesOwn.never rfl (pi_str (pv 2)) (pg_name (i := 7) sc__law_read.nd rfl (Or.inl rfl))
        (pss_cons (ps_expr (pe_bm PySem.F.plainAttrs_list PySem.F.slot_list_append PySem.F.type_list_append mt_append (pv 5) (pa_cons (pv 6) pa_nil)))
        (pss_one (ps_set (i := 6) sc__law_read.nd rfl (Or.inl rfl) (pe_ix ix_list (pe_ix ix_list (pe_ix ix_tup (pv 1) pe_int (fun _ _ => rfl)) (pv 6) (fun _ _ => rfl)) (pe_m1 PySem.F.slot_str_index PySem.F.type_str_index mt_sindex (pv 0) (pv 7)) (fun _ _ => rfl))))))
      (pss_cons (ps_set (i := 8) sc__law_read.nd rfl (Or.inl rfl) (pe_lst pa_nil))
      (pss_cons (ps_set (i := 9) sc__law_read.nd rfl (Or.inl rfl) pe_int)
      (pss_cons (ps_for PassesOwn.never rfl (pi_revR (by rfl) (fr_reversed T) (prg_1 (by rfl) (fr_range T) (pe_callB call_len (by rfl) (fr_len T) boot_len (pa_cons (pv 2) pa_nil)))) (pg_name (i := 10) sc__law_read.nd rfl (Or.inl rfl))
        (pss_cons (ps_expr (pe_bm PySem.F.plainAttrs_list PySem.F.slot_list_append PySem.F.type_list_append mt_append (pv 8) (pa_cons (pe_cmp (pc_din (hu1 hr) (pe_tup (pa_cons (pe_ix ix_list (pv 5) (pv 10) (fun _ _ => rfl)) (pa_cons (pe_ix ix_seq (pv 2) (pv 10) (fun _ _ => rfl)) (pa_cons (pv 9) pa_nil)))) (pv 3))) pa_nil)))
        (pss_one (ps_set (i := 9) sc__law_read.nd rfl (Or.inl rfl) (pe_ix ix_list (pe_ix ix_list (pe_ix ix_tup (pv 1) pe_int (fun _ _ => rfl)) (pv 9) (fun _ _ => rfl)) (pe_m1 PySem.F.slot_str_index PySem.F.type_str_index mt_sindex (pv 0) (pe_ix ix_seq (pv 2) (pv 10) (fun _ _ => rfl))) (fun _ _ => rfl))))))
      (pss_one (ps_ret (pe_lstRev rfl (by rfl) (fr_list T) (by rfl) (fr_reversed T) (pe_callTy call_list_of (by rfl) (fr_list T) b_list (pa_cons (pv 8) pa_nil))))))))))))), ?_⟩
    obtain ⟨al, v, row, ls, rs, trs, rfl, rv, TL, TR, hnd, ht, hlen, hrow, hrl, q⟩ := h
    obtain ⟨tt, vl, vr, m, xs, rfl, htt, rl, rr, hm, hx⟩ : ∃ tt vl vr m xs, v = .ref tt ∧ H tt = some (.tup [vl, vr, .ref m]) ∧ Rp H vl (rowsD ls) ∧ Rp H vr (rowsD rs) ∧ H m = some (.lst xs) ∧ RpL H xs (trs.map encTri) := by
      unfold tabsD at rv
      cases rv with
      | tup e h =>
        cases h with
        | cons r0 h1 => cases h1 with
          | cons r1 h2 => cases h2 with
            | cons r2 h3 =>
              cases h3
              cases r2 with
              | lst e2 h => exact ⟨_, _, _, _, _, rfl, e, r0, r1, e2, h⟩
    have hxl : xs.length = trs.length := by have := hx.length; rwa [List.length_map] at this
    have hsz : row.cps.toList.length = row.cps.size := Array.length_toList
    have hsz2 : row.cps.size = row.length := rfl
    have hix : ∀ c ∈ row.cps.toList, ixF al c < al.length := fun c hc => (ixOk al).lt c (hrow c hc)
    intro D hD
    have f0 := same_upd (o := .dT []) hD
    -- the dict
    refine ⟨.ref tt, rfl, tt, _, _, .ref m, rfl, rfl, SqT.of (f0 _ _ htt), rfl, m, xs, rfl, .inl ⟨SqL.of (f0 _ _ hm), fun J W => ?_⟩⟩
    refine for_it W (fun i σ H2 => ∃ (v4 : Option V) (kvs : List (List L2.Key × V)), σ = [some (.str al), some (.ref tt), some (.str row), some (.ref D), v4, none, none, none, none, none, none] ∧ H2 D = some (.dT kvs) ∧ kvs.length ≤ i ∧ DictS kvs (trs.take i) ∧ Same H H2)
      ⟨none, [], rfl, upd_same, Nat.le_refl _, fun _ => rfl, f0⟩ (fun i σ H2 _ ⟨_, _, _, _, _, _, s⟩ => SqL.of (s _ _ hm)) ?_ ?_
    · rintro i x σ H2 H3 hi ⟨v4, kvs, rfl, hDk, hkl, hds, s2⟩ ⟨eH, hxi⟩
      replace eH := eH.symm
      subst eH
      have hit : i < trs.length := by rw [← hxl]; exact hi
      obtain ⟨d, hd, rd⟩ := hx.get hxi
      rw [List.getElem?_map, List.getElem?_eq_getElem hit] at hd
      have ed := (Option.some.inj hd).symm
      subst ed
      have htk : trs.take (i + 1) = trs.take i ++ [trs[i]] := by rw [List.take_succ, List.getElem?_eq_getElem hit]; rfl
      generalize trs[i] = t at rd htk
      unfold encTri at rd
      obtain ⟨b, rfl, hb⟩ : ∃ b, x = .ref b ∧ H b = some (.tup [.int (t.1 : Nat), .str ⟨#[t.2.1]⟩, .int (t.2.2 : Nat)]) := by
        cases rd with
        | tup e h =>
          cases h with
          | cons r0 h1 => cases h1 with
            | cons r1 h2 => cases h2 with
              | cons r2 h3 =>
                cases h3
                cases r0
                cases r1
                cases r2
                exact ⟨_, rfl, e⟩
      refine ⟨.ref D, rfl, .ref b, rfl, b, _, rfl, .inr ⟨SqT.of (s2 _ _ hb), D, _, rfl, DPut.t (k := key3 t) hDk (s2 _ _ hb) (Nat.lt_of_le_of_lt hkl (Nat.lt_of_lt_of_le (by omega : i < 100001) (by decide))), ?_⟩⟩
      refine ⟨_, _, rfl, upd_same, Nat.le_trans (putK_le _ _ _) (by omega), ?_, ?_⟩
      · rw [htk]
        exact dictS_put hds
      · intro c o e
        rw [upd_ne (fun z => by rw [z, hD] at e; cases e)]
        exact s2 c o e
    rintro σ H2 ⟨v4, kvs, rfl, hDk, _, hds, s2⟩
    rw [hxl, List.take_length] at hds
    -- ahead
    refine ⟨(by show 0 ≤ sizeLine; decide), fun A1 hA1 => ?_⟩
    have hA1D : A1 ≠ D := fun z => by rw [z, hDk] at hA1; cases hA1
    have s3 : Same H (upd H2 A1 (.lst [])) := s2.trans (same_upd hA1)
    have hA0 : H A1 = none := by
      cases e : H A1 with
      | none => rfl
      | some o => have := s2 _ _ e; rw [hA1] at this; cases this
    refine ⟨.str row, rfl, row, rfl, ?_⟩
    refine for_it walk_str (fun i σ H3 => ∃ (v7 : Option V), σ = [some (.str al), some (.ref tt), some (.str row), some (.ref D), v4, some (.ref A1), some (.int (runT ls (ixF al) 0 (row.cps.toList.take i) : Nat)), v7, none, none, none] ∧ H3 D = some (.dT kvs) ∧ H3 A1 = some (.lst ((aheadT ls (ixF al) 0 (row.cps.toList.take i)).map fun k => V.int (k : Nat))) ∧ runT ls (ixF al) 0 (row.cps.toList.take i) < ls.length ∧ Same H H3)
      ⟨none, rfl, by rw [upd_ne (Ne.symm hA1D)]; exact hDk, upd_same, TL.ne, s3⟩ (fun _ _ _ _ _ => trivial) ?_ ?_
    · rintro i x σ H3 H4 hi ⟨v7, rfl, hDk3, hacc, hlt, s4⟩ ⟨eH, c, hc, rfl⟩
      replace eH := eH.symm
      subst eH
      have hc' : row.cps.toList[i]? = some c := by rw [Array.getElem?_toList]; exact hc
      have hcr : c ∈ row.cps.toList := List.mem_of_getElem? hc'
      have htk : row.cps.toList.take (i + 1) = row.cps.toList.take i ++ [c] := by rw [List.take_succ, hc']; rfl
      have hal : (aheadT ls (ixF al) 0 (row.cps.toList.take i)).length ≤ 1000 := by rw [aheadT_length, List.length_take]; omega
      refine ⟨.ref A1, rfl, .inl ⟨rfl, _, SqL.of hacc⟩, .int _, rfl, A1, _, _, rfl, rfl, hacc, by rw [List.length_map]; exact Nat.lt_of_le_of_lt hal (by decide), ?_⟩
      have s5 : ∀ o, Same H (upd H3 A1 o) := fun o b u e => by
        rw [upd_ne (ne_of_none e hA0)]
        exact s4 b u e
      generalize hg5 : HO.lst ((aheadT ls (ixF al) 0 (row.cps.toList.take i)).map (fun k => V.int (k : Nat)) ++ [V.int ((runT ls (ixF al) 0 (row.cps.toList.take i) : Nat) : Int)]) = o5
      obtain ⟨a, ys, b, zs, rfl, ha, hb, hB, hy⟩ := rp_move rl TL hlt (hix c hcr)
      obtain ⟨rest, hocc⟩ := occ_head (hrow c hcr)
      refine ⟨.ref tt, rfl, tt, _, _, .ref a, rfl, rfl, SqT.of (s5 _ _ _ htt), rfl, .int _, rfl, a, ys, _, .ref b, rfl, rfl, SqL.of (s5 _ _ _ ha), atI_nat hb, .str al, rfl, ⟨al, rfl⟩, .str ⟨#[c]⟩, rfl, al, ⟨#[c]⟩, _, rest, rfl, rfl, hocc, b, zs, _, _, rfl, rfl, SqL.of (s5 _ _ _ hB), atI_nat hy, ?_⟩
      refine ⟨some (.str ⟨#[c]⟩), ?_, ?_, ?_, ?_, s5 _⟩
      · rw [htk, runT_snoc]
        rfl
      · rw [upd_ne (Ne.symm hA1D)]; exact hDk3
      · rw [upd_same, ← hg5, htk, aheadT_snoc, List.map_append]
        rfl
      · rw [htk, runT_snoc]
        exact stepT_lt TL hlt (hix c hcr)
    rintro σ H3 ⟨v7, rfl, hDk3, hacc, _, s4⟩
    rw [← hsz, List.take_length] at hacc
    -- told
    refine ⟨(by show 0 ≤ sizeLine; decide), fun B1 hB1 => ?_⟩
    have hB1D : B1 ≠ D := fun z => by rw [z, hDk3] at hB1; cases hB1
    have hB1A : B1 ≠ A1 := fun z => by rw [z, hacc] at hB1; cases hB1
    have hB0 : H B1 = none := by
      cases e : H B1 with
      | none => rfl
      | some o => have := s4 _ _ e; rw [hB1] at this; cases this
    generalize runT ls (ixF al) 0 (row.cps.toList.take row.cps.size) = pz
    have hlr : (aheadT ls (ixF al) 0 row.cps.toList).length = row.cps.toList.length := aheadT_length ..
    refine ⟨.str row, rfl, _, _, rfl, lenV_str (Nat.le_trans hrl (by decide)), _, rfl, by omega, by omega, by omega, by omega, ?_⟩
    have en : (((row.length : Nat) : Int) - 0).toNat = row.length := by omega
    rw [en]
    refine for_it walk_rangeC (fun i σ H5 => ∃ (v10 : Option V), σ = [some (.str al), some (.ref tt), some (.str row), some (.ref D), v4, some (.ref A1), some (.int (pz : Nat)), v7, some (.ref B1), some (.int (runT rs (ixF al) 0 (row.cps.toList.reverse.take i) : Nat)), v10] ∧
        H5 D = some (.dT kvs) ∧ H5 A1 = some (.lst ((aheadT ls (ixF al) 0 row.cps.toList).map fun k => V.int (k : Nat))) ∧ H5 B1 = some (.lst ((backM ⟨al, ixF al, ls, rs, trs⟩ row.cps.toList i).map V.bl)) ∧ runT rs (ixF al) 0 (row.cps.toList.reverse.take i) < rs.length ∧ Same H H5)
      ⟨none, rfl, by rw [upd_ne (Ne.symm hB1D)]; exact hDk3, by rw [upd_ne (Ne.symm hB1A)]; exact hacc, by rw [upd_same]; unfold backM; rw [List.take_zero]; rfl, TR.ne, s4.trans (same_upd hB1)⟩ (fun _ _ _ _ _ => trivial) ?_ ?_
    · rintro i x σ H5 H6 hi ⟨v10, rfl, hDk5, hA5, hB5, hlt, s5⟩ ⟨eH, ex0⟩
      replace eH := eH.symm
      subst eH
      obtain ⟨k, hk⟩ : ∃ k : Nat, k + i + 1 = row.length := ⟨row.length - 1 - i, by omega⟩
      replace ex0 : x = .int (k : Nat) := ex0.trans (congrArg V.int (by omega))
      subst ex0
      have hkr : k < row.cps.toList.length := by omega
      obtain ⟨c, hc⟩ : ∃ c, row.cps.toList[k]? = some c := ⟨_, List.getElem?_eq_getElem hkr⟩
      have hcr : c ∈ row.cps.toList := List.mem_of_getElem? hc
      have hrev : row.cps.toList.reverse[i]? = some c := by
        rw [List.getElem?_reverse (by omega), ← hc]
        congr 1
        omega
      have htk : row.cps.toList.reverse.take (i + 1) = row.cps.toList.reverse.take i ++ [c] := by rw [List.take_succ, hrev]; rfl
      have hpk := aheadT_get ls (ixF al) row.cps.toList 0 k hkr
      have hmk := marks_at (D := ⟨al, ixF al, ls, rs, trs⟩) hc
      have ei : row.cps.toList.length - 1 - k = i := by omega
      rw [ei] at hmk
      have hml : (marksP ⟨al, ixF al, ls, rs, trs⟩ row.cps.toList).length = row.cps.toList.length := marksP_length _ _
      have hmr : (marksP ⟨al, ixF al, ls, rs, trs⟩ row.cps.toList).reverse[i]? = some (decide ((runT ls (ixF al) 0 (row.cps.toList.take k), c, runT rs (ixF al) 0 (row.cps.toList.reverse.take i)) ∈ trs)) := by
        rw [List.getElem?_reverse (by omega), hml, show row.cps.toList.length - 1 - i = k by omega, hmk, markAt_mem hnd (hrow c hcr) ht]
      have hbk : backM ⟨al, ixF al, ls, rs, trs⟩ row.cps.toList (i + 1) = backM ⟨al, ixF al, ls, rs, trs⟩ row.cps.toList i ++ [decide ((runT ls (ixF al) 0 (row.cps.toList.take k), c, runT rs (ixF al) 0 (row.cps.toList.reverse.take i)) ∈ trs)] := by
        unfold backM
        rw [List.take_succ, hmr]
        rfl
      have hbl : (backM ⟨al, ixF al, ls, rs, trs⟩ row.cps.toList i).length ≤ 1000 := by
        unfold backM
        rw [List.length_take, List.length_reverse, hml]
        omega
      obtain ⟨rest, hocc⟩ := occ_head (hrow c hcr)
      have hz : row.length ≤ sizeLine := Nat.le_trans hrl (by decide)
      have hnx : runT rs (ixF al) 0 (row.cps.toList.reverse.take (i + 1)) = stepT rs (runT rs (ixF al) 0 (row.cps.toList.reverse.take i)) (ixF al c) := by rw [htk, runT_snoc]
      generalize runT rs (ixF al) 0 (row.cps.toList.reverse.take i) = qq at *
      generalize runT ls (ixF al) 0 (row.cps.toList.take k) = pp at *
      refine ⟨.ref B1, rfl, .inl ⟨rfl, _, SqL.of hB5⟩, .ref A1, rfl, .int (k : Nat), rfl, A1, _, _, .int (pp : Nat), rfl, rfl, SqL.of hA5, atI_nat (by rw [List.getElem?_map, hpk]; rfl), .str row, rfl, .int (k : Nat), rfl, .inr (.inr ⟨row, _, c, rfl, rfl, hz, atI_nat hc, .int (qq : Nat), rfl, (by show 3 ≤ sizeLine; decide), fun p hp => ?_⟩)⟩
      have hpD : p ≠ D := fun z => by rw [z, hDk5] at hp; cases hp
      have hpB : p ≠ B1 := fun z => by rw [z, hB5] at hp; cases hp
      have hpA : p ≠ A1 := fun z => by rw [z, hA5] at hp; cases hp
      refine ⟨.ref D, rfl, D, _, rfl, DGet.t (k := key3 (pp, c, qq)) (by rw [upd_ne (Ne.symm hpD)]; exact hDk5) upd_same, B1, _, _, rfl, rfl, by rw [upd_ne (Ne.symm hpB)]; exact hB5, by rw [List.length_map]; exact Nat.lt_of_le_of_lt hbl (by decide), ?_⟩
      rw [hds (pp, c, qq)]
      have s6 : ∀ o, Same H (upd (upd H5 p (.tup [.int (pp : Nat), .str ⟨#[c]⟩, .int (qq : Nat)])) B1 o) := fun o b u e => by
        rw [upd_ne (ne_of_none e hB0)]
        exact (s5.trans (same_upd hp)) b u e
      have eA6 : ∀ o, upd (upd H5 p (.tup [.int (pp : Nat), .str ⟨#[c]⟩, .int (qq : Nat)])) B1 o A1 = some (.lst ((aheadT ls (ixF al) 0 row.cps.toList).map fun k => V.int (k : Nat))) := fun o => by
        rw [upd_ne (Ne.symm hB1A), upd_ne (Ne.symm hpA)]; exact hA5
      have eD6 : ∀ o, upd (upd H5 p (.tup [.int (pp : Nat), .str ⟨#[c]⟩, .int (qq : Nat)])) B1 o D = some (.dT kvs) := fun o => by
        rw [upd_ne (Ne.symm hB1D), upd_ne (Ne.symm hpD)]; exact hDk5
      obtain ⟨a, ys, b, zs, rfl, ha, hb, hB, hy⟩ := rp_move rr TR hlt (hix c hcr)
      refine ⟨.ref tt, rfl, tt, _, _, .ref a, rfl, rfl, SqT.of (s6 _ _ _ htt), rfl, .int _, rfl, a, ys, _, .ref b, rfl, rfl, SqL.of (s6 _ _ _ ha), atI_nat hb, .str al, rfl, ⟨al, rfl⟩, .str row, rfl, .int (k : Nat), rfl, .inr (.inr ⟨row, _, c, rfl, rfl, hz, atI_nat hc, al, ⟨#[c]⟩, _, rest, rfl, rfl, hocc, b, zs, _, _, rfl, rfl, SqL.of (s6 _ _ _ hB), atI_nat hy, ?_⟩)⟩
      rw [hnx]
      refine ⟨_, rfl, eD6 _, eA6 _, ?_, stepT_lt TR hlt (hix c hcr), s6 _⟩
      rw [upd_same, hbk, List.map_append]
      rfl
    · rintro σ H5 ⟨v10, rfl, hDk5, hA5, hB5, hlt, s5⟩
      have hml : (marksP ⟨al, ixF al, ls, rs, trs⟩ row.cps.toList).length = row.cps.toList.length := marksP_length _ _
      have hb : backM ⟨al, ixF al, ls, rs, trs⟩ row.cps.toList row.length = (marksP ⟨al, ixF al, ls, rs, trs⟩ row.cps.toList).reverse := by
        unfold backM
        rw [List.take_of_length_le (by rw [List.length_reverse]; omega)]
      rw [hb] at hB5
      refine ⟨.ref B1, rfl, B1, _, rfl, .inl (SqL.of hB5), fun l hl => ⟨l, _, rfl, SqL.of upd_same, fun l2 hl2 => ?_⟩⟩
      refine q _ l2 (s5.trans ((same_upd hl).trans (same_upd hl2))) ?_
      rw [upd_same, ← List.map_reverse, List.reverse_reverse]
end
end Kx
set_option Elab.async false
set_option linter.all false
set_option maxRecDepth 100000
set_option maxHeartbeats 4000000
namespace Kx
open PySem PySem.Spec PyProof.Rows L2
theorem rpL_bls {H : Hp} : ∀ bs : List Bool, RpL H (bs.map V.bl) (bs.map PyData.bool)
  | [] => .nil
  | b :: bs => .cons (.bl b) (rpL_bls bs)
theorem lay_bls : ∀ bs : List Bool, PyData.canLayAll0 (bs.map PyData.bool) = true
  | [] => by simp [PyData.canLayAll0]
  | b :: bs => by simp only [List.map_cons, PyData.canLayAll0, Bool.and_eq_true]; exact ⟨by simp [PyData.canLay0], lay_bls bs⟩
theorem lay_blsL (bs : List Bool) : (PyData.list (bs.map PyData.bool)).canLay0 = true := by simpa [PyData.canLay0] using lay_bls bs
theorem shaped_bls (bs : List Bool) : SeqAt.shaped (.list (bs.map PyData.bool)) = true := by
  have hd : (PyData.list (bs.map PyData.bool)).depth ≤ 60 := by
    simp only [PyData.depth]
    have := depthAll_map (l := bs) (f := PyData.bool) (n := 0) fun a _ => by simp [PyData.depth]
    omega
  unfold SeqAt.shaped
  rw [lay_blsL bs, decide_eq_true (Nat.le_trans hd (by decide))]
  rfl
theorem nd_blsL (bs : List Bool) : (PyData.list (bs.map PyData.bool)).hasDict = false := PyData.hasDict_of_canLay _ (lay_blsL bs)
section
variable {P : Program} {w : World} {K : PySem.W.Frag} {mg : Str → Option Value} {base : Heap}
def sp_law_tells (K : PySem.W.Frag) : Sp := fun vs H Q _ => ∃ (x due a : Addr) (D : PairD) (row : Str), vs = [.ref x, .str row, .ref due, .ref a] ∧ PairAt K (del H a) x D ∧ PairOk D ∧ del H a due = some (.lst ((marksP D row.cps.toList).map V.bl)) ∧ (∀ c ∈ row.cps.toList, c ∈ D.al.cps.toList) ∧ row.length ≤ 200 ∧ SrcAt H a ∧
  ∀ H', Fra a H H' → Q (.bl true) H'
theorem ok_law_tells (T : Txt K mg) : Cal P w K mg base CX0 5 "_law_tells" ["_law_pair", "_law_row", "_law_due_here", "_law_source_here"] (sp_law_tells K) := by
  obtain ⟨fd, F⟩ := F__law_tells T
  obtain ⟨fdC, FC⟩ := F_Pair___call__ T
  obtain ⟨fdN, FN⟩ := F_Pair___contains__ T
  have bC : Binds K fdC ["self", "row"] [] := FC.bindsN fun _ _ _ _ _ _ us hl => match us, hl with | [_, _], _ => rfl
  have bN : Binds K fdN ["self", "placed"] [] := FN.bindsN fun _ _ _ _ _ _ us hl => match us, hl with | [_, _], _ => rfl
  refine cal_mk F (g__law_tells T) sc__law_tells (fun _ _ _ _ _ _ us hl => match us, hl with | [_, _, _, _], _ => rfl) (fun vs H Q E h => ?_) (fun cdv A outer s H vs Q E hr h => ?_)
  · obtain ⟨x, due, a, D, row, rfl, _⟩ := h; rfl
  · refine ⟨_, PSs.nox (pss_cons (ps_set (i := 4) sc__law_tells.nd rfl (Or.inl rfl) (pe_callOS (E := fun _ => E0) (pv 0) (callO_pair T) (ok_Pair_call T FC) hr bC passAt0 (pa_cons (pv 1) pa_nil)))
      (pss_cons (ps_if (PW.pt (pw_or (pt_not (pt_val (pe_cal (ok_law_bools T) (hr.mono (by decide)) pass0 (pa_cons (pv 4) (pa_cons (pe_callB call_len (by rfl) (fr_len T) boot_len (pa_cons (pv 1) pa_nil)) pa_nil)))))
          (pw_or1 (pt_cmpR (op_neD (hu64 hr)) (pe_callTy call_list_of (by rfl) (fr_list T) b_list (pa_cons (pv 4) pa_nil)) (pv 2) (nomark _))))) (pss_one (ps_ret pe_bl)) pss_nil)
      (pss_cons (ps_setLc (i := 6) (own := [("_law_place", 5)]) (g := gName 5) (tt := tYes) (te := tVar 5) rfl sc__law_tells.nd rfl rfl (sw_true rfl rfl rfl (by decide +kernel)) (pi_range1 (by rfl) (fr_range T) (pa_cons (pe_callB call_len (by rfl) (fr_len T) boot_len (pa_cons (pv 1) pa_nil)) pa_nil)) (blkOk_by (N := N__law_tells) (sc := defScope s__law_tells) (by decide +kernel))
        (fun _ _ _ _ _ => pg_name (i := 5) sc__law_tells.nd rfl (Or.inl rfl)) (fun _ _ _ _ _ => pts_nil) (fun _ _ _ _ _ => pv 5))
      (pss_cons (ps_if (pt_cmpR op_gt (pe_callB call_len (by rfl) (fr_len T) boot_len (pa_cons (pv 1) pa_nil)) pe_int (nomark _))
          (pss_one (ps_set (i := 6) sc__law_tells.nd rfl (Or.inl rfl) (pe_lst (pa_cons pe_int (pa_cons (pe_op op_sub (pe_callB call_len (by rfl) (fr_len T) boot_len (pa_cons (pv 1) pa_nil)) pe_int) (pa_cons (pe_cal (ok_law_pick T) (hr.mono (by decide)) pass0 (pa_cons (pv 3) (pa_cons (pe_callB call_len (by rfl) (fr_len T) boot_len (pa_cons (pv 1) pa_nil)) pa_nil))) pa_nil)))))) pss_nil)
      (pss_cons (ps_for PassesOwn.never rfl (pi_list (pv 6)) (pg_name (i := 5) sc__law_tells.nd rfl (Or.inl rfl))
          (pss_one (ps_if (PW.pt (pw_or (pt_cmpR op_ne (pe_inOS (C := He.ga K "Pair") (E := fun _ => E0) (ok_Pair_contains T FN) hr (meth___contains__ T).at_ (meth___contains__ T).fn bN passAt0 (pe_tup (pa_cons (pv 1) (pa_cons (pv 5) pa_nil))) (pv 0) rfl) (pe_ix ix_list (pv 2) (pv 5) (fun _ _ => rfl)) (nomark _))
            (pw_or1 (pt_cmpR op_ne (pe_inOS (C := He.ga K "Pair") (E := fun _ => E0) (ok_Pair_contains T FN) hr (meth___contains__ T).at_ (meth___contains__ T).fn bN passAt0 (pe_lst (pa_cons (pv 1) (pa_cons (pv 5) pa_nil))) (pv 0) rfl) (pe_ix ix_list (pv 2) (pv 5) (fun _ _ => rfl)) (nomark _))))) (pss_one (ps_ret pe_bl)) pss_nil)))
      (pss_one (ps_ret pe_bl))))))), ?_⟩
    obtain ⟨x, due, a, D, row, rfl, PA, PO, hd, hrow, hrl, hs, q⟩ := h
    have hsz : row.cps.toList.length = row.length := Array.length_toList
    have hml : (marksP D row.cps.toList).length = row.length := (marksP_length D _).trans hsz
    have PA0 := PA.same (del_le a)
    have hd0 : H due = some (.lst ((marksP D row.cps.toList).map V.bl)) := del_le a _ _ hd
    obtain ⟨dx, vl, vr, vm, vk, h1, _⟩ := id PA0
    refine ⟨.ref x, rfl, x, dx, _, rfl, .str row, rfl, h1, call_right PA0 PO hrl hrow fun H1 r s1 r1 => ?_⟩
    refine ⟨r, rfl, .str row, rfl, _, _, rfl, lenV_str (Nat.le_trans hrl (by decide)), r, row.length, _, rfl, r1, by rw [hml]; omega, fun H2 s2 => ?_⟩
    rw [decide_eq_true hml]
    refine ⟨_, rfl, iteF ?_⟩
    have r2 := r1.tups (Same.tups s2)
    have hd2 : H2 due = some (.lst ((marksP D row.cps.toList).map V.bl)) := s2 _ _ (s1 _ _ hd0)
    obtain ⟨b, ys, rfl, hb, hys⟩ : ∃ b ys, r = .ref b ∧ H2 b = some (.tup ys) ∧ RtL H2 ys ((marksP D row.cps.toList).map PyData.bool) := by
      unfold encB at r2
      cases r2 with
      | tup e h => exact ⟨_, _, rfl, e, h⟩
    refine ⟨.ref b, rfl, b, ys, rfl, .inr (SqT.of hb), fun l hl => ?_⟩
    have sl := same_upd (o := .lst ys) hl
    have rL : Rp (upd H2 l (.lst ys)) (.ref l) (.list ((marksP D row.cps.toList).map PyData.bool)) := .lst upd_same (RpL.same sl (RtL.rp hys))
    have rD : Rp (upd H2 l (.lst ys)) (.ref due) (.list ((marksP D row.cps.toList).map PyData.bool)) := .lst (sl _ _ hd2) (rpL_bls _)
    refine ⟨.ref due, rfl, _, _, rL.dp (nd_blsL _), rD.dp (nd_blsL _), shaped_bls _, shaped_bls _, _, rfl, ?_⟩
    rw [PySem.SeqAt.eqv_refl _ (lay_blsL _)]
    refine iteF ?_
    have s3 : Same H (upd H2 l (.lst ys)) := s1.trans (s2.trans sl)
    generalize upd H2 l (.lst ys) = H3 at s3
    -- the places
    refine ⟨.str row, rfl, _, _, rfl, lenV_str (Nat.le_trans hrl (by decide)), (row.length : Nat), rfl, by omega, by omega, fun M hM => ?_⟩
    have en : (((row.length : Nat) : Int)).toNat = row.length := by omega
    rw [en]
    refine lc_new (walk_range (n := row.length)) hM (Nat.le_trans hrl (by decide)) (fun (i : Nat) _ v => v = V.int (i : Nat)) (fun _ _ _ _ _ h => h) (fun _ _ => trivial) (fun i y H4 H5 Qk hi s4 hy hk => ?_) (fun H4 acc s4 hM4 hla hv => ?_)
    · obtain ⟨eH, ex0⟩ := hy
      replace eH := eH.symm
      subst eH
      exact ⟨rfl, y, rfl, hk _ _ (Same.refl _) (ex0.trans (congrArg V.int (Int.zero_add _)))⟩
    have ea : acc = (List.range row.length).map fun k => V.int (k : Nat) := by
      apply List.ext_getElem?
      intro j
      by_cases hj : j < row.length
      · have h9 : j < acc.length := by omega
        rw [List.getElem?_eq_getElem h9, hv j _ (List.getElem?_eq_getElem h9), List.getElem?_map, List.getElem?_range hj]
        rfl
      · rw [List.getElem?_eq_none (by omega), List.getElem?_eq_none (by rw [List.length_map, List.length_range]; omega)]
    subst ea
    have s5 := s3.trans s4
    have hnp : Fra a H H4 := Fra.same hs s5
    have hcon : ∀ (H6 : Hp) (k : Nat) (vp : V) (dp : PyData) (Qk : VK), Fra a H H6 → k < row.length → Rp H6 vp dp → itemsD dp = some [.str row, .int (k : Nat)] → (∀ H', Same H6 H' → Qk (.bl ((marksP D row.cps.toList).getD k false)) H') → sp_Pair_contains K [.ref x, vp] H6 Qk E0 :=
      fun H6 k vp dp Qk f hk rp hi hq => in_right (PA.same f.up) PO rp hi hrl hrow hk hq
    refine ⟨.str row, rfl, _, _, rfl, lenV_str (Nat.le_trans hrl (by decide)), _, _, rfl, rfl, _, rfl, ?_⟩
    cases hb8 : decide ((8 : Int) < (row.length : Nat)) with
    | false =>
      refine iteF ?_
      obtain ⟨H6, P6, ps, eH, eP, f6, hP6, hps⟩ : ∃ (H6 : Hp) (P6 : Addr) (ps : List Nat), H6 = H4 ∧ P6 = M ∧ Fra a H H6 ∧ H6 P6 = some (.lst (ps.map fun k => V.int (k : Nat))) ∧ ∀ k ∈ ps, k < row.length :=
        ⟨H4, M, List.range row.length, rfl, rfl, hnp, hM4, fun k hk => List.mem_range.mp hk⟩
      subst eH eP
      have hl6 : ps.length = (ps.map fun k => V.int (k : Nat)).length := (List.length_map ..).symm
      refine ⟨.ref _, rfl, _, rfl, ⟨_, SqL.of hP6⟩, ?_⟩
      refine for_it walk_list (fun i σ H2 => ∃ (v5 : Option V), σ = [some (.ref x), some (.str row), some (.ref due), some (.ref a), some (.ref b), v5, some (.ref _)] ∧ Fra a H H2 ∧ Same H6 H2)
        ⟨_, rfl, f6, Same.refl _⟩ (fun i σ H2 _ ⟨_, _, _, s⟩ => SqL.of (s _ _ hP6)) ?_ ?_
      · rintro i y σ H8 H9 hi ⟨v5, rfl, f8, s8⟩ ⟨eH, hy⟩
        replace eH := eH.symm
        subst eH
        rw [List.getElem?_map] at hy
        obtain ⟨k, hk, rfl⟩ : ∃ k, ps[i]? = some k ∧ y = .int (k : Nat) := by
          cases e : ps[i]? with
          | none => rw [e] at hy; cases hy
          | some k => rw [e] at hy; exact ⟨k, rfl, (Option.some.inj hy).symm⟩
        have hkn := hps k (List.mem_of_getElem? hk)
        have hkm : k < (marksP D row.cps.toList).length := by omega
        have hg : (marksP D row.cps.toList).getD k false = (marksP D row.cps.toList)[k] := by simp [List.getD_eq_getElem?_getD, hkm]
        have hat : ∀ H10, Fra a H H10 → SqL K H10 due ((marksP D row.cps.toList).map V.bl) := fun H10 f => SqL.of (f.up _ _ hd)
        have hit : ((marksP D row.cps.toList).map V.bl)[k]? = some (V.bl (marksP D row.cps.toList)[k]) := by rw [List.getElem?_map, List.getElem?_eq_getElem hkm]; rfl
        have PA8 : ∀ H10, Fra a H H10 → ∃ dx vl vr vm vk, H10 x = some (.ins (He.ga K "Pair") dx (fldsP D.al vl vr vm vk)) := fun H10 f => by
          obtain ⟨dx, vl, vr, vm, vk, h, _⟩ := PA.same f.up
          exact ⟨dx, vl, vr, vm, vk, h⟩
        refine ⟨.str row, rfl, .int (k : Nat), rfl, (by show 2 ≤ sizeLine; decide), fun t ht => ⟨.ref x, rfl, ?_⟩⟩
        have f9 : Fra a H (upd H8 t (.tup [.str row, .int (k : Nat)])) := f8.trans (Fra.same f8.src (same_upd ht))
        have s9 : Same H6 (upd H8 t (.tup [.str row, .int (k : Nat)])) := s8.trans (same_upd ht)
        obtain ⟨dx, vl, vr, vm, vk, h9⟩ := PA8 _ f9
        refine ⟨x, dx, _, rfl, h9, hcon _ k _ (.tuple [.str row, .int (k : Nat)]) _ f9 hkn (.tup upd_same (.cons (.str _) (.cons (.int _) .nil))) rfl fun H11 s11 => ⟨_, rfl, ?_⟩⟩
        have f11 := f9.trans (Fra.same f9.src s11)
        refine ⟨.ref due, rfl, .int (k : Nat), rfl, due, _, _, _, rfl, rfl, hat _ f11, atI_nat hit, rfl, _, rfl, ?_⟩
        rw [hg]
        have ez : (!decide (V.bl (marksP D row.cps.toList)[k] = V.bl (marksP D row.cps.toList)[k])) = false := by simp
        rw [ez]
        refine iteF ⟨.str row, rfl, .int (k : Nat), rfl, (by show 2 ≤ sizeLine; decide), fun t2 ht2 => ⟨.ref x, rfl, ?_⟩⟩
        have f12 := f11.trans (Fra.same f11.src (same_upd (o := .lst [.str row, .int (k : Nat)]) ht2))
        have s12 := (s9.trans s11).trans (same_upd (o := .lst [.str row, .int (k : Nat)]) ht2)
        obtain ⟨dx2, vl2, vr2, vm2, vk2, h12⟩ := PA8 _ f12
        refine ⟨x, dx2, _, rfl, h12, hcon _ k _ (.list [.str row, .int (k : Nat)]) _ f12 hkn (.lst upd_same (.cons (.str _) (.cons (.int _) .nil))) rfl fun H13 s13 => ⟨_, rfl, ?_⟩⟩
        have f13 := f12.trans (Fra.same f12.src s13)
        refine ⟨.ref due, rfl, .int (k : Nat), rfl, due, _, _, _, rfl, rfl, hat _ f13, atI_nat hit, rfl, _, rfl, ?_⟩
        rw [hg, ez]
        exact iteF ⟨_, rfl, f13, s12.trans s13⟩
      · rintro σ H8 ⟨v5, rfl, f8, s8⟩
        exact q H8 f8
    | true =>
      refine iteT ?_
      have h8 : (8 : Int) < (row.length : Nat) := of_decide_eq_true hb8
      refine ⟨.str row, rfl, _, _, rfl, lenV_str (Nat.le_trans hrl (by decide)), _, 1, rfl, rfl, .ref a, rfl, .str row, rfl, _, _, rfl, lenV_str (Nat.le_trans hrl (by decide)), a, _, rfl, by omega, by omega, hnp.src, fun A2 S2 C2 d hd0 hd1 => ?_⟩
      obtain ⟨m, rfl⟩ := Int.eq_ofNat_of_zero_le hd0
      have f7 : Fra a H (upd H4 a (three A2 S2 C2)) := hnp.trans (Fra.drawn A2 S2 C2)
      generalize upd H4 a (three A2 S2 C2) = H7 at f7
      refine ⟨by show 3 ≤ sizeLine; decide, fun p hp => ?_⟩
      obtain ⟨H6, P6, ps, eH, eP, f6, hP6, hps⟩ : ∃ (H6 : Hp) (P6 : Addr) (ps : List Nat), upd H7 p (.lst [.int 0, .int ((row.length : Nat) - 1), .int (m : Nat)]) = H6 ∧ P6 = p ∧ Fra a H H6 ∧ H6 P6 = some (.lst (ps.map fun k => V.int (k : Nat))) ∧ ∀ k ∈ ps, k < row.length := by
        refine ⟨_, p, [0, row.length - 1, m], rfl, rfl, f7.trans (Fra.same f7.src (same_upd hp)), ?_, fun k hk => ?_⟩
        · rw [upd_same]
          have e1 : (((row.length - 1 : Nat)) : Int) = (row.length : Nat) - 1 := by omega
          simp only [List.map_cons, List.map_nil, e1]
          rfl
        · simp only [List.mem_cons, List.not_mem_nil, or_false] at hk
          omega
      rw [eH]
      subst eP
      have hl6 : ps.length = (ps.map fun k => V.int (k : Nat)).length := (List.length_map ..).symm
      refine ⟨.ref _, rfl, _, rfl, ⟨_, SqL.of hP6⟩, ?_⟩
      refine for_it walk_list (fun i σ H2 => ∃ (v5 : Option V), σ = [some (.ref x), some (.str row), some (.ref due), some (.ref a), some (.ref b), v5, some (.ref _)] ∧ Fra a H H2 ∧ Same H6 H2)
        ⟨_, rfl, f6, Same.refl _⟩ (fun i σ H2 _ ⟨_, _, _, s⟩ => SqL.of (s _ _ hP6)) ?_ ?_
      · rintro i y σ H8 H9 hi ⟨v5, rfl, f8, s8⟩ ⟨eH, hy⟩
        replace eH := eH.symm
        subst eH
        rw [List.getElem?_map] at hy
        obtain ⟨k, hk, rfl⟩ : ∃ k, ps[i]? = some k ∧ y = .int (k : Nat) := by
          cases e : ps[i]? with
          | none => rw [e] at hy; cases hy
          | some k => rw [e] at hy; exact ⟨k, rfl, (Option.some.inj hy).symm⟩
        have hkn := hps k (List.mem_of_getElem? hk)
        have hkm : k < (marksP D row.cps.toList).length := by omega
        have hg : (marksP D row.cps.toList).getD k false = (marksP D row.cps.toList)[k] := by simp [List.getD_eq_getElem?_getD, hkm]
        have hat : ∀ H10, Fra a H H10 → SqL K H10 due ((marksP D row.cps.toList).map V.bl) := fun H10 f => SqL.of (f.up _ _ hd)
        have hit : ((marksP D row.cps.toList).map V.bl)[k]? = some (V.bl (marksP D row.cps.toList)[k]) := by rw [List.getElem?_map, List.getElem?_eq_getElem hkm]; rfl
        have PA8 : ∀ H10, Fra a H H10 → ∃ dx vl vr vm vk, H10 x = some (.ins (He.ga K "Pair") dx (fldsP D.al vl vr vm vk)) := fun H10 f => by
          obtain ⟨dx, vl, vr, vm, vk, h, _⟩ := PA.same f.up
          exact ⟨dx, vl, vr, vm, vk, h⟩
        refine ⟨.str row, rfl, .int (k : Nat), rfl, (by show 2 ≤ sizeLine; decide), fun t ht => ⟨.ref x, rfl, ?_⟩⟩
        have f9 : Fra a H (upd H8 t (.tup [.str row, .int (k : Nat)])) := f8.trans (Fra.same f8.src (same_upd ht))
        have s9 : Same H6 (upd H8 t (.tup [.str row, .int (k : Nat)])) := s8.trans (same_upd ht)
        obtain ⟨dx, vl, vr, vm, vk, h9⟩ := PA8 _ f9
        refine ⟨x, dx, _, rfl, h9, hcon _ k _ (.tuple [.str row, .int (k : Nat)]) _ f9 hkn (.tup upd_same (.cons (.str _) (.cons (.int _) .nil))) rfl fun H11 s11 => ⟨_, rfl, ?_⟩⟩
        have f11 := f9.trans (Fra.same f9.src s11)
        refine ⟨.ref due, rfl, .int (k : Nat), rfl, due, _, _, _, rfl, rfl, hat _ f11, atI_nat hit, rfl, _, rfl, ?_⟩
        rw [hg]
        have ez : (!decide (V.bl (marksP D row.cps.toList)[k] = V.bl (marksP D row.cps.toList)[k])) = false := by simp
        rw [ez]
        refine iteF ⟨.str row, rfl, .int (k : Nat), rfl, (by show 2 ≤ sizeLine; decide), fun t2 ht2 => ⟨.ref x, rfl, ?_⟩⟩
        have f12 := f11.trans (Fra.same f11.src (same_upd (o := .lst [.str row, .int (k : Nat)]) ht2))
        have s12 := (s9.trans s11).trans (same_upd (o := .lst [.str row, .int (k : Nat)]) ht2)
        obtain ⟨dx2, vl2, vr2, vm2, vk2, h12⟩ := PA8 _ f12
        refine ⟨x, dx2, _, rfl, h12, hcon _ k _ (.list [.str row, .int (k : Nat)]) _ f12 hkn (.lst upd_same (.cons (.str _) (.cons (.int _) .nil))) rfl fun H13 s13 => ⟨_, rfl, ?_⟩⟩
        have f13 := f12.trans (Fra.same f12.src s13)
        refine ⟨.ref due, rfl, .int (k : Nat), rfl, due, _, _, _, rfl, rfl, hat _ f13, atI_nat hit, rfl, _, rfl, ?_⟩
        rw [hg, ez]
        exact iteF ⟨_, rfl, f13, s12.trans s13⟩
      · rintro σ H8 ⟨v5, rfl, f8, s8⟩
        exact q H8 f8
end
end Kx
set_option Elab.async false
set_option linter.all false
set_option maxRecDepth 100000
set_option maxHeartbeats 4000000
namespace Kx
open PySem PySem.Spec PyProof.Rows L2
/-! ### one sign, n times -/
theorem mulOk1 {c : Nat} {n : Int} (h0 : 0 ≤ n) (h : n ≤ 1000) : MulOk ⟨#[c]⟩ n := by
  have hl : (⟨#[c]⟩ : Str).length = 1 := rfl
  refine ⟨?_, fun h1 _ => ?_, fun h1 _ => ?_⟩
  · rw [Bool.or_eq_false_iff]
    exact ⟨decide_eq_false (by omega), decide_eq_false (by omega)⟩
  · rw [hl]
    have h1 : 1 ≤ n := by omega
    intro hc
    have h2 : ((1 : Nat) : Int) ≤ (2 ^ 63 - 1) / n := by
      rw [Int.le_ediv_iff_mul_le (by omega)]
      omega
    omega
  · rw [hl]
    refine decide_eq_false ?_
    have h9 : (1000 : Nat) ≤ sizeLine := by decide
    omega
theorem op_rep1 {X : Cx} : OpR X (binaryOp .Mult) (fun x y H Q => ∃ (c : Nat) (n : Int), x = .str ⟨#[c]⟩ ∧ y = .int n ∧ 0 ≤ n ∧ n ≤ 1000 ∧ ∀ z : Str, z.cps.toList = List.replicate n.toNat c → Q (.str z) H) := by
  intro pins s σ H x y v u Q I rx ry h
  obtain ⟨c, n, rfl, rfl, h0, h1, q⟩ := h
  obtain ⟨t, rfl⟩ := rx
  obtain ⟨t2, rfl⟩ := ry
  exact PySem.SB.mul (mulOk1 h0 h1) fun t' k => ⟨.str _, H, I.tok _, ⟨_, rfl⟩, q _ (PyProof.Rows.mul_one_list c n)⟩
/-! ### copies of rows of flat things -/
/-- flat things and their data, in any heap -/
def FlatL (vs : List V) (ds : List PyData) : Prop := ∀ H : Hp, RpL H vs ds
/-- a sequence at v of sequences of these things -/
def SrcsAt (H : Hp) (v : V) (vss : List (List V)) : Prop := ∃ p xs, v = .ref p ∧ H p = some (.lst xs) ∧ xs.length = vss.length ∧
  ∀ (i : Nat) (vs : List V), vss[i]? = some vs → ∃ c, xs[i]? = some (.ref c) ∧ (H c = some (.lst vs) ∨ H c = some (.tup vs))
theorem SrcsAt.same {H H' : Hp} {v : V} {vss : List (List V)} (s : Same H H') (h : SrcsAt H v vss) : SrcsAt H' v vss := by
  obtain ⟨p, xs, e, h1, h2, h3⟩ := h
  exact ⟨p, xs, e, s _ _ h1, h2, fun i vs hi => by obtain ⟨c, hc, h⟩ := h3 i vs hi; exact ⟨c, hc, sq_same s h⟩⟩
abbrev intsV (r : List Nat) : List V := r.map fun k => V.int (k : Nat)
abbrev triV (t : Tri) : List V := [.int (t.1 : Nat), .str ⟨#[t.2.1]⟩, .int (t.2.2 : Nat)]
theorem intsV_of {H : Hp} : ∀ {r : List Nat} {ys : List V}, RpL H ys (r.map fun k => PyData.int (k : Nat)) → ys = intsV r
  | [], _, .nil => rfl
  | k :: r, _, .cons h1 h2 => by
    cases h1
    rw [intsV_of h2]
    rfl
theorem srcs_rows {H : Hp} {v : V} {rows : List (List Nat)} (h : Rp H v (rowsD rows)) : SrcsAt H v (rows.map intsV) := by
  unfold rowsD at h
  cases h with
  | @lst p xs _ hp hx =>
    have hl := hx.length
    rw [List.length_map] at hl
    refine ⟨p, xs, rfl, hp, by rw [List.length_map]; exact hl, fun i vs hi => ?_⟩
    rw [List.getElem?_map] at hi
    cases hr : rows[i]? with
    | none => rw [hr] at hi; cases hi
    | some r =>
      rw [hr] at hi
      cases hi
      have hix : i < xs.length := by have := (List.getElem?_eq_some_iff.mp hr).1; omega
      obtain ⟨d, hd, rd⟩ := hx.get (i := i) (List.getElem?_eq_getElem hix)
      rw [List.getElem?_map, hr] at hd
      cases hd
      unfold rowD at rd
      rw [List.getElem?_eq_getElem hix]
      generalize xs[i] = y at rd
      cases rd with
      | @lst c ys _ hc hy =>
        refine ⟨c, rfl, .inl ?_⟩
        rw [hc]
        rw [intsV_of hy]
theorem srcs_tris {H : Hp} {v : V} {trs : List Tri} (h : Rp H v (.list (trs.map encTri))) : SrcsAt H v (trs.map triV) := by
  cases h with
  | @lst p xs _ hp hx =>
    have hl := hx.length
    rw [List.length_map] at hl
    refine ⟨p, xs, rfl, hp, by rw [List.length_map]; exact hl, fun i vs hi => ?_⟩
    rw [List.getElem?_map] at hi
    cases hr : trs[i]? with
    | none => rw [hr] at hi; cases hi
    | some t =>
      rw [hr] at hi
      cases hi
      have hix : i < xs.length := by have := (List.getElem?_eq_some_iff.mp hr).1; omega
      obtain ⟨d, hd, rd⟩ := hx.get (i := i) (List.getElem?_eq_getElem hix)
      rw [List.getElem?_map, hr] at hd
      cases hd
      unfold encTri at rd
      rw [List.getElem?_eq_getElem hix]
      generalize xs[i] = y at rd
      cases rd with
      | tup e h =>
        cases h with
        | cons r0 h1 => cases h1 with
          | cons r1 h2 => cases h2 with
            | cons r2 h3 =>
              cases h3
              cases r0
              cases r1
              cases r2
              exact ⟨_, rfl, .inr e⟩
/-- the first i copies lie in the new list D -/
def CopyP (H1 : Hp) (D : Addr) (vss : List (List V)) (i : Nat) (H2 : Hp) : Prop := ∃ bs : List Addr, H2 D = some (.lst (bs.map V.ref)) ∧ bs.length = i ∧ bs.Nodup ∧ D ∉ bs ∧ (∀ (j : Nat) (b : Addr) (vs : List V), bs[j]? = some b → vss[j]? = some vs → H2 b = some (.lst vs)) ∧ (∀ b ∈ bs, H1 b = none) ∧ Same H1 H2
theorem copyP_init {H1 : Hp} {D : Addr} {vss : List (List V)} (hD : H1 D = none) : CopyP H1 D vss 0 (upd H1 D (.lst [])) :=
  ⟨[], upd_same, rfl, .nil, by simp, fun j b vs h => by simp at h, fun b h => by simp at h, same_upd hD⟩
theorem copyP_same {H1 H2 H3 : Hp} {D : Addr} {vss : List (List V)} {i : Nat} (s : Same H2 H3) (h : CopyP H1 D vss i H2) : CopyP H1 D vss i H3 := by
  obtain ⟨bs, h1, h2, h3, h4, h5, h6, h7⟩ := h
  exact ⟨bs, s _ _ h1, h2, h3, h4, fun j b vs hj hv => s _ _ (h5 j b vs hj hv), h6, h7.trans s⟩
theorem copyP_step {H1 H2 : Hp} {D l : Addr} {vss : List (List V)} {vs : List V} {i : Nat} (h : CopyP H1 D vss i H2) (hD : H1 D = none) (hv : vss[i]? = some vs) (hl : H2 l = none) (hi : i < sizeLine) :
    ∃ acc, upd H2 l (.lst vs) D = some (.lst acc) ∧ acc.length < sizeLine ∧ CopyP H1 D vss (i + 1) (upd (upd H2 l (.lst vs)) D (.lst (acc ++ [V.ref l]))) := by
  obtain ⟨bs, h1, h2, h3, h4, h5, h6, h7⟩ := h
  have hlD : l ≠ D := fun z => by rw [z, h1] at hl; cases hl
  have hlb : l ∉ bs := fun hb => by
    obtain ⟨j, hj⟩ := List.mem_iff_getElem?.mp hb
    have hjl := (List.getElem?_eq_some_iff.mp hj).1
    have hil := (List.getElem?_eq_some_iff.mp hv).1
    have := h5 j l vss[j] hj (List.getElem?_eq_getElem (by omega))
    rw [hl] at this
    cases this
  have hl0 : H1 l = none := by
    cases e : H1 l with
    | none => rfl
    | some o => have := h7 _ _ e; rw [hl] at this; cases this
  refine ⟨bs.map V.ref, by rw [upd_ne (Ne.symm hlD)]; exact h1, by rw [List.length_map, h2]; exact hi, bs ++ [l], by rw [upd_same, List.map_append]; rfl, by rw [List.length_append, h2]; rfl, ?_, ?_, fun j b us hj hu => ?_, fun b hb => ?_, fun c o e => ?_⟩
  · rw [List.nodup_append]
    exact ⟨h3, by simp, fun x hx y hy => by rw [List.mem_singleton.mp hy]; exact fun z => hlb (z ▸ hx)⟩
  · intro hm
    rcases List.mem_append.mp hm with hm | hm
    · exact h4 hm
    · exact hlD (List.mem_singleton.mp hm).symm
  · by_cases hjl : j < bs.length
    · rw [List.getElem?_append_left hjl] at hj
      have hb := List.mem_of_getElem? hj
      rw [upd_ne (fun z => h4 (by rw [← z]; exact hb)), upd_ne (fun z => hlb (by rw [← z]; exact hb))]
      exact h5 j b us hj hu
    · rw [List.getElem?_append_right (by omega)] at hj
      have hj0 : j = i := by
        cases hq : j - bs.length with
        | zero => omega
        | succ k => rw [hq] at hj; simp at hj
      subst hj0
      rw [h2, Nat.sub_self] at hj
      have : b = l := by simpa using hj.symm
      subst this
      rw [hv] at hu
      cases hu
      rw [upd_ne hlD, upd_same]
  · rcases List.mem_append.mp hb with hb | hb
    · exact h6 b hb
    · rw [List.mem_singleton.mp hb]; exact hl0
  · have h8 := h7 c o e
    rw [upd_ne (ne_of_none e hD), upd_ne (fun z => by rw [z, hl0] at e; cases e)]
    exact h8
end Kx
set_option Elab.async false
set_option linter.all false
set_option maxRecDepth 100000
set_option maxHeartbeats 4000000
namespace Kx
open PySem PySem.Spec PyProof.Rows L2
/-! ### rows of scalars, and a list of them beside the source -/
def sc : V → Prop
  | .non => True
  | .bl _ => True
  | .int _ => True
  | .str z => z.length ≤ 100000
  | _ => False
theorem sc_rp {G : Hp} {v : V} (h : sc v) : ∃ d, Rp G v d ∧ itemsD d = none ∧ smallT d := by
  cases v with
  | non => exact ⟨_, .non, rfl, fun z e => by cases e⟩
  | bl b => exact ⟨_, .bl b, rfl, fun z e => by cases e⟩
  | int i => exact ⟨_, .int i, rfl, fun z e => by cases e⟩
  | str z => exact ⟨_, .str z, rfl, fun y e => by cases e; exact h⟩
  | _ => exact h.elim
theorem scs_rp {G : Hp} : ∀ {vs : List V}, (∀ v ∈ vs, sc v) → ∃ ds, RpL G vs ds ∧ ∀ d ∈ ds, smallT d
  | [], _ => ⟨[], .nil, fun d h => by cases h⟩
  | v :: vs, h => by
    obtain ⟨d, h1, _, h3⟩ := sc_rp (G := G) (h v (List.mem_cons_self ..))
    obtain ⟨ds, h4, h5⟩ := scs_rp (G := G) (vs := vs) fun u hu => h u (List.mem_cons_of_mem _ hu)
    exact ⟨d :: ds, .cons h1 h4, fun e he => by rcases List.mem_cons.mp he with e1 | he; (· rw [e1]; exact h3); exact h5 e he⟩
/-- a row: a scalar, or a sequence of scalars that is not the source and not T -/
def Row (a B T : Addr) (H : Hp) (x : V) : Prop := sc x ∨ ∃ c vs, x = .ref c ∧ (c ≠ a ∧ c ≠ B) ∧ c ≠ T ∧ (H c = some (.lst vs) ∨ H c = some (.tup vs)) ∧ vs.length ≤ 1000 ∧ ∀ v ∈ vs, sc v
structure RowsAt (a B T : Addr) (H : Hp) (xs : List V) : Prop where
  at_ : H T = some (.lst xs)
  na : T ≠ a ∧ T ≠ B
  row : ∀ x ∈ xs, Row a B T H x
theorem Row.of {a B T : Addr} {H H' : Hp} {x : V} (s : ∀ c o, c ≠ a ∧ c ≠ B → c ≠ T → H c = some o → H' c = some o) (h : Row a B T H x) : Row a B T H' x := by
  rcases h with h | ⟨c, vs, e, h1, h2, h3, h4, h5⟩
  · exact .inl h
  · exact .inr ⟨c, vs, e, h1, h2, h3.elim (fun h => .inl (s _ _ h1 h2 h)) (fun h => .inr (s _ _ h1 h2 h)), h4, h5⟩
/-- a row written -/
theorem Row.set {a B T C : Addr} {H : Hp} {x : V} {vs : List V} (hl : vs.length ≤ 1000) (hv : ∀ v ∈ vs, sc v) (h : Row a B T H x) : Row a B T (upd H C (.lst vs)) x := by
  rcases h with h | ⟨c, us, e, h1, h2, h3, h4, h5⟩
  · exact .inl h
  · by_cases hc : c = C
    · subst hc
      exact .inr ⟨c, vs, e, h1, h2, .inl upd_same, hl, hv⟩
    · exact .inr ⟨c, us, e, h1, h2, by rw [upd_ne hc]; exact h3, h4, h5⟩
theorem RowsAt.fra {a B T : Addr} {H H' : Hp} {xs : List V} (f : Fra a H H') (h : RowsAt a B T H xs) : RowsAt a B T H' xs := by
  have s : ∀ c o, c ≠ a → H c = some o → H' c = some o := fun c o hc e => f.up c o (by rw [del_ne hc]; exact e)
  exact ⟨s _ _ h.na.1 h.at_, h.na, fun x hx => (h.row x hx).of fun c o h1 _ e => s c o h1.1 e⟩
theorem freshB {a B l : Addr} {H Hk : Hp} {o : HO} (hB : del H a B = some o) (f : Fra a H Hk) (hl : Hk l = none) : l ≠ B := fun z => by
  have := f.up B _ hB
  rw [← z, hl] at this
  cases this
theorem rows_data {a B T : Addr} {H : Hp} : ∀ {xs : List V}, (∀ x ∈ xs, Row a B T H x) → ∃ ds, RpL (del (del H a) B) xs ds ∧ ∀ d ∈ ds, smallTri d
  | [], _ => ⟨[], .nil, fun d h => by cases h⟩
  | x :: xs, h => by
    obtain ⟨ds, h4, h5⟩ := rows_data (xs := xs) fun u hu => h u (List.mem_cons_of_mem _ hu)
    have hx : ∃ d, Rp (del (del H a) B) x d ∧ smallTri d := by
      rcases h x (List.mem_cons_self ..) with h | ⟨c, vs, rfl, h1, h2, h3, h6, h7⟩
      · obtain ⟨d, e1, e2, _⟩ := sc_rp (G := del (del H a) B) h
        exact ⟨d, e1, fun ds e => by rw [e2] at e; cases e⟩
      · obtain ⟨es, e1, e2⟩ := scs_rp (G := del (del H a) B) h7
        have hl := e1.length
        rcases h3 with h3 | h3
        · exact ⟨.list es, .lst (by rw [del_ne h1.2, del_ne h1.1]; exact h3) e1, fun ds e => by cases e; exact ⟨by omega, e2⟩⟩
        · exact ⟨.tuple es, .tup (by rw [del_ne h1.2, del_ne h1.1]; exact h3) e1, fun ds e => by cases e; exact ⟨by omega, e2⟩⟩
    obtain ⟨d, h1, h3⟩ := hx
    exact ⟨d :: ds, .cons h1 h4, fun e he => by rcases List.mem_cons.mp he with e1 | he; (· rw [e1]; exact h3); exact h5 e he⟩
theorem RowsAt.data {a B T : Addr} {H : Hp} {xs : List V} (h : RowsAt a B T H xs) (hl : xs.length ≤ 100000) : ∃ d, Rp (del (del H a) B) (.ref T) d ∧ smallR d ∧ smallM d := by
  obtain ⟨ds, h1, h2⟩ := rows_data h.row
  have hds := h1.length
  refine ⟨.list ds, .lst (by rw [del_ne h.na.2, del_ne h.na.1]; exact h.at_) h1, fun es e => ?_, fun es e => ?_⟩
  · cases e
    exact ⟨by omega, fun x hx fs hf => (h2 x hx fs hf).1⟩
  · cases e
    exact ⟨by omega, h2⟩
/-- copies are rows -/
theorem copy_rows {H1 H2 : Hp} {a B D : Addr} {vss : List (List V)} {n : Nat} (h : CopyP H1 D vss n H2) (hn : n ≤ vss.length) (hD : D ≠ a ∧ D ≠ B) (ha : H1 a ≠ none) (hb : H1 B ≠ none) (hv : ∀ vs ∈ vss, vs.length ≤ 1000 ∧ ∀ v ∈ vs, sc v) :
    ∃ bs : List Addr, bs.length = n ∧ RowsAt a B D H2 (bs.map V.ref) ∧ ∀ (j : Nat) (vs : List V), j < n → vss[j]? = some vs → ∃ b, (bs.map V.ref)[j]? = some (.ref b) ∧ (b ≠ a ∧ b ≠ B) ∧ b ≠ D ∧ H2 b = some (.lst vs) ∧ H1 b = none := by
  obtain ⟨bs, h1, h2, h3, h4, h5, h6, h7⟩ := h
  have hba : ∀ b ∈ bs, b ≠ a ∧ b ≠ B := fun b hb' => ⟨fun z => ha (by rw [← z]; exact h6 b hb'), fun z => hb (by rw [← z]; exact h6 b hb')⟩
  refine ⟨bs, h2, ⟨h1, hD, fun x hx => ?_⟩, fun j vs hj hvs => ?_⟩
  · obtain ⟨b, hb, rfl⟩ := List.mem_map.mp hx
    obtain ⟨j, hj⟩ := List.mem_iff_getElem?.mp hb
    have hjl := (List.getElem?_eq_some_iff.mp hj).1
    have hjv : j < vss.length := by omega
    obtain ⟨q1, q2⟩ := hv vss[j] (List.getElem_mem hjv)
    exact .inr ⟨b, vss[j], rfl, hba b hb, fun z => h4 (by rw [← z]; exact hb), .inl (h5 j b _ hj (List.getElem?_eq_getElem hjv)), q1, q2⟩
  · have hjb : j < bs.length := by omega
    have hb := List.getElem_mem hjb
    exact ⟨bs[j], by rw [List.getElem?_map, List.getElem?_eq_getElem hjb]; rfl, hba _ hb, fun z => h4 (by rw [← z]; exact hb), h5 j _ vs (List.getElem?_eq_getElem hjb) hvs, h6 _ hb⟩
theorem sc_ints {r : List Nat} : ∀ v ∈ intsV r, sc v := fun v hv => by
  obtain ⟨k, _, rfl⟩ := List.mem_map.mp hv
  trivial
def rLstO (K : PySem.W.Frag) : List V → Hp → VK → Prop := fun xs H Q => ∃ p ys, xs = [.ref p] ∧ (SqL K H p ys ∨ SqT K H p ys) ∧ ∀ l, H l = none → Q (.ref l) (upd H l (.lst ys))
section
variable {P : Program} {w : World} {K : PySem.W.Frag} {mg : Str → Option Value} {base : Heap}
def sp_law_bad_reader : Sp := fun vs H Q _ => ∃ (a B : Addr) (zs : List V) (v : V) (many most : Nat) (rows : List (List Nat)), vs = [.ref a, v, .int (many : Nat)] ∧ del H a B = some (.lst zs) ∧ Rp (del H a) v (rowsD rows) ∧ RowsOk many most rows ∧ most ≤ 40 ∧ 1 ≤ many ∧ many ≤ 8 ∧ SrcAt H a ∧
  ∀ H' t d, Fra a H H' → Rp (del (del H' a) B) t d → smallR d → Q t H'
theorem ok_law_bad_reader (T : Txt K mg) : Cal P w K mg base CX0 2 "_law_bad_reader" ["_law_source_here", "_law_moves", "_law_many"] sp_law_bad_reader := by
  obtain ⟨fd, F⟩ := F__law_bad_reader T
  refine cal_mk F (g__law_bad_reader T) sc__law_bad_reader (fun _ _ _ _ _ _ us hl => match us, hl with | [_, _, _], _ => rfl) (fun vs H Q E h => ?_) (fun cdv A outer s H vs Q E hr h => ?_)
  · obtain ⟨a, B, zs, v, many, most, rows, rfl, _⟩ := h; rfl
  · refine ⟨_, PSs.nox (pss_cons (ps_set (i := 3) sc__law_bad_reader.nd rfl (Or.inl rfl) (pe_callB call_len (by rfl) (fr_len T) boot_len (pa_cons (pv 1) pa_nil)))
      (pss_cons (ps_set (i := 4) sc__law_bad_reader.nd rfl (Or.inl rfl) (pe_cal (ok_law_pick T) hr pass0 (pa_cons (pv 0) (pa_cons pe_int pa_nil))))
      (pss_cons (ps_if (pt_cmpR op_eq (pv 4) pe_int (nomark _)) (pss_one (ps_ret (pe_ix ix_list (pe_lst (pa_cons pe_non (pa_cons (pe_lst pa_nil) (pa_cons pe_int (pa_cons pe_str pa_nil))))) (pe_cal (ok_law_pick T) hr pass0 (pa_cons (pv 0) (pa_cons pe_int pa_nil))) (fun _ _ => rfl)))) pss_nil)
      (pss_cons (ps_if (pt_cmpR op_eq (pv 4) pe_int (nomark _)) (pss_one (ps_ret (pe_lc (te := tOp rRep (tLst (tCons (tC (.int 0)) tNil)) (tVar 2)) (own := [("_law_p", 7)]) (g := gName 7) (tt := tYes) rfl sc__law_bad_reader.nd (pi_range1 (by rfl) (fr_range T) (pa_cons (pe_op op_add pe_int (pe_cal (ok_law_pick T) hr pass0 (pa_cons (pv 0) (pa_cons pe_int pa_nil)))) pa_nil)) (blkOk_by (N := N__law_bad_reader) (sc := defScope s__law_bad_reader) (by decide +kernel))
          (fun _ _ _ _ _ => pg_name (i := 7) sc__law_bad_reader.nd rfl (Or.inl rfl)) (fun _ _ _ _ _ => pts_nil) (fun _ _ _ _ _ => pe_op op_rep (pe_lst (pa_cons pe_int pa_nil)) (pv 2))))) pss_nil)
      (pss_cons (ps_setLc (i := 5) (te := tCB (rLstO K) (tCons (tVar 8) tNil)) (own := [("_law_move", 8)]) (g := gName 8) (tt := tYes) rfl sc__law_bad_reader.nd rfl rfl (sw_true rfl rfl rfl (by decide +kernel)) (pi_seq (pv 1)) (blkOk_by (N := N__law_bad_reader) (sc := defScope s__law_bad_reader) (by decide +kernel))
          (fun _ _ _ _ _ => pg_name (i := 8) sc__law_bad_reader.nd rfl (Or.inl rfl)) (fun _ _ _ _ _ => pts_nil) (fun _ _ _ _ _ => by refine pe_callTy (r := rLstO K) (t := tCons (tVar 8) tNil) ?_ (by rfl) (fr_list T) b_list (pa_cons (pv 8) pa_nil); exact call_list_of))
      (pss_cons (ps_set (i := 6) sc__law_bad_reader.nd rfl (Or.inl rfl) (pe_cal (ok_law_pick T) hr pass0 (pa_cons (pv 0) (pa_cons (pv 3) pa_nil))))
      (pss_cons (ps_if (pt_cmpR op_lt (pv 4) pe_int (nomark _))
          (pss_one (ps_asg (pe_ix ix_list (pe_lst (pa_cons pe_non (pa_cons (pe_lst pa_nil) (pa_cons (pe_op op_rep (pe_lst (pa_cons pe_int pa_nil)) (pe_op op_add (pv 2) pe_int)) (pa_cons pe_int (pa_cons (pe_op op_rep1 pe_str (pv 2)) pa_nil)))))) (pe_cal (ok_law_pick T) hr pass0 (pa_cons (pv 0) (pa_cons pe_int pa_nil))) (fun _ _ => rfl)) (pg_sub (pv 5) (pv 6) set_list)))
          (pss_one (ps_if (pt_cmpR op_lt (pv 4) pe_int (nomark _))
            (pss_one (ps_asg (pe_ix ix_list (pe_lst (pa_cons (pv 3) (pa_cons (pe_un un_neg pe_int) (pa_cons pe_bl (pa_cons pe_non (pa_cons pe_str (pa_cons (pe_op op_add (pv 3) pe_int) (pa_cons pe_bl (pa_cons pe_int pa_nil))))))))) (pe_cal (ok_law_pick T) hr pass0 (pa_cons (pv 0) (pa_cons pe_int pa_nil))) (fun _ _ => rfl)) (pg_sub (pe_ix ix_list (pv 5) (pv 6) (fun _ _ => rfl)) (pe_cal (ok_law_pick T) hr pass0 (pa_cons (pv 0) (pa_cons (pv 2) pa_nil))) set_list)))
            (pss_one (ps_if (pt_cmpR op_eq (pv 4) pe_int (nomark _))
              (pss_one (ps_expr (pe_bm PySem.F.plainAttrs_list PySem.F.slot_list_append PySem.F.type_list_append mt_append (pv 5) (pa_cons (pe_op op_rep (pe_lst (pa_cons (pv 3) pa_nil)) (pv 2)) pa_nil))))
              (pss_one (ps_asg (pe_callTy call_tuple_of (by rfl) (fr_tuple T) b_tuple (pa_cons (pe_ix ix_list (pv 5) (pv 6) (fun _ _ => rfl)) pa_nil)) (pg_sub (pv 5) (pv 6) set_list))))))))
      (pss_one (ps_ret (pv 5)))))))))), ?_⟩
    obtain ⟨a, Bx, zs, v, many, most, rows, rfl, hBx, rv, RO, m40, h1, h8, hs, q⟩ := h
    obtain ⟨p, xs, rfl, hp, hxl, hsrc⟩ := srcs_rows rv
    rw [List.length_map] at hxl
    have hn1 := RO.ne
    have hn40 : rows.length ≤ 40 := Nat.le_trans RO.le m40
    have hne : ∀ {H'}, SrcAt H' a → H' a ≠ none := fun ⟨A, S, C, e⟩ z => by rw [e] at z; cases z
    have hnB : ∀ {H'}, Fra a H H' → H' Bx ≠ none := fun f z => by rw [f.up _ _ hBx] at z; cases z
    have hrow : ∀ vs ∈ rows.map intsV, vs.length ≤ 1000 ∧ ∀ v ∈ vs, sc v := fun vs hv => by
      obtain ⟨r, hr, rfl⟩ := List.mem_map.mp hv
      exact ⟨by rw [List.length_map, (RO.ok r hr).1]; omega, sc_ints⟩
    refine ⟨.ref p, rfl, _, _, rfl, lenV_sq (.inl (del_le a _ _ hp)) hxl, .ref a, rfl, a, _, rfl, by omega, by omega, hs, fun A1 S1 C1 d hd0 hd1 => ?_⟩
    have f1 : Fra a H (upd H a (three A1 S1 C1)) := Fra.drawn A1 S1 C1
    generalize upd H a (three A1 S1 C1) = H1 at f1 ⊢
    obtain ⟨w, rfl⟩ := Int.eq_ofNat_of_zero_le hd0
    refine ⟨.int (w : Nat), rfl, rfl, _, rfl, ?_⟩
    cases hw5 : decide (V.int ((w : Nat) : Int) = V.int 5) with
    | true =>
      refine iteT ⟨(by show 0 ≤ sizeLine; decide), fun l hl => ⟨(by show 4 ≤ sizeLine; decide), fun L hL => ⟨.ref a, rfl, ?_⟩⟩⟩
      have f2 := f1.trans (Fra.same f1.src ((same_upd (o := .lst []) hl).trans (same_upd (o := .lst [.non, .ref l, .int 7, .str "00"]) hL)))
      have hla : l ≠ a := f1.src.ne hl
      have hlB := freshB hBx f1 hl
      have hlL : l ≠ L := fun z => by rw [← z, upd_same] at hL; cases hL
      have hLa : L ≠ a := by
        have f3 := f1.trans (Fra.same f1.src (same_upd (o := .lst []) hl))
        exact f3.src.ne hL
      have e1 : upd (upd H1 l (.lst [])) L (.lst [.non, .ref l, .int 7, .str "00"]) L = some (.lst [.non, .ref l, .int 7, .str "00"]) := upd_same
      have e2 : upd (upd H1 l (.lst [])) L (.lst [.non, .ref l, .int 7, .str "00"]) l = some (.lst []) := by rw [upd_ne hlL, upd_same]
      generalize upd (upd H1 l (.lst [])) L (.lst [.non, .ref l, .int 7, .str "00"]) = H2 at f2 e1 e2
      refine ⟨a, _, rfl, by omega, by omega, f2.src, fun A3 S3 C3 d hd0 hd1 => ?_⟩
      have f3 : Fra a H2 (upd H2 a (three A3 S3 C3)) := Fra.drawn A3 S3 C3
      generalize upd H2 a (three A3 S3 C3) = H3 at f3 ⊢
      obtain ⟨m, rfl⟩ := Int.eq_ofNat_of_zero_le hd0
      have e3 := f3.up L _ (by rw [del_ne hLa]; exact e1)
      have e4 := f3.up l _ (by rw [del_ne hla]; exact e2)
      obtain ⟨x, hx, e, re, se⟩ : ∃ x, ([V.non, .ref l, .int 7, .str "00"] : List V)[m]? = some x ∧ ∃ e, Rp (del (del H3 a) Bx) x e ∧ smallR e := by
        match m, (show m < 4 by omega) with
        | 0, _ => exact ⟨_, rfl, _, .non, fun ds h => by cases h⟩
        | 1, _ => exact ⟨_, rfl, _, .lst (by rw [del_ne hlB, del_ne hla]; exact e4) .nil, fun ds h => by cases h; exact ⟨Nat.zero_le _, fun x hx => by cases hx⟩⟩
        | 2, _ => exact ⟨_, rfl, _, .int 7, fun ds h => by cases h⟩
        | 3, _ => exact ⟨_, rfl, _, .str "00", fun ds h => by cases h⟩
      exact ⟨L, _, _, x, rfl, rfl, SqL.of e3, atI_nat hx, q H3 x e (f2.trans f3) re se⟩
    | false =>
    refine iteF ⟨.int (w : Nat), rfl, rfl, _, rfl, ?_⟩
    cases hw7 : decide (V.int ((w : Nat) : Int) = V.int 7) with
    | true =>
      refine iteT ⟨.ref a, rfl, a, _, rfl, by omega, by omega, f1.src, fun A2 S2 C2 d hd0 hd1 => ⟨39, _, rfl, rfl, ?_⟩⟩
      have f2 : Fra a H1 (upd H1 a (three A2 S2 C2)) := Fra.drawn A2 S2 C2
      generalize upd H1 a (three A2 S2 C2) = H2 at f2 ⊢
      obtain ⟨m, rfl⟩ := Int.eq_ofNat_of_zero_le hd0
      refine ⟨_, rfl, by omega, by omega, fun D hD => ?_⟩
      have en : ((39 : Int) + ((m : Nat) : Int)).toNat = 39 + m := by omega
      rw [en]
      have hDa := f2.src.ne hD
      refine lc_it (walk_range (n := 39 + m)) (tt := tYes) (CopyP H2 D (List.replicate (39 + m) (List.replicate ((many : Nat) : Int).toNat [V.int 0]).flatten)) (copyP_init hD) (fun _ _ _ _ => trivial) ?_ ?_
      · rintro i x H3 H4 hi hc ⟨eH, ex0⟩
        replace eH := eH.symm
        subst eH
        refine ⟨rfl, (by show 1 ≤ sizeLine; decide), fun l hl => ⟨.int (many : Nat), rfl, l, (many : Nat), _, rfl, rfl, upd_same, by omega, by omega, ?_, fun l2 hl2 => ?_⟩⟩
        · have : ((many : Nat) : Int).toNat = many := by omega
          rw [this]
          exact Nat.le_trans (by simp; omega : [V.int 0].length * many ≤ 8) (by decide)
        · exact copyP_step (copyP_same (same_upd hl) hc) hD (by rw [List.getElem?_replicate, if_pos hi]) hl2 (Nat.lt_of_lt_of_le (by omega : i < 100) (by decide))
      · intro H3 hc
        obtain ⟨bs, hbl, RA, _⟩ := copy_rows (a := a) (B := Bx) hc (by rw [List.length_replicate]; exact Nat.le_refl _) ⟨hDa, freshB hBx (f1.trans f2) hD⟩ (hne f2.src) (hnB (f1.trans f2)) fun vs hv => by
          rw [(List.mem_replicate.mp hv).2]
          refine ⟨?_, fun v hv => ?_⟩
          · rw [List.length_flatten]
            simp
            omega
          · obtain ⟨l, hl, hv⟩ := List.mem_flatten.mp hv
            rw [(List.mem_replicate.mp hl).2] at hv
            rw [List.mem_singleton.mp hv]
            trivial
        obtain ⟨d, rd, sd, _⟩ := RA.data (by rw [List.length_map]; omega)
        obtain ⟨_, _, _, _, _, _, _, sm⟩ := hc
        exact q H3 _ d (f1.trans (f2.trans (Fra.same f2.src sm))) rd sd
    | false =>
    -- the copies
    have hp1 := f1.up p _ hp
    refine iteF ⟨.ref p, rfl, p, xs, rfl, .inl ⟨SqL.of hp1, fun J W => fun D hD => ?_⟩⟩
    have hDa := f1.src.ne hD
    refine lc_it W (tt := tYes) (CopyP H1 D (rows.map intsV)) (copyP_init hD) (fun i H2 _ ⟨_, _, _, _, _, _, _, s⟩ => SqL.of (s _ _ hp1)) ?_ ?_
    · rintro i x H3 H4 hi hc ⟨eH, hxi⟩
      replace eH := eH.symm
      subst eH
      have hir : i < rows.length := by rw [← hxl]; exact hi
      have hvi : (rows.map intsV)[i]? = some (intsV rows[i]) := by rw [List.getElem?_map, List.getElem?_eq_getElem hir]; rfl
      obtain ⟨c, hcx, hcs⟩ := hsrc i _ hvi
      have : x = .ref c := Option.some.inj (hxi.symm.trans hcx)
      subst this
      obtain ⟨_, _, _, _, _, _, _, sm⟩ := id hc
      refine ⟨rfl, .ref c, rfl, c, _, rfl, (sq_same (f1.up.trans sm) hcs).elim (fun h => .inl (SqL.of h)) (fun h => .inr (SqT.of h)), fun l hl => ?_⟩
      exact copyP_step hc hD hvi hl (Nat.lt_of_lt_of_le (by omega : i < 100) (by decide))
    intro H2 hc
    obtain ⟨_, _, _, _, _, _, _, sm⟩ := id hc
    have f2 : Fra a H H2 := f1.trans (Fra.same f1.src sm)
    obtain ⟨bs, hbl, RA, hbs⟩ := copy_rows (a := a) (B := Bx) hc (by rw [List.length_map, hxl]; exact Nat.le_refl _) ⟨hDa, freshB hBx f1 hD⟩ (hne f1.src) (hnB f1) hrow
    rw [hxl] at hbl
    -- the number
    refine ⟨.ref a, rfl, .int (rows.length : Nat), rfl, a, _, rfl, by omega, by omega, f2.src, fun A3 S3 C3 d hd0 hd1 => ?_⟩
    have f3 : Fra a H2 (upd H2 a (three A3 S3 C3)) := Fra.drawn A3 S3 C3
    generalize upd H2 a (three A3 S3 C3) = H3 at f3 ⊢
    obtain ⟨k, rfl⟩ := Int.eq_ofNat_of_zero_le hd0
    have hk : k < rows.length := by omega
    obtain ⟨B, hB, hBa, hBD, hBv, hB1⟩ := hbs k (intsV rows[k]) (by rw [hxl]; exact hk) (by rw [List.getElem?_map, List.getElem?_eq_getElem hk]; rfl)
    have hrk : rows[k].length = many := (RO.ok _ (List.getElem_mem hk)).1
    have RA3 := RA.fra f3
    have hBv3 := f3.up B _ (by rw [del_ne hBa.1]; exact hBv)
    have f13 := f2.trans f3
    generalize hxs : bs.map V.ref = ys at RA RA3 hB hbs
    have hyl : ys.length = rows.length := by rw [← hxs, List.length_map, hbl]
    have fin : ∀ (H4 : Hp) (zs : List V), Fra a H H4 → RowsAt a Bx D H4 zs → zs.length ≤ 100 → Q (.ref D) H4 := fun H4 zs f R hz => by
      obtain ⟨d, rd, sd, _⟩ := R.data (by omega)
      exact q H4 _ d f rd sd
    have hix : ixN ys.length (k : Nat) = some k := by
      unfold ixN
      rw [if_pos (by omega), if_pos (by omega), Int.toNat_natCast]
    have hsetl : ∀ x : V, (ys.set k x).length = rows.length := fun x => by rw [List.length_set, hyl]
    have setRow : ∀ (H4 : Hp) (x : V), RowsAt a Bx D H4 ys → Row a Bx D H4 x → RowsAt a Bx D (upd H4 D (.lst (ys.set k x))) (ys.set k x) := fun H4 x R hx => by
      have keep : ∀ y, Row a Bx D H4 y → Row a Bx D (upd H4 D (.lst (ys.set k x))) y := fun y hy => hy.of fun c o _ h2 e => by rw [upd_ne h2]; exact e
      refine ⟨upd_same, R.na, fun y hy => ?_⟩
      rcases List.mem_or_eq_of_mem_set hy with hy | hy
      · exact keep y (R.row y hy)
      · rw [hy]; exact keep x hx
    have fraD : ∀ (H4 : Hp) (o : HO), Fra a H H4 → Fra a H (upd H4 D o) := fun H4 o f => f.over (f1.none hDa hD) hDa
    have hDr : ∀ H4, RowsAt a Bx D H4 ys → H4 D = some (.lst ys) := fun H4 R => R.at_
    refine ⟨.int (w : Nat), rfl, _, 3, rfl, rfl, _, rfl, ?_⟩
    cases hw3 : decide (((w : Nat) : Int) < 3) with
    | true =>
      refine iteT ⟨(by show 0 ≤ sizeLine; decide), fun l1 hl1 => ⟨(by show 1 ≤ sizeLine; decide), fun l2 hl2 => ⟨.int (many : Nat), rfl, _, 1, rfl, rfl, l2, _, _, rfl, rfl, upd_same, by omega, by omega, ?_, fun l3 hl3 => ⟨.int (many : Nat), rfl, 48, _, rfl, rfl, by omega, by omega, fun z hz => ⟨(by show 5 ≤ sizeLine; decide), fun L hL => ⟨.ref a, rfl, ?_⟩⟩⟩⟩⟩⟩
      · have : (((many : Nat) : Int) + 1).toNat = many + 1 := by omega
        rw [this]
        exact Nat.le_trans (by simp; omega : [V.int 0].length * (many + 1) ≤ 9) (by decide)
      have g1 := same_upd (o := .lst []) hl1
      have g2 := same_upd (o := .lst [.int 0]) hl2
      have g3 := same_upd (o := .lst (List.replicate (((many : Nat) : Int) + 1).toNat [V.int 0]).flatten) hl3
      have g4 := same_upd (o := .lst [.non, .ref l1, .ref l3, .int 0, .str z]) hL
      have hl1a := f13.src.ne hl1
      have hl1D : l1 ≠ D := fun e => by rw [e, RA3.at_] at hl1; cases hl1
      have hl3a := ((f13.src.same g1).same g2).ne hl3
      have hl3B := freshB hBx (f13.trans (Fra.same f13.src (g1.trans g2))) hl3
      have hl3D : l3 ≠ D := fun e => by rw [e, g2 _ _ (g1 _ _ RA3.at_)] at hl3; cases hl3
      have hLa := (((f13.src.same g1).same g2).same g3).ne hL
      have f4 := f13.trans (Fra.same f13.src (g1.trans (g2.trans (g3.trans g4))))
      have e1 := (g2.trans (g3.trans g4)) l1 _ upd_same
      have e3 := g4 l3 _ upd_same
      have eL := upd_same (H := upd (upd (upd H3 l1 (.lst [])) l2 (.lst [.int 0])) l3 (.lst (List.replicate (((many : Nat) : Int) + 1).toNat [V.int 0]).flatten)) (a := L) (o := .lst [.non, .ref l1, .ref l3, .int 0, .str z])
      have R4 := RA3.fra (Fra.same f13.src (g1.trans (g2.trans (g3.trans g4))))
      generalize upd (upd (upd (upd H3 l1 (.lst [])) l2 (.lst [.int 0])) l3 (.lst (List.replicate (((many : Nat) : Int) + 1).toNat [V.int 0]).flatten)) L (.lst [.non, .ref l1, .ref l3, .int 0, .str z]) = H4 at f4 e1 e3 eL R4 ⊢
      refine ⟨a, _, rfl, by omega, by omega, f4.src, fun A5 S5 C5 d hd0 hd1 => ?_⟩
      have f5 : Fra a H4 (upd H4 a (three A5 S5 C5)) := Fra.drawn A5 S5 C5
      generalize upd H4 a (three A5 S5 C5) = H5 at f5 ⊢
      obtain ⟨m, rfl⟩ := Int.eq_ofNat_of_zero_le hd0
      have e1' := f5.up l1 _ (by rw [del_ne hl1a]; exact e1)
      have e3' := f5.up l3 _ (by rw [del_ne hl3a]; exact e3)
      have eL' := f5.up L _ (by rw [del_ne hLa]; exact eL)
      have R5 := R4.fra f5
      obtain ⟨x, hx, rx⟩ : ∃ x, ([V.non, .ref l1, .ref l3, .int 0, .str z] : List V)[m]? = some x ∧ Row a Bx D H5 x := by
        match m, (show m < 5 by omega) with
        | 0, _ => exact ⟨_, rfl, .inl trivial⟩
        | 1, _ => exact ⟨_, rfl, .inr ⟨l1, _, rfl, ⟨hl1a, freshB hBx f13 hl1⟩, hl1D, .inl e1', Nat.zero_le _, fun v hv => by cases hv⟩⟩
        | 2, _ =>
          refine ⟨_, rfl, .inr ⟨l3, _, rfl, ⟨hl3a, hl3B⟩, hl3D, .inl e3', ?_, fun v hv => ?_⟩⟩
          · rw [List.length_flatten]
            simp
            omega
          · obtain ⟨l, hl, hv⟩ := List.mem_flatten.mp hv
            rw [(List.mem_replicate.mp hl).2] at hv
            rw [List.mem_singleton.mp hv]
            trivial
        | 3, _ => exact ⟨_, rfl, .inl trivial⟩
        | 4, _ =>
          refine ⟨_, rfl, .inl ?_⟩
          show z.length ≤ 100000
          have : z.length = z.cps.toList.length := Array.length_toList.symm
          rw [this, hz, List.length_replicate]
          omega
      refine ⟨L, _, _, x, rfl, rfl, SqL.of eL', atI_nat hx, .ref D, rfl, .int (k : Nat), rfl, D, ys, _, k, rfl, rfl, R5.at_, hix, .ref D, rfl, ?_⟩
      exact fin _ _ (fraD _ _ (f4.trans f5)) (setRow _ _ R5 rx) (by rw [hsetl]; omega)
    | false =>
    refine iteF ⟨.int (w : Nat), rfl, _, 10, rfl, rfl, _, rfl, ?_⟩
    cases hw10 : decide (((w : Nat) : Int) < 10) with
    | true =>
      refine iteT ⟨.int (rows.length : Nat), rfl, 1, rfl, .int (rows.length : Nat), rfl, _, 30, rfl, rfl, (by show 8 ≤ sizeLine; decide), fun L hL => ⟨.ref a, rfl, ?_⟩⟩
      generalize hlst : ([.int (rows.length : Nat), .int (-1), .bl true, .non, .str "0", .int ((rows.length : Nat) + 30), .bl false, .int 0] : List V) = lst
      have hall : ∀ x ∈ lst, sc x := by
        rw [← hlst]
        intro x hx
        simp only [List.mem_cons, List.not_mem_nil, or_false] at hx
        rcases hx with rfl | rfl | rfl | rfl | rfl | rfl | rfl | rfl
        all_goals first | trivial | (show ("0" : Str).length ≤ 100000; decide)
      have hlen : lst.length = 8 := by rw [← hlst]; rfl
      have g4 := same_upd (o := .lst lst) hL
      have hLa := f13.src.ne hL
      have f4 := f13.trans (Fra.same f13.src g4)
      have eL := upd_same (H := H3) (a := L) (o := .lst lst)
      have R4 := RA3.fra (Fra.same f13.src g4)
      have eB := g4 _ _ hBv3
      replace eL : upd H3 L (.lst lst) L = some (.lst lst) := eL
      generalize upd H3 L (.lst lst) = H4 at f4 eL R4 eB ⊢
      refine ⟨a, _, rfl, by omega, by omega, f4.src, fun A5 S5 C5 d hd0 hd1 => ?_⟩
      have f5 : Fra a H4 (upd H4 a (three A5 S5 C5)) := Fra.drawn A5 S5 C5
      generalize upd H4 a (three A5 S5 C5) = H5 at f5 ⊢
      obtain ⟨m, rfl⟩ := Int.eq_ofNat_of_zero_le hd0
      have eL' := f5.up L _ (by rw [del_ne hLa]; exact eL)
      have R5 := R4.fra f5
      have eB5 := f5.up B _ (by rw [del_ne hBa.1]; exact eB)
      have hml : m < lst.length := by omega
      refine ⟨L, _, _, lst[m], rfl, rfl, SqL.of eL', atI_nat (List.getElem?_eq_getElem hml), .ref D, rfl, .int (k : Nat), rfl, D, ys, _, .ref B, rfl, rfl, SqL.of R5.at_, atI_nat hB, .ref a, rfl, .int (many : Nat), rfl, a, _, rfl, by omega, by omega, f5.src, fun A6 S6 C6 d hd0 hd1 => ?_⟩
      have f6 : Fra a H5 (upd H5 a (three A6 S6 C6)) := Fra.drawn A6 S6 C6
      generalize upd H5 a (three A6 S6 C6) = H6 at f6 ⊢
      obtain ⟨j, rfl⟩ := Int.eq_ofNat_of_zero_le hd0
      have R6 := R5.fra f6
      have eB6 := f6.up B _ (by rw [del_ne hBa.1]; exact eB5)
      have hjl : j < (intsV rows[k]).length := by rw [List.length_map, hrk]; omega
      have hixj : ixN (intsV rows[k]).length (j : Nat) = some j := by
        unfold ixN
        rw [if_pos (by omega), if_pos (by omega), Int.toNat_natCast]
      refine ⟨B, _, _, j, rfl, rfl, eB6, hixj, .ref D, rfl, ?_⟩
      have hset : ∀ v ∈ (intsV rows[k]).set j lst[m], sc v := fun v hv => by
        rcases List.mem_or_eq_of_mem_set hv with hv | hv
        · exact sc_ints v hv
        · rw [hv]; exact hall _ (List.getElem_mem hml)
      have hsl : ((intsV rows[k]).set j lst[m]).length ≤ 1000 := by rw [List.length_set, List.length_map, hrk]; omega
      have hB0 : H B = none := f1.none hBa.1 hB1
      refine fin _ ys ((f4.trans (f5.trans f6)).over hB0 hBa.1) ⟨by rw [upd_ne (Ne.symm hBD)]; exact R6.at_, R6.na, fun x hx => (R6.row x hx).set hsl hset⟩ (by omega)
    | false =>
    refine iteF ⟨.int (w : Nat), rfl, rfl, _, rfl, ?_⟩
    cases hw : decide (V.int ((w : Nat) : Int) = V.int 10) with
    | true =>
      refine iteT ⟨.ref D, rfl, .inl ⟨rfl, _, SqL.of RA3.at_⟩, .int (rows.length : Nat), rfl, (by show 1 ≤ sizeLine; decide), fun l2 hl2 => ⟨.int (many : Nat), rfl, l2, _, _, rfl, rfl, upd_same, by omega, by omega, ?_, fun l3 hl3 => ?_⟩⟩
      · have : ((many : Nat) : Int).toNat = many := by omega
        rw [this]
        exact Nat.le_trans (by simp; omega : [V.int (rows.length : Nat)].length * many ≤ 8) (by decide)
      have g2 := same_upd (o := .lst [.int (rows.length : Nat)]) hl2
      have g3 := same_upd (o := .lst (List.replicate ((many : Nat) : Int).toNat [V.int (rows.length : Nat)]).flatten) hl3
      have hl3a := (f13.src.same g2).ne hl3
      have hl3B := freshB hBx (f13.trans (Fra.same f13.src g2)) hl3
      have hl3D : l3 ≠ D := fun e => by rw [e, g2 _ _ RA3.at_] at hl3; cases hl3
      have f4 := Fra.same f13.src (g2.trans g3)
      have R4 := RA3.fra f4
      have e3 := upd_same (H := upd H3 l2 (.lst [.int (rows.length : Nat)])) (a := l3) (o := .lst (List.replicate ((many : Nat) : Int).toNat [V.int (rows.length : Nat)]).flatten)
      generalize upd (upd H3 l2 (.lst [.int (rows.length : Nat)])) l3 (.lst (List.replicate ((many : Nat) : Int).toNat [V.int (rows.length : Nat)]).flatten) = H4 at f4 R4 e3 ⊢
      refine ⟨D, ys, _, rfl, rfl, R4.at_, Nat.lt_of_lt_of_le (by omega : ys.length < 100) (by decide), .ref D, rfl, ?_⟩
      have keep : ∀ y, Row a Bx D H4 y → Row a Bx D (upd H4 D (.lst (ys ++ [.ref l3]))) y := fun y hy => hy.of fun c o _ h2 e => by rw [upd_ne h2]; exact e
      refine fin _ _ (fraD _ _ (f13.trans f4)) ⟨upd_same, R4.na, fun y hy => ?_⟩ (by rw [List.length_append, hyl]; show rows.length + 1 ≤ 100; omega)
      rcases List.mem_append.mp hy with hy | hy
      · exact keep y (R4.row y hy)
      · rw [List.mem_singleton.mp hy]
        refine keep _ (.inr ⟨l3, _, rfl, ⟨hl3a, hl3B⟩, hl3D, .inl e3, ?_, fun v hv => ?_⟩)
        · rw [List.length_flatten]
          simp
          omega
        · obtain ⟨l, hl, hv⟩ := List.mem_flatten.mp hv
          rw [(List.mem_replicate.mp hl).2] at hv
          rw [List.mem_singleton.mp hv]
          trivial
    | false =>
      refine iteF ⟨.ref D, rfl, .int (k : Nat), rfl, D, ys, _, .ref B, rfl, rfl, SqL.of RA3.at_, atI_nat hB, B, _, rfl, .inl ⟨SqL.of hBv3, fun l hl => ?_⟩⟩
      have g4 := same_upd (o := .tup (intsV rows[k])) hl
      have hla := f13.src.ne hl
      have hlD : l ≠ D := fun e => by rw [e, RA3.at_] at hl; cases hl
      have f4 := Fra.same f13.src g4
      have R4 := RA3.fra f4
      have e3 := upd_same (H := H3) (a := l) (o := .tup (intsV rows[k]))
      generalize upd H3 l (.tup (intsV rows[k])) = H4 at f4 R4 e3 ⊢
      refine ⟨.ref D, rfl, .int (k : Nat), rfl, D, ys, _, k, rfl, rfl, R4.at_, hix, .ref D, rfl, ?_⟩
      exact fin _ _ (fraD _ _ (f13.trans f4)) (setRow _ _ R4 (.inr ⟨l, _, rfl, ⟨hla, freshB hBx f13 hl⟩, hlD, .inr e3, by rw [List.length_map, hrk]; omega, sc_ints⟩)) (by rw [hsetl]; omega)
end
end Kx
set_option Elab.async false
set_option linter.all false
set_option maxRecDepth 100000
set_option maxHeartbeats 4000000
namespace Kx
open PySem PySem.Spec PyProof.Rows L2
theorem up_menu : ∀ z ∈ menuA, (Txt.upper z).length ≤ 100 := by
  have h : (menuA.all fun z => decide ((Txt.upper z).length ≤ 100)) = true := by decide +kernel
  exact fun z hz => of_decide_eq_true (List.all_eq_true.mp h z hz)
theorem up_one : ∀ c ∈ lettersL, (Txt.upper ⟨#[c]⟩).length ≤ 100 := by
  have h : (lettersL.all fun c => decide ((Txt.upper ⟨#[c]⟩).length ≤ 100)) = true := by decide +kernel
  exact fun z hz => of_decide_eq_true (List.all_eq_true.mp h z hz)
theorem menu_letters : ∀ z ∈ menuA, ∀ c ∈ z.cps.toList, c ∈ lettersL := by
  have h : (menuA.all fun z => z.cps.toList.all fun c => decide (c ∈ lettersL)) = true := by decide +kernel
  exact fun z hz c hc => of_decide_eq_true (List.all_eq_true.mp (List.all_eq_true.mp h z hz) c hc)
theorem menu_nodup : ∀ z ∈ menuA, z.cps.toList.Nodup := by
  have h : (menuA.all fun z => decide z.cps.toList.Nodup) = true := by decide +kernel
  exact fun z hz => of_decide_eq_true (List.all_eq_true.mp h z hz)
theorem tris_at {H : Hp} {v : V} {trs : List Tri} (h : Rp H v (.list (trs.map encTri))) : ∃ p xs, v = .ref p ∧ H p = some (.lst xs) ∧ xs.length = trs.length ∧ ∀ (i : Nat) (t : Tri), trs[i]? = some t → ∃ c, xs[i]? = some (.ref c) ∧ H c = some (.tup (triV t)) := by
  cases h with
  | @lst p xs _ hp hx =>
    have hl := hx.length
    rw [List.length_map] at hl
    refine ⟨p, xs, rfl, hp, hl, fun i t hr => ?_⟩
    have hix : i < xs.length := by have := (List.getElem?_eq_some_iff.mp hr).1; omega
    obtain ⟨d, hd, rd⟩ := hx.get (i := i) (List.getElem?_eq_getElem hix)
    rw [List.getElem?_map, hr] at hd
    cases hd
    unfold encTri at rd
    rw [List.getElem?_eq_getElem hix]
    generalize xs[i] = y at rd
    cases rd with
    | tup e h =>
      cases h with
      | cons r0 h1 => cases h1 with
        | cons r1 h2 => cases h2 with
          | cons r2 h3 =>
            cases h3
            cases r0
            cases r1
            cases r2
            exact ⟨_, rfl, e⟩
/-- a triple's own tuple, not the source, not D -/
def TriRow (a B D : Addr) (al : Str) (H : Hp) (x : V) : Prop := ∃ c t, x = .ref c ∧ (c ≠ a ∧ c ≠ B) ∧ c ≠ D ∧ H c = some (.tup (triV t)) ∧ t.2.1 ∈ al.cps.toList
theorem TriRow.row {a B D : Addr} {al : Str} {H : Hp} {x : V} (h : TriRow a B D al H x) : Row a B D H x := by
  obtain ⟨c, t, e, h1, h2, h3, _⟩ := h
  refine .inr ⟨c, _, e, h1, h2, .inr h3, by simp, fun v hv => ?_⟩
  simp only [List.mem_cons, List.not_mem_nil, or_false] at hv
  rcases hv with rfl | rfl | rfl
  · trivial
  · show 1 ≤ 100000
    decide
  · trivial
theorem TriRow.of {a B D : Addr} {al : Str} {H H' : Hp} {x : V} (s : ∀ c o, c ≠ a ∧ c ≠ B → c ≠ D → H c = some o → H' c = some o) (h : TriRow a B D al H x) : TriRow a B D al H' x := by
  obtain ⟨c, t, e, h1, h2, h3, h4⟩ := h
  exact ⟨c, t, e, h1, h2, s _ _ h1 h2 h3, h4⟩
structure TrisAt (a B D : Addr) (al : Str) (H : Hp) (xs : List V) : Prop where
  at_ : H D = some (.lst xs)
  na : D ≠ a ∧ D ≠ B
  row : ∀ x ∈ xs, TriRow a B D al H x
theorem TrisAt.rows {a B D : Addr} {al : Str} {H : Hp} {xs : List V} (h : TrisAt a B D al H xs) : RowsAt a B D H xs := ⟨h.at_, h.na, fun x hx => (h.row x hx).row⟩
theorem TrisAt.fra {a B D : Addr} {al : Str} {H H' : Hp} {xs : List V} (f : Fra a H H') (h : TrisAt a B D al H xs) : TrisAt a B D al H' xs := by
  have s : ∀ c o, c ≠ a → H c = some o → H' c = some o := fun c o hc e => f.up c o (by rw [del_ne hc]; exact e)
  exact ⟨s _ _ h.na.1 h.at_, h.na, fun x hx => (h.row x hx).of fun c o h1 _ e => s c o h1.1 e⟩
theorem same_fra {a : Addr} {H H' : Hp} (h : SrcAt H a) (s : Same H H') : Fra a H H' := Fra.same h s
structure AllR (a B D : Addr) (H : Hp) (vs : List V) : Prop where
  src : SrcAt H a
  d : H D ≠ none
  b : H B ≠ none
  rows : ∀ x ∈ vs, Row a B D H x
theorem AllR.step {a B D t : Addr} {H : Hp} {us vs : List V} (A : AllR a B D H vs) (ht : H t = none) (hl : us.length ≤ 1000) (hu : ∀ v ∈ us, sc v) : AllR a B D (upd H t (.tup us)) (.ref t :: vs) := by
  have htD : t ≠ D := fun z => A.d (by rw [← z]; exact ht)
  have hta := A.src.ne ht
  have htB : t ≠ B := fun z => A.b (by rw [← z]; exact ht)
  refine ⟨A.src.same (same_upd ht), by rw [upd_ne (Ne.symm htD)]; exact A.d, by rw [upd_ne (Ne.symm htB)]; exact A.b, fun x hx => ?_⟩
  rcases List.mem_cons.mp hx with e | hx
  · rw [e]
    exact .inr ⟨t, us, rfl, ⟨hta, htB⟩, htD, .inr upd_same, hl, hu⟩
  · exact (A.rows x hx).of fun c o _ _ e => (same_upd ht) c o e
theorem AllR.same {a B D : Addr} {H H' : Hp} {vs : List V} (s : Same H H') (A : AllR a B D H vs) : AllR a B D H' vs := by
  refine ⟨A.src.same s, fun z => ?_, fun z => ?_, fun x hx => (A.rows x hx).of fun c o _ _ e => s c o e⟩
  · cases e : H D with
    | none => exact A.d e
    | some o => rw [s _ _ e] at z; cases z
  · cases e : H B with
    | none => exact A.b e
    | some o => rw [s _ _ e] at z; cases z
theorem AllR.drawn {a B D : Addr} {H : Hp} {vs : List V} (A : AllR a B D H vs) (hD : D ≠ a) (hB : B ≠ a) (x y z : Int) : AllR a B D (upd H a (three x y z)) vs :=
  ⟨⟨x, y, z, upd_same⟩, by rw [upd_ne hD]; exact A.d, by rw [upd_ne hB]; exact A.b, fun v hv => (A.rows v hv).of fun c o h1 _ e => by rw [upd_ne h1.1]; exact e⟩
theorem upd_at {H : Hp} {L : Addr} {o : HO} (_ : H L = none) : upd H L o L = some o := upd_same
theorem drawn_keep {a L : Addr} {H : Hp} {o : HO} (h : H L = some o) (hn : L ≠ a) (x y z : Int) : upd H a (three x y z) L = some o := by rw [upd_ne hn]; exact h
theorem sc_one (c : Nat) : sc (.str ⟨#[c]⟩) := by
  show 1 ≤ 100000
  decide
theorem sc_tri (t : Tri) : ∀ v ∈ ([.int (t.1 : Nat), .str ⟨#[t.2.1]⟩, .int (t.2.2 : Nat)] : List V), sc v := fun v hv => by
  simp only [List.mem_cons, List.not_mem_nil, or_false] at hv
  rcases hv with rfl | rfl | rfl
  · trivial
  · exact sc_one _
  · trivial
section
variable {P : Program} {w : World} {K : PySem.W.Frag} {mg : Str → Option Value} {base : Heap}
def sp_law_bad_marked : Sp := fun vs H Q _ => ∃ (a B : Addr) (zs : List V) (al : Str) (lf rg : Int) (v : V) (trs : List Tri), vs = [.ref a, .str al, .int lf, .int rg, v] ∧ del H a B = some (.lst zs) ∧ Rp (del H a) v (.list (trs.map encTri)) ∧ trs.length ≤ 12800 ∧ (∀ t ∈ trs, t.2.1 ∈ al.cps.toList) ∧ al ∈ menuA ∧ SrcAt H a ∧
  ∀ H' t d, Fra a H H' → Rp (del (del H' a) B) t d → smallM d → Q t H'
theorem ok_law_bad_marked (T : Txt K mg) : Cal P w K mg base CX0 2 "_law_bad_marked" ["_law_source_here", "_law_alphabet_here", "_law_lefts", "_law_rights", "_law_marked_here"] sp_law_bad_marked := by
  obtain ⟨fd, F⟩ := F__law_bad_marked T
  refine cal_mk F (g__law_bad_marked T) sc__law_bad_marked (fun _ _ _ _ _ _ us hl => match us, hl with | [_, _, _, _, _], _ => rfl) (fun vs H Q E h => ?_) (fun cdv A outer s H vs Q E hr h => ?_)
  · obtain ⟨a, B, zs, al, lf, rg, v, trs, rfl, _⟩ := h; rfl
  · obtain ⟨a, B, zs, al, lf, rg, v, trs, rfl, hBx, rv, hlen, hlt, hal, hs, q⟩ := h
    obtain ⟨p, xs, rfl, hp, hxl, hsrc⟩ := tris_at rv
    have hal1 := menu_len al hal
    have hBa : B ≠ a := fun z => by rw [z, del_same] at hBx; cases hBx
    have hnB : ∀ {H'}, Fra a H H' → H' B ≠ none := fun f z => by rw [f.up _ _ hBx] at z; cases z
    have hsz : al.cps.toList.length = al.length := Array.length_toList
    obtain ⟨c0, hc0⟩ : ∃ c, al.cps.toList[0]? = some c := ⟨_, List.getElem?_eq_getElem (by omega)⟩
    have hc0m : c0 ∈ al.cps.toList := List.mem_of_getElem? hc0
    have hz : al.length ≤ sizeLine := Nat.le_trans hal1.2 (by decide)
    -- behind the copy
    obtain ⟨tl, htl, hq⟩ : ∃ tl : TS, PSs (cxOf CX0 P w K mg base N__law_bad_marked "_law_bad_marked" (defScope s__law_bad_marked) (He.ga K "_law_bad_marked") cdv A outer s H E).nox ((defBody s__law_bad_marked).drop 4) tl ∧
        ∀ (H2 : Hp) (D : Addr) (w : Nat) (ys : List V), Fra a H H2 → H D = none → TrisAt a B D al H2 ys → 1 ≤ ys.length → ys.length ≤ 12900 →
          tl { nx := fun _ H' => Q .non H', rt := Q } [some (.ref a), some (.str al), some (.int lf), some (.int rg), some (.ref p), some (.int (w : Nat)), some (.ref D), none, none, none, none, none] H2 := by
      refine ⟨_, (pss_cons (ps_set (i := 7) sc__law_bad_marked.nd rfl (Or.inl rfl) (pe_cal (ok_law_pick T) (hr.mono (by decide)) pass0 (pa_cons (pv 0) (pa_cons (pe_callB call_len (by rfl) (fr_len T) boot_len (pa_cons (pv 6) pa_nil)) pa_nil))))
        (pss_cons (ps_asg (pe_ix ix_list (pv 6) (pv 7) (fun _ _ => rfl)) (pg_tup rfl (pgs_cons (pg_name (i := 8) sc__law_bad_marked.nd rfl (Or.inl rfl)) (pgs_cons (pg_name (i := 9) sc__law_bad_marked.nd rfl (Or.inl rfl)) (pgs_cons (pg_name (i := 10) sc__law_bad_marked.nd rfl (Or.inl rfl)) pgs_nil)))))
        (pss_cons (ps_if (pt_cmpR op_lt (pv 5) pe_int (nomark _)) (pss_one (ps_expr (pe_bm PySem.F.plainAttrs_list PySem.F.slot_list_insert PySem.F.type_list_insert mt_insert (pv 6) (pa_cons (pv 7) (pa_cons (pe_tup (pa_cons (pv 8) (pa_cons (pv 9) (pa_cons (pv 10) pa_nil)))) pa_nil))))) (pss_one (ps_if (pt_cmpR op_eq (pv 5) pe_int (nomark _)) (pss_one (ps_set (i := 6) sc__law_bad_marked.nd rfl (Or.inl rfl) (pe_lstRev rfl (by rfl) (fr_list T) (by rfl) (fr_reversed T) (pe_callTy call_list_of (by rfl) (fr_list T) b_list (pa_cons (pv 6) pa_nil))))) (pss_one (ps_if (pt_cmpR op_eq (pv 5) pe_int (nomark _)) (pss_one (ps_asg (pe_lst (pa_cons (pv 8) (pa_cons (pv 9) (pa_cons (pv 10) pa_nil)))) (pg_sub (pv 6) (pv 7) set_list))) (pss_one (ps_if (pt_cmpR op_lt (pv 5) pe_int (nomark _)) (pss_one (ps_asg (pe_ix ix_list (pe_lst (pa_cons pe_non (pa_cons (pe_tup (pa_cons (pv 8) (pa_cons (pv 9) pa_nil))) (pa_cons (pe_tup (pa_cons (pv 8) (pa_cons (pv 9) (pa_cons (pv 10) (pa_cons (pv 10) pa_nil))))) (pa_cons pe_str (pa_cons (pe_tup (pa_cons (pv 2) (pa_cons (pv 9) (pa_cons (pv 10) pa_nil)))) (pa_cons (pe_tup (pa_cons (pv 8) (pa_cons (pv 9) (pa_cons (pv 3) pa_nil)))) (pa_cons (pe_tup (pa_cons (pe_un un_neg pe_int) (pa_cons (pv 9) (pa_cons (pv 10) pa_nil)))) (pa_cons (pe_tup (pa_cons (pv 8) (pa_cons (pv 9) (pa_cons (pe_un un_neg pe_int) pa_nil)))) (pa_cons (pe_tup (pa_cons pe_bl (pa_cons (pv 9) (pa_cons (pv 10) pa_nil)))) (pa_cons (pe_tup (pa_cons (pv 8) (pa_cons (pv 9) (pa_cons pe_bl pa_nil)))) (pa_cons (pe_tup (pa_cons (pv 8) (pa_cons (pv 9) (pa_cons pe_non pa_nil)))) (pa_cons (pe_tup (pa_cons pe_str (pa_cons (pv 9) (pa_cons (pv 10) pa_nil)))) pa_nil))))))))))))) (pe_cal (ok_law_pick T) (hr.mono (by decide)) pass0 (pa_cons (pv 0) (pa_cons pe_int pa_nil))) (fun _ _ => rfl)) (pg_sub (pv 6) (pv 7) set_list))) (pss_one (ps_asg (pe_tup (pa_cons (pv 8) (pa_cons (pe_ix ix_list (pe_lst (pa_cons pe_str (pa_cons pe_str (pa_cons (pe_op op_add_str (pv 9) (pv 9)) (pa_cons (pe_upper (pv 9)) (pa_cons pe_non (pa_cons pe_int (pa_cons (pv 1) pa_nil)))))))) (pe_cal (ok_law_pick T) (hr.mono (by decide)) pass0 (pa_cons (pv 0) (pa_cons pe_int pa_nil))) (fun _ _ => rfl)) (pa_cons (pv 10) pa_nil)))) (pg_sub (pv 6) (pv 7) set_list))))))))))
        (pss_one (ps_ret (pv 6)))))), ?_⟩
      intro H2 D w ys f2 hD TA hy1 hyl
      refine ⟨.ref a, rfl, .ref D, rfl, _, _, rfl, lenV_sq (.inl TA.at_) rfl, a, _, rfl, by omega, by omega, f2.src, fun A3 S3 C3 d hd0 hd1 => ?_⟩
      have f3 : Fra a H2 (upd H2 a (three A3 S3 C3)) := Fra.drawn A3 S3 C3
      generalize upd H2 a (three A3 S3 C3) = H3 at f3 ⊢
      obtain ⟨k, rfl⟩ := Int.eq_ofNat_of_zero_le hd0
      have hk : k < ys.length := by omega
      have T3 := TA.fra f3
      have f13 := f2.trans f3
      have hDa := TA.na.1
      have hyk : ys[k]? = some ys[k] := List.getElem?_eq_getElem hk
      obtain ⟨c, t, hc1, hca, hcD, hct, hcm⟩ := T3.row ys[k] (List.getElem_mem hk)
      refine ⟨.ref D, rfl, .int (k : Nat), rfl, D, ys, _, _, rfl, rfl, SqL.of T3.at_, atI_nat hyk, c, _, hc1, SqT.of hct, rfl, _, _, rfl, _, _, rfl, _, _, rfl, rfl, ?_⟩
      have hix : ixN ys.length (k : Nat) = some k := by
        unfold ixN
        rw [if_pos (by omega), if_pos (by omega), Int.toNat_natCast]
      have fin : ∀ (H4 : Hp) (D' : Addr) (zs : List V), Fra a H H4 → RowsAt a B D' H4 zs → zs.length ≤ 13000 → Q (.ref D') H4 := fun H4 D' zs f R hz => by
        obtain ⟨d, rd, _, sd⟩ := R.data (by omega)
        exact q H4 _ d f rd sd
      have fraD : ∀ (H4 : Hp) (o : HO), Fra a H H4 → Fra a H (upd H4 D o) := fun H4 o f => f.over hD hDa
      have setRow : ∀ (H4 : Hp) (x : V), RowsAt a B D H4 ys → Row a B D H4 x → RowsAt a B D (upd H4 D (.lst (ys.set k x))) (ys.set k x) := fun H4 x R hx => by
        have keep : ∀ y, Row a B D H4 y → Row a B D (upd H4 D (.lst (ys.set k x))) y := fun y hy => hy.of fun c o _ h2 e => by rw [upd_ne h2]; exact e
        refine ⟨upd_same, R.na, fun y hy => ?_⟩
        rcases List.mem_or_eq_of_mem_set hy with hy | hy
        · exact keep y (R.row y hy)
        · rw [hy]; exact keep x hx
      have one : ∀ n : Nat, (⟨#[n]⟩ : Str).length ≤ 100000 := fun n => by show 1 ≤ 100000; decide
      refine ⟨.int (w : Nat), rfl, _, 2, rfl, rfl, _, rfl, ?_⟩
      cases hw2 : decide (((w : Nat) : Int) < 2) with
      | true =>
        refine iteT ⟨.ref D, rfl, .inl ⟨rfl, _, SqL.of T3.at_⟩, .int (k : Nat), rfl, _, rfl, _, rfl, _, rfl, (by show 3 ≤ sizeLine; decide), fun p2 hp2 => ?_⟩
        have A4 := (AllR.mk f13.src (fun z => by rw [T3.at_] at z; cases z) (hnB f13) (fun x hx => by cases hx) : AllR a B D H3 []).step hp2 (us := [.int (t.1 : Nat), .str ⟨#[t.2.1]⟩, .int (t.2.2 : Nat)]) (by simp) (sc_tri t)
        have s4 := same_upd (o := .tup [.int (t.1 : Nat), .str ⟨#[t.2.1]⟩, .int (t.2.2 : Nat)]) hp2
        have R4 := (T3.rows).fra (Fra.same f13.src s4)
        have f4 := f13.trans (Fra.same f13.src s4)
        generalize upd H3 p2 (.tup [.int (t.1 : Nat), .str ⟨#[t.2.1]⟩, .int (t.2.2 : Nat)]) = H4 at A4 R4 f4 ⊢
        refine ⟨D, ys, (k : Nat), .ref p2, rfl, rfl, R4.at_, Nat.lt_of_lt_of_le (by omega : ys.length < 13000) (by decide), by omega, by omega, .ref D, rfl, ?_⟩
        have keep : ∀ y, Row a B D H4 y → Row a B D (upd H4 D (.lst (ys.take ((k : Nat) : Int).toNat ++ [.ref p2] ++ ys.drop ((k : Nat) : Int).toNat))) y := fun y hy => hy.of fun c o _ h2 e => by rw [upd_ne h2]; exact e
        refine fin _ D _ (fraD _ _ f4) ⟨upd_same, R4.na, fun y hy => keep y ?_⟩ (by simp only [List.length_append, List.length_take, List.length_drop, List.length_cons, List.length_nil]; omega)
        rcases List.mem_append.mp hy with hy | hy
        · rcases List.mem_append.mp hy with hy | hy
          · exact R4.row y (List.mem_of_mem_take hy)
          · rw [List.mem_singleton.mp hy]; exact A4.rows _ (List.mem_cons_self ..)
        · exact R4.row y (List.mem_of_mem_drop hy)
      | false =>
      refine iteF ⟨.int (w : Nat), rfl, rfl, _, rfl, ?_⟩
      cases hwb : decide (V.int ((w : Nat) : Int) = V.int 2) with
      | true =>
        refine iteT ⟨.ref D, rfl, D, ys, rfl, .inl (SqL.of T3.at_), fun l hl => ⟨l, ys, rfl, SqL.of upd_same, fun l2 hl2 => ⟨.ref l2, rfl, ?_⟩⟩⟩
        have s4 := (same_upd (o := .lst ys) hl).trans (same_upd (o := .lst ys.reverse) hl2)
        have hl2a := (f13.src.same (same_upd (o := .lst ys) hl)).ne hl2
        have T4 := T3.fra (Fra.same f13.src s4)
        refine fin _ l2 _ (f13.trans (Fra.same f13.src s4)) ⟨upd_same, ⟨hl2a, freshB hBx (f13.trans (Fra.same f13.src (same_upd (o := .lst ys) hl))) hl2⟩, fun y hy => ?_⟩ (by rw [List.length_reverse]; omega)
        obtain ⟨c, t, e1, e2, e3, e4, e5⟩ := T3.row y (List.mem_reverse.mp hy)
        have e6 := s4 c _ e4
        refine TriRow.row (al := al) ⟨c, t, e1, e2, fun z => ?_, e6, e5⟩
        rw [z, upd_same] at e6
        cases e6
      | false =>
      refine iteF ⟨.int (w : Nat), rfl, rfl, _, rfl, ?_⟩
      cases hw3 : decide (V.int ((w : Nat) : Int) = V.int 3) with
      | true =>
        refine iteT ⟨_, rfl, _, rfl, _, rfl, (by show 3 ≤ sizeLine; decide), fun l hl => ?_⟩
        have s4 := same_upd (o := .lst [.int (t.1 : Nat), .str ⟨#[t.2.1]⟩, .int (t.2.2 : Nat)]) hl
        have hla := f13.src.ne hl
        have hlD : l ≠ D := fun e => by rw [e, T3.at_] at hl; cases hl
        have R4 := (T3.rows).fra (Fra.same f13.src s4)
        have f4 := f13.trans (Fra.same f13.src s4)
        have e4 := upd_same (H := H3) (a := l) (o := .lst [.int (t.1 : Nat), .str ⟨#[t.2.1]⟩, .int (t.2.2 : Nat)])
        generalize upd H3 l (.lst [.int (t.1 : Nat), .str ⟨#[t.2.1]⟩, .int (t.2.2 : Nat)]) = H4 at R4 f4 e4 ⊢
        refine ⟨.ref D, rfl, .int (k : Nat), rfl, D, ys, _, k, rfl, rfl, R4.at_, hix, .ref D, rfl, ?_⟩
        exact fin _ D _ (fraD _ _ f4) (setRow _ _ R4 (.inr ⟨l, _, rfl, ⟨hla, freshB hBx f13 hl⟩, hlD, .inl e4, by simp, sc_tri t⟩)) (by rw [List.length_set]; omega)
      | false =>
      refine iteF ⟨.int (w : Nat), rfl, _, 9, rfl, rfl, _, rfl, ?_⟩
      cases hw9 : decide (((w : Nat) : Int) < 9) with
      | true =>
        refine iteT ⟨_, rfl, _, rfl, (by show 2 ≤ sizeLine; decide), fun t1 ht1 => ⟨_, rfl, _, rfl, _, rfl, _, rfl, (by show 4 ≤ sizeLine; decide), fun t2 ht2 => ⟨_, rfl, _, rfl, _, rfl, (by show 3 ≤ sizeLine; decide), fun t3 ht3 => ⟨_, rfl, _, rfl, _, rfl, (by show 3 ≤ sizeLine; decide), fun t4 ht4 => ⟨1, rfl, _, rfl, _, rfl, (by show 3 ≤ sizeLine; decide), fun t5 ht5 => ⟨_, rfl, _, rfl, 1, rfl, (by show 3 ≤ sizeLine; decide), fun t6 ht6 => ⟨_, rfl, _, rfl, (by show 3 ≤ sizeLine; decide), fun t7 ht7 => ⟨_, rfl, _, rfl, (by show 3 ≤ sizeLine; decide), fun t8 ht8 => ⟨_, rfl, _, rfl, (by show 3 ≤ sizeLine; decide), fun t9 ht9 => ⟨_, rfl, _, rfl, (by show 3 ≤ sizeLine; decide), fun t10 ht10 => ⟨(by show 12 ≤ sizeLine; decide), fun L hL => ⟨.ref a, rfl, ?_⟩⟩⟩⟩⟩⟩⟩⟩⟩⟩⟩⟩
        have A0 : AllR a B D H3 [] := ⟨f13.src, (fun z => by rw [T3.at_] at z; cases z), hnB f13, fun x hx => by cases hx⟩
        have A1 := A0.step ht1 (us := [.int (t.1 : Nat), .str ⟨#[t.2.1]⟩]) (by simp) (by intro v hv; simp only [List.mem_cons, List.not_mem_nil, or_false] at hv; rcases hv with rfl | rfl; all_goals first | trivial | exact sc_one _ | (show ("0" : Str).length ≤ 100000; decide))
        have s1 := same_upd (o := .tup [.int (t.1 : Nat), .str ⟨#[t.2.1]⟩]) ht1
        have A2 := A1.step ht2 (us := [.int (t.1 : Nat), .str ⟨#[t.2.1]⟩, .int (t.2.2 : Nat), .int (t.2.2 : Nat)]) (by simp) (by intro v hv; simp only [List.mem_cons, List.not_mem_nil, or_false] at hv; rcases hv with rfl | rfl | rfl | rfl; all_goals first | trivial | exact sc_one _ | (show ("0" : Str).length ≤ 100000; decide))
        have s2 := s1.trans (same_upd (o := .tup [.int (t.1 : Nat), .str ⟨#[t.2.1]⟩, .int (t.2.2 : Nat), .int (t.2.2 : Nat)]) ht2)
        have A3 := A2.step ht3 (us := [.int lf, .str ⟨#[t.2.1]⟩, .int (t.2.2 : Nat)]) (by simp) (by intro v hv; simp only [List.mem_cons, List.not_mem_nil, or_false] at hv; rcases hv with rfl | rfl | rfl; all_goals first | trivial | exact sc_one _ | (show ("0" : Str).length ≤ 100000; decide))
        have s3 := s2.trans (same_upd (o := .tup [.int lf, .str ⟨#[t.2.1]⟩, .int (t.2.2 : Nat)]) ht3)
        have A4 := A3.step ht4 (us := [.int (t.1 : Nat), .str ⟨#[t.2.1]⟩, .int rg]) (by simp) (by intro v hv; simp only [List.mem_cons, List.not_mem_nil, or_false] at hv; rcases hv with rfl | rfl | rfl; all_goals first | trivial | exact sc_one _ | (show ("0" : Str).length ≤ 100000; decide))
        have s4 := s3.trans (same_upd (o := .tup [.int (t.1 : Nat), .str ⟨#[t.2.1]⟩, .int rg]) ht4)
        have A5 := A4.step ht5 (us := [.int (-1), .str ⟨#[t.2.1]⟩, .int (t.2.2 : Nat)]) (by simp) (by intro v hv; simp only [List.mem_cons, List.not_mem_nil, or_false] at hv; rcases hv with rfl | rfl | rfl; all_goals first | trivial | exact sc_one _ | (show ("0" : Str).length ≤ 100000; decide))
        have s5 := s4.trans (same_upd (o := .tup [.int (-1), .str ⟨#[t.2.1]⟩, .int (t.2.2 : Nat)]) ht5)
        have A6 := A5.step ht6 (us := [.int (t.1 : Nat), .str ⟨#[t.2.1]⟩, .int (-1)]) (by simp) (by intro v hv; simp only [List.mem_cons, List.not_mem_nil, or_false] at hv; rcases hv with rfl | rfl | rfl; all_goals first | trivial | exact sc_one _ | (show ("0" : Str).length ≤ 100000; decide))
        have s6 := s5.trans (same_upd (o := .tup [.int (t.1 : Nat), .str ⟨#[t.2.1]⟩, .int (-1)]) ht6)
        have A7 := A6.step ht7 (us := [.bl true, .str ⟨#[t.2.1]⟩, .int (t.2.2 : Nat)]) (by simp) (by intro v hv; simp only [List.mem_cons, List.not_mem_nil, or_false] at hv; rcases hv with rfl | rfl | rfl; all_goals first | trivial | exact sc_one _ | (show ("0" : Str).length ≤ 100000; decide))
        have s7 := s6.trans (same_upd (o := .tup [.bl true, .str ⟨#[t.2.1]⟩, .int (t.2.2 : Nat)]) ht7)
        have A8 := A7.step ht8 (us := [.int (t.1 : Nat), .str ⟨#[t.2.1]⟩, .bl false]) (by simp) (by intro v hv; simp only [List.mem_cons, List.not_mem_nil, or_false] at hv; rcases hv with rfl | rfl | rfl; all_goals first | trivial | exact sc_one _ | (show ("0" : Str).length ≤ 100000; decide))
        have s8 := s7.trans (same_upd (o := .tup [.int (t.1 : Nat), .str ⟨#[t.2.1]⟩, .bl false]) ht8)
        have A9 := A8.step ht9 (us := [.int (t.1 : Nat), .str ⟨#[t.2.1]⟩, .non]) (by simp) (by intro v hv; simp only [List.mem_cons, List.not_mem_nil, or_false] at hv; rcases hv with rfl | rfl | rfl; all_goals first | trivial | exact sc_one _ | (show ("0" : Str).length ≤ 100000; decide))
        have s9 := s8.trans (same_upd (o := .tup [.int (t.1 : Nat), .str ⟨#[t.2.1]⟩, .non]) ht9)
        have A10 := A9.step ht10 (us := [.str "0", .str ⟨#[t.2.1]⟩, .int (t.2.2 : Nat)]) (by simp) (by intro v hv; simp only [List.mem_cons, List.not_mem_nil, or_false] at hv; rcases hv with rfl | rfl | rfl; all_goals first | trivial | exact sc_one _ | (show ("0" : Str).length ≤ 100000; decide))
        have s10 := s9.trans (same_upd (o := .tup [.str "0", .str ⟨#[t.2.1]⟩, .int (t.2.2 : Nat)]) ht10)
        generalize hlst : ([.non, .ref t1, .ref t2, .str "0a0", .ref t3, .ref t4, .ref t5, .ref t6, .ref t7, .ref t8, .ref t9, .ref t10] : List V) = lst at hL ⊢
        have sL := s10.trans (same_upd (o := .lst lst) hL)
        have AL := A10.same (same_upd (o := .lst lst) hL)
        have eL := upd_at (o := .lst lst) hL
        have hLa := A10.src.ne hL
        have f4 := f13.trans (Fra.same f13.src sL)
        have R4 := (T3.rows).fra (Fra.same f13.src sL)
        have hall : ∀ x ∈ lst, sc x ∨ x ∈ ([.ref t10, .ref t9, .ref t8, .ref t7, .ref t6, .ref t5, .ref t4, .ref t3, .ref t2, .ref t1] : List V) := by
          rw [← hlst]
          intro x hx
          simp only [List.mem_cons, List.not_mem_nil, or_false] at hx ⊢
          rcases hx with rfl | rfl | rfl | rfl | rfl | rfl | rfl | rfl | rfl | rfl | rfl | rfl
          all_goals first | exact .inl trivial | (refine .inl ?_; show ("0a0" : Str).length ≤ 100000; decide) | simp
        have hln : lst.length = 12 := by rw [← hlst]; rfl
        refine ⟨a, _, rfl, by omega, by omega, f4.src, fun A5 S5 C5 d hd0 hd1 => ?_⟩
        have f5 := f4.trans (Fra.drawn A5 S5 C5)
        have eL5 := drawn_keep eL hLa A5 S5 C5
        have AL5 := AL.drawn hDa hBa A5 S5 C5
        have R5 := R4.fra (Fra.drawn A5 S5 C5)
        obtain ⟨m, rfl⟩ := Int.eq_ofNat_of_zero_le hd0
        have hm : m < lst.length := by omega
        refine ⟨L, _, _, lst[m], rfl, rfl, SqL.of eL5, atI_nat (List.getElem?_eq_getElem hm), .ref D, rfl, .int (k : Nat), rfl, D, ys, _, k, rfl, rfl, R5.at_, hix, .ref D, rfl, ?_⟩
        refine fin _ D _ (fraD _ _ f5) (setRow _ _ R5 ?_) (by rw [List.length_set]; omega)
        rcases hall _ (List.getElem_mem hm) with h | h
        · exact .inl h
        · exact AL5.rows _ h
      | false =>
        have hul : (Txt.upper ⟨#[t.2.1]⟩).length ≤ 100 := up_one _ (menu_letters al hal _ hcm)
        have hz5 : al.length ≤ 100000 := Nat.le_trans hal1.2 (by decide)
        refine iteF ⟨_, rfl, _, rfl, _, rfl, _, _, rfl, rfl, (by show 1 + 1 ≤ sizeLine; decide), _, rfl, ⟨_, rfl⟩, _, rfl, rfl, (by show 1 ≤ 5592405; decide), .str al, rfl, (by show 7 ≤ sizeLine; decide), fun L hL => ⟨.ref a, rfl, ?_⟩⟩
        generalize hlst : ([.str "z", .str "", .str ((⟨#[t.2.1]⟩ : Str) ++ ⟨#[t.2.1]⟩), .str (Txt.upper ⟨#[t.2.1]⟩), .non, .int 0, .str al] : List V) = lst at hL ⊢
        have hall : ∀ x ∈ lst, sc x := by
          rw [← hlst]
          intro x hx
          simp only [List.mem_cons, List.not_mem_nil, or_false] at hx
          rcases hx with rfl | rfl | rfl | rfl | rfl | rfl | rfl
          · show ("z" : Str).length ≤ 100000; decide
          · show ("" : Str).length ≤ 100000; decide
          · show ((⟨#[t.2.1]⟩ : Str) ++ ⟨#[t.2.1]⟩).length ≤ 100000
            show 2 ≤ 100000
            decide
          · show (Txt.upper ⟨#[t.2.1]⟩).length ≤ 100000
            omega
          · trivial
          · trivial
          · exact hz5
        have hln : lst.length = 7 := by rw [← hlst]; rfl
        have sL := same_upd (o := .lst lst) hL
        have eL := upd_at (o := .lst lst) hL
        have hLa := f13.src.ne hL
        have f4 := f13.trans (Fra.same f13.src sL)
        have R4 := (T3.rows).fra (Fra.same f13.src sL)
        refine ⟨a, _, rfl, by omega, by omega, f4.src, fun A5 S5 C5 d hd0 hd1 => ?_⟩
        have f5 := f4.trans (Fra.drawn A5 S5 C5)
        have eL5 := drawn_keep eL hLa A5 S5 C5
        have R5 := R4.fra (Fra.drawn A5 S5 C5)
        obtain ⟨m, rfl⟩ := Int.eq_ofNat_of_zero_le hd0
        have hm : m < lst.length := by omega
        refine ⟨L, _, _, lst[m], rfl, rfl, SqL.of eL5, atI_nat (List.getElem?_eq_getElem hm), _, rfl, (by show 3 ≤ sizeLine; decide), fun l hl => ?_⟩
        have A6 := (AllR.mk f5.src (fun z => by rw [R5.at_] at z; cases z) (hnB f5) (fun x hx => by cases hx) : AllR a B D _ []).step hl (us := [.int (t.1 : Nat), lst[m], .int (t.2.2 : Nat)]) (by simp) (by
          intro v hv
          simp only [List.mem_cons, List.not_mem_nil, or_false] at hv
          rcases hv with rfl | rfl | rfl
          · trivial
          · exact hall _ (List.getElem_mem hm)
          · trivial)
        have s6 := same_upd (o := .tup [.int (t.1 : Nat), lst[m], .int (t.2.2 : Nat)]) hl
        have f6 := f5.trans (Fra.same f5.src s6)
        have R6 := R5.fra (Fra.same f5.src s6)
        refine ⟨.ref D, rfl, .int (k : Nat), rfl, D, ys, _, k, rfl, rfl, R6.at_, hix, .ref D, rfl, ?_⟩
        exact fin _ D _ (fraD _ _ f6) (setRow _ _ R6 (A6.rows _ (List.mem_cons_self ..))) (by rw [List.length_set]; omega)
    refine ⟨_, PSs.nox (pss_cons (ps_set (i := 5) sc__law_bad_marked.nd rfl (Or.inl rfl) (pe_cal (ok_law_pick T) (hr.mono (by decide)) pass0 (pa_cons (pv 0) (pa_cons pe_int pa_nil))))
        (pss_cons (ps_if (pt_cmpR op_eq (pv 5) pe_int (nomark _)) (pss_one (ps_ret (pe_ix ix_list (pe_lst (pa_cons pe_non (pa_cons pe_int (pa_cons pe_str (pa_cons pe_dnewK pa_nil))))) (pe_cal (ok_law_pick T) (hr.mono (by decide)) pass0 (pa_cons (pv 0) (pa_cons pe_int pa_nil))) (fun _ _ => rfl)))) pss_nil)
        (pss_cons (ps_setLc (i := 6) (te := tVar 11) (own := [("_law_triple", 11)]) (g := (gName 11)) (tt := tYes) rfl sc__law_bad_marked.nd rfl rfl (sw_true rfl rfl rfl (by decide +kernel)) (pi_list (pv 4)) (blkOk_by (N := N__law_bad_marked) (sc := defScope s__law_bad_marked) (by decide +kernel)) (fun _ _ _ _ _ => (pg_name (i := 11) sc__law_bad_marked.nd rfl (Or.inl rfl))) (fun _ _ _ _ _ => pts_nil) (fun _ _ _ _ _ => (pv 11)))
        (pss_cons (ps_if (PW.pt (pw_or (pt_cmpR op_eq (pe_callB call_len (by rfl) (fr_len T) boot_len (pa_cons (pv 6) pa_nil)) pe_int (nomark _)) (pw_or1 (pt_cmpR op_eq (pv 5) pe_int (nomark _))))) (pss_one (ps_expr (pe_bm PySem.F.plainAttrs_list PySem.F.slot_list_append PySem.F.type_list_append mt_append (pv 6) (pa_cons (pe_tup (pa_cons pe_int (pa_cons (pe_ix ix_seq (pv 1) pe_int (fun _ _ => rfl)) (pa_cons pe_int pa_nil)))) pa_nil)))) pss_nil)
        htl)))), ?_⟩
    refine ⟨.ref a, rfl, a, _, rfl, by omega, by omega, hs, fun A1 S1 C1 d hd0 hd1 => ?_⟩
    have f1 : Fra a H (upd H a (three A1 S1 C1)) := Fra.drawn A1 S1 C1
    generalize upd H a (three A1 S1 C1) = H1 at f1 ⊢
    obtain ⟨w, rfl⟩ := Int.eq_ofNat_of_zero_le hd0
    refine ⟨.int (w : Nat), rfl, rfl, _, rfl, ?_⟩
    cases hw5 : decide (V.int ((w : Nat) : Int) = V.int 5) with
    | true =>
      refine iteT fun l hl => ⟨(by show 4 ≤ sizeLine; decide), fun L hL => ⟨.ref a, rfl, ?_⟩⟩
      have g1 := same_upd (o := .dK []) hl
      have g2 := same_upd (o := .lst [.non, .int 0, .str "0a0", .ref l]) hL
      have hla := f1.src.ne hl
      have hLa := (f1.src.same g1).ne hL
      have eL := upd_at (o := .lst [.non, .int 0, .str "0a0", .ref l]) hL
      have el := g2 _ _ (upd_at (o := .dK []) hl)
      have f2 := f1.trans (Fra.same f1.src (g1.trans g2))
      refine ⟨a, _, rfl, by omega, by omega, f2.src, fun A2 S2 C2 d hd0 hd1 => ?_⟩
      have f3 := f2.trans (Fra.drawn A2 S2 C2)
      have eL3 := drawn_keep eL hLa A2 S2 C2
      have el3 := drawn_keep el hla A2 S2 C2
      generalize upd (upd (upd H1 l (.dK [])) L (.lst [.non, .int 0, .str "0a0", .ref l])) a (three A2 S2 C2) = H5 at f3 eL3 el3 ⊢
      obtain ⟨m, rfl⟩ := Int.eq_ofNat_of_zero_le hd0
      obtain ⟨x, hx, e, re, se⟩ : ∃ x, ([V.non, .int 0, .str "0a0", .ref l] : List V)[m]? = some x ∧ ∃ e, Rp (del (del H5 a) B) x e ∧ smallM e := by
        match m, (show m < 4 by omega) with
        | 0, _ => exact ⟨_, rfl, _, .non, fun ds h => by cases h⟩
        | 1, _ => exact ⟨_, rfl, _, .int 0, fun ds h => by cases h⟩
        | 2, _ => exact ⟨_, rfl, _, .str "0a0", fun ds h => by cases h⟩
        | 3, _ => exact ⟨_, rfl, _, .dct (by rw [del_ne (freshB hBx f1 hl), del_ne hla]; exact el3), fun ds h => by cases h⟩
      exact ⟨L, _, _, x, rfl, rfl, SqL.of eL3, atI_nat hx, q _ x e f3 re se⟩
    | false =>
    have hp1 := f1.up p _ hp
    refine iteF ⟨.ref p, rfl, p, rfl, ⟨xs, SqL.of hp1⟩, fun D hD => ?_⟩
    have hDa := f1.src.ne hD
    refine lc_it walk_list (tt := tYes) (fun i H2 => H2 D = some (.lst (xs.take i)) ∧ Same H1 H2) ⟨by rw [upd_same, List.take_zero], same_upd hD⟩ (fun i H2 _ ⟨_, s⟩ => SqL.of (s _ _ hp1)) ?_ ?_
    · rintro i x H3 H4 hi ⟨h3, s3⟩ ⟨eH, hxi⟩
      replace eH := eH.symm
      subst eH
      refine ⟨rfl, x, rfl, xs.take i, h3, ?_, ?_, ?_⟩
      · rw [List.length_take]
        exact Nat.lt_of_lt_of_le (by omega : min i xs.length < 13000) (by decide)
      · rw [upd_same, List.take_succ, hxi]
        rfl
      · intro c o e
        rw [upd_ne (ne_of_none e hD)]
        exact s3 c o e
    rintro H3 ⟨h3, s3⟩
    rw [List.take_length] at h3
    have f3 := f1.trans (Fra.same f1.src s3)
    have hD0 : H D = none := f1.none hDa hD
    have T3 : TrisAt a B D al H3 xs := by
      refine ⟨h3, ⟨hDa, freshB hBx f1 hD⟩, fun x hx => ?_⟩
      obtain ⟨i, hi⟩ := List.mem_iff_getElem?.mp hx
      have hil := (List.getElem?_eq_some_iff.mp hi).1
      obtain ⟨c, h1, h2⟩ := hsrc i trs[i] (List.getElem?_eq_getElem (by omega))
      rw [hi] at h1
      have h4 := f1.up c _ h2
      refine ⟨c, trs[i], Option.some.inj h1, ⟨?_, fun z => by rw [z, hBx] at h2; cases h2⟩, fun z => ?_, s3 _ _ h4, hlt _ (List.getElem_mem (by omega))⟩
      · intro z
        rw [z, del_same] at h2
        cases h2
      · rw [z, hD] at h4
        cases h4
    refine ⟨.ref D, rfl, _, xs.length, rfl, lenV_sq (.inl h3) rfl, rfl, _, rfl, ?_⟩
    have app : 1 ≤ xs.length ∨ True → ∀ (Qn : L2.St → Hp → Prop) (σ : L2.St), (∀ H4 ys, Fra a H H4 → TrisAt a B D al H4 ys → 1 ≤ ys.length → ys.length ≤ 12900 → Qn σ H4) →
        ∀ t, H3 t = none → ∃ l us y, V.ref D = .ref l ∧ [V.ref t] = [y] ∧ upd H3 t (.tup [.int 0, .str ⟨#[c0]⟩, .int 0]) l = some (.lst us) ∧ us.length < sizeLine ∧ Qn σ (upd (upd H3 t (.tup [.int 0, .str ⟨#[c0]⟩, .int 0])) l (.lst (us ++ [y]))) := by
      intro _ Qn σ hQ t ht
      have htD : t ≠ D := fun z => by rw [z, h3] at ht; cases ht
      have hta := f3.src.ne ht
      have s4 := same_upd (o := .tup [.int 0, .str ⟨#[c0]⟩, .int 0]) ht
      refine ⟨D, xs, .ref t, rfl, rfl, s4 _ _ h3, Nat.lt_of_lt_of_le (by omega : xs.length < 13000) (by decide), ?_⟩
      have f4 := f3.trans (Fra.same f3.src s4)
      refine hQ _ _ (f4.over hD0 hDa) ⟨upd_same, T3.na, fun x hx => ?_⟩ (by rw [List.length_append]; simp) (by rw [List.length_append]; show xs.length + 1 ≤ 12900; omega)
      rcases List.mem_append.mp hx with hx | hx
      · exact (T3.row x hx).of fun c o _ h2 e => by rw [upd_ne h2]; exact s4 c o e
      · rw [List.mem_singleton.mp hx]
        exact ⟨t, (0, c0, 0), rfl, ⟨hta, freshB hBx f3 ht⟩, htD, by rw [upd_ne htD, upd_same]; rfl, hc0m⟩
    cases hx0 : decide (V.int ((xs.length : Nat) : Int) = V.int 0) with
    | true =>
      refine iteT (iteT ⟨.ref D, rfl, .inl ⟨rfl, _, SqL.of h3⟩, .str al, rfl, .inr (.inr ⟨al, _, c0, rfl, rfl, hz, atI_nat (j := 0) hc0, (by show 3 ≤ sizeLine; decide), fun t ht => ?_⟩)⟩)
      exact app (.inr trivial) _ _ (fun H4 ys f T h1 h2 => hq H4 D w ys f hD0 T h1 h2) t ht
    | false =>
      refine iteF ⟨.int (w : Nat), rfl, rfl, _, rfl, ?_⟩
      cases hw7 : decide (V.int ((w : Nat) : Int) = V.int 7) with
      | true =>
        refine iteT ⟨.ref D, rfl, .inl ⟨rfl, _, SqL.of h3⟩, .str al, rfl, .inr (.inr ⟨al, _, c0, rfl, rfl, hz, atI_nat (j := 0) hc0, (by show 3 ≤ sizeLine; decide), fun t ht => ?_⟩)⟩
        exact app (.inr trivial) _ _ (fun H4 ys f T h1 h2 => hq H4 D w ys f hD0 T h1 h2) t ht
      | false =>
        refine iteF (hq H3 D w xs f3 hD0 T3 ?_ (by omega))
        have : xs.length ≠ 0 := fun z => by
          rw [z] at hx0
          exact absurd hx0 (by decide)
        omega
end
end Kx
set_option Elab.async false
set_option linter.all false
set_option maxRecDepth 100000
set_option maxHeartbeats 4000000
namespace Kx
open PySem PySem.Spec PyProof.Rows L2
/-! ### list(x), x a text -/
def signsV (z : Str) : List V := z.cps.toList.map fun c => V.str ⟨#[c]⟩
theorem call_listS {X : Cx} (hc : X.calm = true) : CallR X (.type "list") (fun xs H Q => ∃ z, xs = [.str z] ∧ z.length ≤ sizeLine ∧ ∀ q, H q = none → Q (.ref q) (upd H q (.lst (signsV z)))) := by
  intro pins s σ H xs us Q I r h
  obtain ⟨z, rfl, hz, q⟩ := h
  obtain ⟨u, rfl, ru⟩ := vals1 r
  obtain ⟨t, rfl⟩ := ru
  refine call_list_str (I.ok.hd hc) z t (fun h' tk acc c' hk e hi => ?_) hz
  have hl : (signsV z).length = z.cps.size := by unfold signsV; rw [List.length_map, Array.length_toList]
  refine ⟨.ref s.heap.objs.size, upd H s.heap.objs.size (.lst (signsV z)), I.laid hk (Nat.le_refl _) ⟨by rw [hl]; exact hz, acc.toList, c', ?_, by rw [Array.toArray_toList]; exact e⟩, rfl, q _ (I.hok.fresh (Nat.le_refl _))⟩
  refine vals_of_idx _ _ (by rw [hl, Array.length_toList]; exact hi.1) fun j u hj => ?_
  obtain ⟨c, t', hcj, rfl⟩ := hi.2 j u (by rw [← Array.getElem?_toList]; exact hj)
  exact ⟨.str ⟨#[c]⟩, by unfold signsV; rw [List.getElem?_map, Array.getElem?_toList, hcj]; rfl, ⟨_, rfl⟩⟩
/-! ### things in the place of an alphabet -/
def altD (z : Str) : List PyData := [.str "", .str "ba", .str (z ++ z), .str (z ++ "z"), .none, .int 5, .list (z.cps.toList.map fun c => .str ⟨#[c]⟩), .str (Txt.upper z), .str "a b", .str "abcdefghi", .bool true, .str (cutS z none (some (-1)))]
def smallTB : PyData → Bool
  | .str z => decide (z.length ≤ 100000)
  | _ => true
theorem smallTB_ok {d : PyData} (h : smallTB d = true) : smallT d := fun z e => by subst e; exact of_decide_eq_true h
def altB (d : PyData) : Bool := d.showable && (!d.hasDict && (decide (d.depth ≤ 60) && (decide (d.shown.length ≤ 1000) && (smallTB d && PyData.strOk d.shown))))
structure AltOk (d : PyData) : Prop where
  r : ReprOk d
  s : smallT d
  o : PyData.strOk d.shown = true
theorem alt_ok : ∀ z ∈ menuA, ∀ d ∈ altD z, AltOk d := by
  have h : (menuA.all fun z => (altD z).all altB) = true := by decide +kernel
  intro z hz d hd
  have h1 := List.all_eq_true.mp (List.all_eq_true.mp h z hz) d hd
  unfold altB at h1
  simp only [Bool.and_eq_true, decide_eq_true_eq, Bool.not_eq_true'] at h1
  obtain ⟨h1, h2, h3, h4, h5, h6⟩ := h1
  exact ⟨⟨h1, h2, h3, .inr (Nat.le_trans h4 (by decide))⟩, smallTB_ok h5, h6⟩
theorem strOk_of (s : String) : PyData.strOk (Str.ofString s) = true := by
  rw [PySem.Str.ofString_eq_toList]
  unfold PyData.strOk
  rw [← Array.all_toList, List.all_eq_true]
  intro c hc
  obtain ⟨d, _, rfl⟩ := List.mem_map.mp hc
  refine decide_eq_true ?_
  rcases d.valid with h | ⟨_, h⟩
  · exact Nat.lt_trans h (by decide)
  · exact h
theorem strOk_shown (k : Int) : PyData.strOk (PyData.int k).shown = true := by
  have : (PyData.int k).shown = Str.ofString (toString k) := by simp [PyData.shown]
  rw [this]
  exact strOk_of _
/-- what is due has a shape that can be compared -/
theorem due_lay {a l r m : PyData} (ha : alphaD a = false → PyData.strOk a.shown = true) : pureD (dueD a l r m) = true ∧ (dueD a l r m).depth ≤ 60 := by
  have st : ∀ s : String, PyData.strOk (Str.ofString s) = true := strOk_of
  unfold dueD
  cases hd : pairDue a l r m with
  | alph =>
    have hb : alphaD a = false := by
      cases h : alphaD a with
      | false => rfl
      | true =>
        exfalso
        unfold pairDue at hd
        rw [if_pos h] at hd
        split at hd
        · cases hd
        · split at hd
          · cases hd
          · split at hd <;> cases hd
    simp only [pureD, pureL, PyData.depth, PyData.depthAll, st, ha hb, Bool.and_true]
    simp
  | left k =>
    simp only [pureD, pureL, PyData.depth, PyData.depthAll, st, strOk_shown, Bool.and_true]
    simp
  | right k =>
    simp only [pureD, pureL, PyData.depth, PyData.depthAll, st, strOk_shown, Bool.and_true]
    simp
  | marked k =>
    simp only [pureD, pureL, PyData.depth, PyData.depthAll, st, strOk_shown, Bool.and_true]
    simp
  | ok =>
    obtain ⟨z, rfl⟩ := due_alph hd
    obtain ⟨eL, eR, eM⟩ := pair_data hd
    have hb : alphaD (.str z) = true := by
      cases h : alphaD (.str z) with
      | true => rfl
      | false =>
        exfalso
        unfold pairDue at hd
        rw [if_neg (by rw [h]; exact Bool.false_ne_true)] at hd
        cases hd
    have habc : ∀ c ∈ z.cps.toList, c < 0x110000 := by
      have h1 : alphaL z.cps.toList = true := hb
      unfold alphaL at h1
      rw [Bool.and_eq_true, Bool.and_eq_true] at h1
      intro c hc
      have h2 := of_decide_eq_true (List.all_eq_true.mp h1.2.1 c hc)
      have h3 : ∀ x ∈ lettersL, x < 0x110000 := by decide +kernel
      exact h3 c h2
    have hz : PyData.strOk z = true := by
      unfold PyData.strOk
      rw [← Array.all_toList, List.all_eq_true]
      exact fun c hc => decide_eq_true (habc c hc)
    have hm : ∀ t ∈ trisD m, t.2.1 < 0x110000 := by
      unfold pairDue at hd
      rw [if_pos hb] at hd
      split at hd
      · cases hd
      · split at hd
        · cases hd
        · split at hd
          · cases hd
          · rename_i h3
            exact fun t ht => habc _ ((marked_back h3).2 t ht).2.1
    rw [eL, eR, eM]
    have d1 := depth_encR (tabD l)
    have d2 := depth_encR (tabD r)
    have d3 := depth_encT (trisD m)
    constructor
    · simp only [pureD, pureL, st, hz, pure_encR, pure_encT hm, Bool.and_true]
    · simp only [PyData.depth, PyData.depthAll]
      omega
theorem due_shaped {a l r m : PyData} (ha : alphaD a = false → PyData.strOk a.shown = true) : SeqAt.shaped (dueD a l r m) = true := shaped_of (due_lay ha).1 (due_lay ha).2
theorem due_eqv {a l r m : PyData} (ha : alphaD a = false → PyData.strOk a.shown = true) : PyData.eqv (dueD a l r m) (dueD a l r m) = true := PySem.SeqAt.eqv_refl _ (lay_pure (due_lay ha).1)
end Kx
set_option Elab.async false
set_option linter.all false
set_option maxRecDepth 100000
set_option maxHeartbeats 4000000
namespace Kx
open PySem PySem.Spec PyProof.Rows L2
/-- [list(x) for x in a list]: copies -/
theorem copy_lc {K : PySem.W.Frag} {p D : Addr} {xs : List V} {vss : List (List V)} {H1 : Hp} {σ : L2.St} {vsl : List Nat} {j : Nat} {Qd : Hp → Prop} (hp : H1 p = some (.lst xs)) (hl : xs.length = vss.length)
    (hsrc : ∀ (i : Nat) (vs : List V), vss[i]? = some vs → ∃ c, xs[i]? = some (.ref c) ∧ (H1 c = some (.lst vs) ∨ H1 c = some (.tup vs))) (hz : xs.length ≤ 13000) (hD : H1 D = none)
    (hj : j < (wipe σ vsl).length) (hw : ∀ x, wipe ((wipe σ vsl).set j (some x)) vsl = wipe σ vsl) (hd : ∀ H2, CopyP H1 D vss xs.length H2 → Qd H2) :
    ∃ W : Nat → Nat → Hp → Prop, (∃ m, W 0 m (upd H1 D (.lst []))) ∧ ∀ i m H, W i m H →
      ((Itl K p).stop i H ∧ Qd H) ∨ ((Itl K p).go i H ∧ ∃ Nx : Hp → Prop, (∀ H', Nx H' → ∃ m', m' < m ∧ W (i + 1) m' H') ∧ ∀ x H', (Itl K p).yld i H x H' → gName j x (wipe σ vsl) H' fun σ2 H2 => wipe σ2 vsl = wipe σ vsl ∧ tYes σ2 H2 fun b H3 =>
        if b = true then tCB (rLstO K) (tCons (tVar j) tNil) σ2 H3 fun y H4 => ∃ acc, H4 D = some (.lst acc) ∧ acc.length < sizeLine ∧ Nx (upd H4 D (.lst (acc ++ [y]))) else Nx H3) := by
  refine lc_it walk_list (tt := tYes) (CopyP H1 D vss) (copyP_init hD) (fun i H2 _ ⟨_, _, _, _, _, _, _, s⟩ => SqL.of (s _ _ hp)) ?_ hd
  rintro i x H3 H4 hi hc ⟨eH, hxi⟩
  replace eH := eH.symm
  subst eH
  have hiv : i < vss.length := by rw [← hl]; exact hi
  obtain ⟨c, hcx, hcs⟩ := hsrc i _ (List.getElem?_eq_getElem hiv)
  have : x = .ref c := Option.some.inj (hxi.symm.trans hcx)
  subst this
  obtain ⟨_, _, _, _, _, _, _, sm⟩ := id hc
  refine ⟨hw _, .ref c, List.getElem?_set_self hj, c, _, rfl, (sq_same sm hcs).elim (fun h => .inl (SqL.of h)) (fun h => .inr (SqT.of h)), fun l hl2 => ?_⟩
  exact copyP_step hc hD (List.getElem?_eq_getElem hiv) hl2 (Nat.lt_of_lt_of_le (by omega : i < 13001) (by decide))
/-- the copies' data, beside two places -/
theorem copy_data {H1 H2 : Hp} {D : Addr} {vss : List (List V)} {dss : List (List PyData)} {G : Hp} (h : CopyP H1 D vss vss.length H2) (hl : dss.length = vss.length) (hf : ∀ (i : Nat) vs ds, vss[i]? = some vs → dss[i]? = some ds → FlatL vs ds)
    (hG : ∀ c vs, H1 c = none → H2 c = some (.lst vs) → G c = some (.lst vs)) (hD : H1 D = none) : Rp G (.ref D) (.list (dss.map .list)) := by
  obtain ⟨bs, h1, h2, h3, h4, h5, h6, h7⟩ := h
  refine .lst (hG _ _ hD h1) (rpL_of (by rw [List.length_map, List.length_map, h2, hl]) fun i x d hx hd => ?_)
  rw [List.getElem?_map] at hx hd
  cases hb : bs[i]? with
  | none => rw [hb] at hx; cases hx
  | some b =>
    cases he : dss[i]? with
    | none => rw [he] at hd; cases hd
    | some ds =>
      rw [hb] at hx
      rw [he] at hd
      cases hx
      cases hd
      have hiv : i < vss.length := by have := (List.getElem?_eq_some_iff.mp he).1; omega
      have hv := List.getElem?_eq_getElem hiv
      exact .lst (hG _ _ (h6 b (List.mem_of_getElem? hb)) (h5 i b _ hb hv)) (hf i _ _ hv he G)
theorem flat_ints (r : List Nat) : FlatL (intsV r) (r.map fun k => PyData.int (k : Nat)) := fun H => rpL_nats r
theorem flat_tri (t : Tri) : FlatL (triV t) [.int (t.1 : Nat), .str ⟨#[t.2.1]⟩, .int (t.2.2 : Nat)] := fun H => .cons (.int _) (.cons (.str _) (.cons (.int _) .nil))
/-- the four things that a pair is to be made of, in a list beside the source -/
structure Things (a Th : Addr) (H : Hp) (vs : List V) (d0 d1 d2 d3 : PyData) : Prop where
  na : Th ≠ a
  at_ : H Th = some (.lst vs)
  rp : RpL (del (del H a) Th) vs [d0, d1, d2, d3]
  sm : smallA d0 d1 d2 d3
  al : alphaD d0 = false → ReprOk d0 ∧ PyData.strOk d0.shown = true
theorem Things.fra {a Th : Addr} {H H' : Hp} {vs : List V} {d0 d1 d2 d3 : PyData} (f : Fra a H H') (h : Things a Th H vs d0 d1 d2 d3) : Things a Th H' vs d0 d1 d2 d3 :=
  ⟨h.na, f.up _ _ (by rw [del_ne h.na]; exact h.at_), h.rp.same (same_del Th f.sm), h.sm, h.al⟩
theorem RpL.set {H : Hp} {x : V} {e : PyData} (hx : Rp H x e) : ∀ {vs : List V} {ds : List PyData} (k : Nat), RpL H vs ds → RpL H (vs.set k x) (ds.set k e)
  | _, _, _, .nil => .nil
  | _, _, 0, .cons _ h => .cons hx h
  | _, _, k + 1, .cons h0 h => .cons h0 (RpL.set hx k h)
theorem Things.vals {a Th : Addr} {H : Hp} {vs : List V} {d0 d1 d2 d3 : PyData} (h : Things a Th H vs d0 d1 d2 d3) : ∃ v0 v1 v2 v3, vs = [v0, v1, v2, v3] ∧ Rp H v0 d0 ∧ Rp H v1 d1 ∧ Rp H v2 d2 ∧ Rp H v3 d3 := by
  have s : Same (del (del H a) Th) H := (del_le Th).trans (del_le a)
  have hr := h.rp
  cases hr with
  | cons r0 h1 => cases h1 with
    | cons r1 h2 => cases h2 with
      | cons r2 h3 => cases h3 with
        | cons r3 h4 =>
          cases h4
          exact ⟨_, _, _, _, rfl, r0.same s, r1.same s, r2.same s, r3.same s⟩
theorem rp_dd {a Th : Addr} {H : Hp} {o : HO} {x : V} {e : PyData} (h : Rp (del (del H a) Th) x e) : Rp (del (del (upd H Th o) a) Th) x e := by rw [dd_same]; exact h
theorem Things.set0 {a Th : Addr} {H : Hp} {vs : List V} {d0 d1 d2 d3 e : PyData} {x : V} (h : Things a Th H vs d0 d1 d2 d3) (hx : Rp (del (del H a) Th) x e) (ok : AltOk e) : Things a Th (upd H Th (.lst (vs.set 0 x))) (vs.set 0 x) e d1 d2 d3 :=
  ⟨h.na, upd_same, by rw [dd_same]; exact RpL.set hx 0 h.rp, ⟨ok.s, h.sm.2⟩, fun _ => ⟨ok.r, ok.o⟩⟩
theorem Things.set1 {a Th : Addr} {H : Hp} {vs : List V} {d0 d1 d2 d3 e : PyData} {x : V} (h : Things a Th H vs d0 d1 d2 d3) (hx : Rp (del (del H a) Th) x e) (ok : smallR e) : Things a Th (upd H Th (.lst (vs.set 1 x))) (vs.set 1 x) d0 e d2 d3 :=
  ⟨h.na, upd_same, by rw [dd_same]; exact RpL.set hx 1 h.rp, ⟨h.sm.1, ok, h.sm.2.2⟩, h.al⟩
theorem Things.set2 {a Th : Addr} {H : Hp} {vs : List V} {d0 d1 d2 d3 e : PyData} {x : V} (h : Things a Th H vs d0 d1 d2 d3) (hx : Rp (del (del H a) Th) x e) (ok : smallR e) : Things a Th (upd H Th (.lst (vs.set 2 x))) (vs.set 2 x) d0 d1 e d3 :=
  ⟨h.na, upd_same, by rw [dd_same]; exact RpL.set hx 2 h.rp, ⟨h.sm.1, h.sm.2.1, ok, h.sm.2.2.2⟩, h.al⟩
theorem Things.set3 {a Th : Addr} {H : Hp} {vs : List V} {d0 d1 d2 d3 e : PyData} {x : V} (h : Things a Th H vs d0 d1 d2 d3) (hx : Rp (del (del H a) Th) x e) (ok : smallM e) : Things a Th (upd H Th (.lst (vs.set 3 x))) (vs.set 3 x) d0 d1 d2 e :=
  ⟨h.na, upd_same, by rw [dd_same]; exact RpL.set hx 3 h.rp, ⟨h.sm.1, h.sm.2.1, h.sm.2.2.1, ok⟩, h.al⟩
theorem Things.len {a Th : Addr} {H : Hp} {vs : List V} {d0 d1 d2 d3 : PyData} (h : Things a Th H vs d0 d1 d2 d3) : vs.length = 4 := h.rp.length
theorem ixN4 {vs : List V} (h : vs.length = 4) {k : Nat} (hk : k < 4) : ixN vs.length (k : Nat) = some k := by
  unfold ixN
  rw [if_pos (by omega), if_pos (by omega), Int.toNat_natCast]
theorem cutV_mem {xs : List V} {lo hi : Option Int} {x : V} (h : x ∈ cutV xs lo hi) : x ∈ xs := List.mem_of_mem_drop (List.mem_of_mem_take h)
def triL (trs : List Tri) : PyData := .list (trs.map fun t => .list [.int (t.1 : Nat), .str ⟨#[t.2.1]⟩, .int (t.2.2 : Nat)])
theorem small_triL {trs : List Tri} (h : trs.length ≤ 12800) : smallM (triL trs) := by
  intro ds hds
  unfold triL at hds
  cases hds
  refine ⟨by rw [List.length_map]; omega, fun x hx es hes => ?_⟩
  obtain ⟨t, ht, rfl⟩ := List.mem_map.mp hx
  cases hes
  refine ⟨by simp, fun y hy z hz => ?_⟩
  simp only [List.mem_cons, List.not_mem_nil, or_false] at hy
  rcases hy with rfl | rfl | rfl
  · cases hz
  · cases hz
    show 1 ≤ 100000
    decide
  · cases hz
theorem rpL_signs {G : Hp} : ∀ cs : List Nat, RpL G (cs.map fun c => V.str ⟨#[c]⟩) (cs.map fun c => PyData.str ⟨#[c]⟩)
  | [] => .nil
  | c :: cs => .cons (.str _) (rpL_signs cs)
/-- drawn tables, in their places -/
theorem tabs_at {H : Hp} {v : V} {ls rs : List (List Nat)} {trs : List Tri} (h : Rp H v (tabsD ls rs trs)) : ∃ tt pl xl pr xr pm xm, v = .ref tt ∧ H tt = some (.tup [.ref pl, .ref pr, .ref pm]) ∧
    Rp H (.ref pl) (rowsD ls) ∧ Rp H (.ref pr) (rowsD rs) ∧ Rp H (.ref pm) (.list (trs.map encTri)) ∧ H pl = some (.lst xl) ∧ xl.length = ls.length ∧ H pr = some (.lst xr) ∧ xr.length = rs.length ∧ H pm = some (.lst xm) ∧ xm.length = trs.length ∧
    (∀ (i : Nat) (vs : List V), (ls.map intsV)[i]? = some vs → ∃ c, xl[i]? = some (.ref c) ∧ (H c = some (.lst vs) ∨ H c = some (.tup vs))) ∧
    (∀ (i : Nat) (vs : List V), (rs.map intsV)[i]? = some vs → ∃ c, xr[i]? = some (.ref c) ∧ (H c = some (.lst vs) ∨ H c = some (.tup vs))) ∧
    (∀ (i : Nat) (vs : List V), (trs.map triV)[i]? = some vs → ∃ c, xm[i]? = some (.ref c) ∧ (H c = some (.lst vs) ∨ H c = some (.tup vs))) := by
  unfold tabsD at h
  cases h with
  | @tup tt xs _ e h =>
    cases h with
    | cons r0 h1 => cases h1 with
      | cons r1 h2 => cases h2 with
        | cons r2 h3 =>
          cases h3
          obtain ⟨pl, xl, rfl, a1, a2, a3⟩ := srcs_rows r0
          obtain ⟨pr, xr, rfl, b1, b2, b3⟩ := srcs_rows r1
          obtain ⟨pm, xm, rfl, c1, c2, c3⟩ := srcs_tris r2
          rw [List.length_map] at a2 b2 c2
          exact ⟨tt, pl, xl, pr, xr, pm, xm, rfl, e, r0, r1, r2, a1, a2, b1, b2, c1, c2, a3, b3, c3⟩
section
variable {P : Program} {w : World} {K : PySem.W.Frag} {mg : Str → Option Value} {base : Heap}
def sp_law_makes_right : Sp := fun vs H Q _ => ∃ (a : Addr) (al : Str) (v : V) (ls rs : List (List Nat)) (trs : List Tri), vs = [.ref a, .str al, v] ∧ al ∈ menuA ∧ Rp (del H a) v (tabsD ls rs trs) ∧ TabsOk al 4 ls rs trs ∧ SrcAt H a ∧ ∀ H', Fra a H H' → Q (.bl true) H'
theorem ok_law_makes_right (T : Txt K mg) : CalG P w K mg base CX0 8 "_law_makes_right" ["_law_source_here", "_law_alphabet_here", "_law_tables_here"] sp_law_makes_right := by
  obtain ⟨fd, F⟩ := F__law_makes_right T
  refine calG_mk F (g__law_makes_right T) sc__law_makes_right (fun _ _ _ _ _ _ us hl => match us, hl with | [_, _, _], _ => rfl) (fun vs H Q E h => ?_) (fun cdv A outer s H vs Q E hG hr h => ?_)
  · obtain ⟨a, al, v, ls, rs, trs, rfl, _⟩ := h; rfl
  · refine ⟨_, PSs.nox (pss_cons (ps_for PassesOwn.never rfl (pi_range1 (by rfl) (fr_range T) (pa_cons pe_int pa_nil)) (pg_name (i := 3) sc__law_makes_right.nd rfl (Or.inl rfl)) (pss_cons (ps_set (i := 4) sc__law_makes_right.nd rfl (Or.inl rfl) (pe_lst (pa_cons (pv 1) (pa_cons (pe_lc (te := tCB (rLstO K) (tCons (tVar 8) tNil)) (own := [("_law_move", 8)]) (g := (gName 8)) (tt := tYes) rfl sc__law_makes_right.nd  (pi_list (pe_ix ix_tup (pv 2) pe_int (fun _ _ => rfl))) (blkOk_by (N := N__law_makes_right) (sc := defScope s__law_makes_right) (by decide +kernel)) (fun _ _ _ _ _ => (pg_name (i := 8) sc__law_makes_right.nd rfl (Or.inl rfl))) (fun _ _ _ _ _ => pts_nil) (fun _ _ _ _ _ => by refine pe_callTy (r := rLstO K) (t := tCons (tVar 8) tNil) ?_ (by rfl) (fr_list T) b_list (pa_cons (pv 8) pa_nil); exact call_list_of)) (pa_cons (pe_lc (te := tCB (rLstO K) (tCons (tVar 8) tNil)) (own := [("_law_move", 8)]) (g := (gName 8)) (tt := tYes) rfl sc__law_makes_right.nd  (pi_list (pe_ix ix_tup (pv 2) pe_int (fun _ _ => rfl))) (blkOk_by (N := N__law_makes_right) (sc := defScope s__law_makes_right) (by decide +kernel)) (fun _ _ _ _ _ => (pg_name (i := 8) sc__law_makes_right.nd rfl (Or.inl rfl))) (fun _ _ _ _ _ => pts_nil) (fun _ _ _ _ _ => by refine pe_callTy (r := rLstO K) (t := tCons (tVar 8) tNil) ?_ (by rfl) (fr_list T) b_list (pa_cons (pv 8) pa_nil); exact call_list_of)) (pa_cons (pe_lc (te := tCB (rLstO K) (tCons (tVar 9) tNil)) (own := [("_law_triple", 9)]) (g := (gName 9)) (tt := tYes) rfl sc__law_makes_right.nd  (pi_list (pe_ix ix_tup (pv 2) pe_int (fun _ _ => rfl))) (blkOk_by (N := N__law_makes_right) (sc := defScope s__law_makes_right) (by decide +kernel)) (fun _ _ _ _ _ => (pg_name (i := 9) sc__law_makes_right.nd rfl (Or.inl rfl))) (fun _ _ _ _ _ => pts_nil) (fun _ _ _ _ _ => by refine pe_callTy (r := rLstO K) (t := tCons (tVar 9) tNil) ?_ (by rfl) (fr_list T) b_list (pa_cons (pv 9) pa_nil); exact call_list_of)) pa_nil))))))
        (pss_cons (ps_set (i := 5) sc__law_makes_right.nd rfl (Or.inl rfl) (pe_cal (ok_law_pick T) (hr.mono (by decide)) pass0 (pa_cons (pv 0) (pa_cons pe_int pa_nil))))
        (pss_cons (ps_for PassesOwn.never rfl (pi_list (pe_slice sl_list (pe_lst (pa_cons (pv 5) (pa_cons (pe_op op_mod (pe_callTy call_int1 (by rfl) (fr_int T) b_int (pa_cons (pe_op op_add (pe_op op_add (pv 5) pe_int) (pe_cal (ok_law_pick T) (hr.mono (by decide)) pass0 (pa_cons (pv 0) (pa_cons pe_int pa_nil)))) pa_nil)) pe_int) pa_nil))) po_none (po_some (pe_op op_add pe_int (pe_cal (ok_law_pick T) (hr.mono (by decide)) pass0 (pa_cons (pv 0) (pa_cons pe_int pa_nil))))))) (pg_name (i := 6) sc__law_makes_right.nd rfl (Or.inl rfl)) (pss_one (ps_if (pt_cmpR op_eq (pv 6) pe_int (nomark _)) (pss_one (ps_asg (pe_ix ix_list (pe_lst (pa_cons pe_str (pa_cons pe_str (pa_cons (pe_op op_add_str (pv 1) (pv 1)) (pa_cons (pe_op op_add_str (pv 1) pe_str) (pa_cons pe_non (pa_cons pe_int (pa_cons (pe_callTy (call_listS rfl) (by rfl) (fr_list T) b_list (pa_cons (pv 1) pa_nil)) (pa_cons (pe_upper (pv 1)) (pa_cons pe_str (pa_cons pe_str (pa_cons pe_bl (pa_cons (pe_slice sl_str (pv 1) po_none (po_some (pe_un un_neg pe_int))) pa_nil))))))))))))) (pe_cal (ok_law_pick T) (hr.mono (by decide)) pass0 (pa_cons (pv 0) (pa_cons pe_int pa_nil))) (fun _ _ => rfl)) (pg_sub (pv 4) pe_int set_list))) (pss_one (ps_if (pt_cmpR op_lt (pv 6) pe_int (nomark _)) (pss_one (ps_asg (pe_cal (ok_law_bad_reader T) (hr.mono (by decide)) pass0 (pa_cons (pv 0) (pa_cons (pe_ix ix_tup (pv 2) (pe_op op_sub (pv 6) pe_int) (fun _ _ => rfl)) (pa_cons (pe_callB call_len (by rfl) (fr_len T) boot_len (pa_cons (pv 1) pa_nil)) pa_nil)))) (pg_sub (pv 4) (pv 6) set_list))) (pss_one (ps_asg (pe_cal (ok_law_bad_marked T) (hr.mono (by decide)) pass0 (pa_cons (pv 0) (pa_cons (pv 1) (pa_cons (pe_callB call_len (by rfl) (fr_len T) boot_len (pa_cons (pe_ix ix_tup (pv 2) pe_int (fun _ _ => rfl)) pa_nil)) (pa_cons (pe_callB call_len (by rfl) (fr_len T) boot_len (pa_cons (pe_ix ix_tup (pv 2) pe_int (fun _ _ => rfl)) pa_nil)) (pa_cons (pe_ix ix_tup (pv 2) pe_int (fun _ _ => rfl)) pa_nil)))))) (pg_sub (pv 4) pe_int set_list))))))))
        (pss_cons (ps_set (i := 7) sc__law_makes_right.nd rfl (Or.inl rfl) (pe_calG (ok_law_due T) hG (hr.mono (by decide)) pass0 (pa_cons (pe_ix ix_list (pv 4) pe_int (fun _ _ => rfl)) (pa_cons (pe_ix ix_list (pv 4) pe_int (fun _ _ => rfl)) (pa_cons (pe_ix ix_list (pv 4) pe_int (fun _ _ => rfl)) (pa_cons (pe_ix ix_list (pv 4) pe_int (fun _ _ => rfl)) pa_nil))))))
        (pss_one (ps_if (pt_cmpR (op_neD (hu64 hr)) (pe_calG (ok_law_made T (ok_masks_of_triples T)) hG (hr.mono (by decide)) pass0 (pa_cons (pe_ix ix_list (pv 4) pe_int (fun _ _ => rfl)) (pa_cons (pe_ix ix_list (pv 4) pe_int (fun _ _ => rfl)) (pa_cons (pe_ix ix_list (pv 4) pe_int (fun _ _ => rfl)) (pa_cons (pe_ix ix_list (pv 4) pe_int (fun _ _ => rfl)) pa_nil))))) (pv 7) (nomark _)) (pss_one (ps_ret pe_bl)) pss_nil)))))))
        (pss_one (ps_ret pe_bl))), ?_⟩
    obtain ⟨a, al, v, ls, rs, trs, rfl, hal, rv, TO, hs, q⟩ := h
    obtain ⟨tt, pl, xl, pr, xr, pm, xm, rfl, htt, rl, rr, rm, hpl, hxl, hpr, hxr, hpm, hxm, sl, sr, sm⟩ := tabs_at rv
    have hal1 := menu_len al hal
    have hz : al.length ≤ sizeLine := Nat.le_trans hal1.2 (by decide)
    have hl4 := TO.l.le
    have hr4 := TO.r.le
    have hm4 := TO.le
    have neA : ∀ {H'}, SrcAt H' a → H' a ≠ none := fun ⟨A, S, C, e⟩ z => by rw [e] at z; cases z
    refine ⟨3, rfl, by omega, by omega, ?_⟩
    refine for_it walk_range (fun i σ H2 => ∃ w3 w4 w5 w6 w7 w8 w9 : Option V, σ = [some (.ref a), some (.str al), some (.ref tt), w3, w4, w5, w6, w7, w8, w9] ∧ Fra a H H2)
      ⟨none, none, none, none, none, none, none, rfl, Fra.refl hs⟩ (fun _ _ _ _ _ => trivial) ?_ ?_
    · rintro i x σ H2 H3 hi ⟨w3, w4, w5, w6, w7, w8, w9, rfl, f2⟩ ⟨eH, rfl⟩
      replace eH := eH.symm
      subst eH
      -- the things
      refine ⟨.str al, rfl, .ref tt, rfl, tt, _, _, .ref pl, rfl, rfl, SqT.of (f2.up _ _ htt), rfl, pl, rfl, ⟨xl, SqL.of (f2.up _ _ hpl)⟩, fun D1 hD1 => ?_⟩
      refine copy_lc (vss := ls.map intsV) (f2.up _ _ hpl) (by rw [List.length_map]; exact hxl) (fun i vs hi => by obtain ⟨c, h1, h2⟩ := sl i vs hi; exact ⟨c, h1, sq_same f2.up h2⟩) (by omega) hD1 (by show 8 < 10; decide) (fun _ => rfl) fun H4 hc1 => ?_
      obtain ⟨_, _, _, _, _, _, _, sm1⟩ := id hc1
      have f4 := f2.trans (Fra.same f2.src sm1)
      refine ⟨.ref tt, rfl, tt, _, _, .ref pr, rfl, rfl, SqT.of (f4.up _ _ htt), rfl, pr, rfl, ⟨xr, SqL.of (f4.up _ _ hpr)⟩, fun D2 hD2 => ?_⟩
      refine copy_lc (vss := rs.map intsV) (f4.up _ _ hpr) (by rw [List.length_map]; exact hxr) (fun i vs hi => by obtain ⟨c, h1, h2⟩ := sr i vs hi; exact ⟨c, h1, sq_same f4.up h2⟩) (by omega) hD2 (by show 8 < 10; decide) (fun _ => rfl) fun H5 hc2 => ?_
      obtain ⟨_, _, _, _, _, _, _, sm2⟩ := id hc2
      have f5 := f4.trans (Fra.same f4.src sm2)
      refine ⟨.ref tt, rfl, tt, _, _, .ref pm, rfl, rfl, SqT.of (f5.up _ _ htt), rfl, pm, rfl, ⟨xm, SqL.of (f5.up _ _ hpm)⟩, fun D3 hD3 => ?_⟩
      refine copy_lc (vss := trs.map triV) (f5.up _ _ hpm) (by rw [List.length_map]; exact hxm) (fun i vs hi => by obtain ⟨c, h1, h2⟩ := sm i vs hi; exact ⟨c, h1, sq_same f5.up h2⟩) (by omega) hD3 (by show 9 < 10; decide) (fun _ => rfl) fun H6 hc3 => ?_
      obtain ⟨_, _, _, _, _, _, _, sm3⟩ := id hc3
      have f6 := f5.trans (Fra.same f5.src sm3)
      refine ⟨(by show 4 ≤ sizeLine; decide), fun Th hTh => ?_⟩
      have hTa := f6.src.ne hTh
      have sT := same_upd (o := .lst [.str al, .ref D1, .ref D2, .ref D3]) hTh
      have hT0 : H Th = none := f6.none hTa hTh
      have TH : Things a Th (upd H6 Th (.lst [.str al, .ref D1, .ref D2, .ref D3])) [.str al, .ref D1, .ref D2, .ref D3] (.str al) (rowsD ls) (rowsD rs) (triL trs) := by
        have key : ∀ {Hn Ho : Hp}, SrcAt Hn a → Same Ho H6 → ∀ c vs, Hn c = none → Ho c = some (.lst vs) → del (del (upd H6 Th (.lst [.str al, .ref D1, .ref D2, .ref D3])) a) Th c = some (.lst vs) := fun {Hn Ho} hn so c vs h1 h2 => by
          have h3 := so _ _ h2
          have hcT : c ≠ Th := fun z => by rw [z, hTh] at h3; cases h3
          rw [del_ne hcT, del_ne (hn.ne h1), upd_ne hcT]
          exact h3
        refine ⟨hTa, upd_same, .cons (.str al) (.cons ?_ (.cons ?_ (.cons ?_ .nil))), ?_, fun h => ?_⟩
        · have := copy_data (dss := ls.map fun r => r.map fun k => PyData.int (k : Nat)) (by rw [List.length_map, ← hxl]; exact hc1) (by rw [List.length_map, List.length_map]) (fun i vs ds h1 h2 => by
            rw [List.getElem?_map] at h1 h2
            cases e : ls[i]? with
            | none => rw [e] at h1; cases h1
            | some r => rw [e] at h1 h2; cases h1; cases h2; exact flat_ints r) (key f2.src (sm2.trans sm3)) hD1
          rw [List.map_map] at this
          exact this
        · have := copy_data (dss := rs.map fun r => r.map fun k => PyData.int (k : Nat)) (by rw [List.length_map, ← hxr]; exact hc2) (by rw [List.length_map, List.length_map]) (fun i vs ds h1 h2 => by
            rw [List.getElem?_map] at h1 h2
            cases e : rs[i]? with
            | none => rw [e] at h1; cases h1
            | some r => rw [e] at h1 h2; cases h1; cases h2; exact flat_ints r) (key f4.src sm3) hD2
          rw [List.map_map] at this
          exact this
        · have := copy_data (dss := trs.map fun t => [PyData.int (t.1 : Nat), .str ⟨#[t.2.1]⟩, .int (t.2.2 : Nat)]) (by rw [List.length_map, ← hxm]; exact hc3) (by rw [List.length_map, List.length_map]) (fun i vs ds h1 h2 => by
            rw [List.getElem?_map] at h1 h2
            cases e : trs[i]? with
            | none => rw [e] at h1; cases h1
            | some r => rw [e] at h1 h2; cases h1; cases h2; exact flat_tri r) (key f5.src (Same.refl _)) hD3
          rw [List.map_map] at this
          exact this
        · have := small_tabs hal1.2 TO (by decide)
          exact ⟨this.1, this.2.1, this.2.2.1, small_triL hm4⟩
        · rw [menu_right al hal] at h
          cases h
      have f7 := f6.trans (Fra.same f6.src sT)
      generalize upd H6 Th (.lst [.str al, .ref D1, .ref D2, .ref D3]) = H7 at TH f7 ⊢
      generalize ([.str al, .ref D1, .ref D2, .ref D3] : List V) = vs0 at TH
      generalize rowsD ls = e1 at TH
      generalize rowsD rs = e2 at TH
      generalize triL trs = e3 at TH
      generalize PyData.str al = e0 at TH
      -- the first
      refine ⟨.ref a, rfl, a, _, rfl, by omega, by omega, f7.src, fun A8 S8 C8 d hd0 hd1 => ?_⟩
      have f8 := f7.trans (Fra.drawn A8 S8 C8)
      have TH8 := TH.fra (Fra.drawn A8 S8 C8)
      generalize upd H7 a (three A8 S8 C8) = H8 at f8 TH8 ⊢
      obtain ⟨k1, rfl⟩ := Int.eq_ofNat_of_zero_le hd0
      have hk1 : k1 < 4 := by omega
      refine ⟨.int (k1 : Nat), rfl, .int (k1 : Nat), rfl, _, 1, rfl, rfl, .ref a, rfl, a, _, rfl, by omega, by omega, f8.src, fun A9 S9 C9 d hd0 hd1 => ⟨_, _, rfl, rfl, .inl ⟨_, rfl, _, 4, rfl, rfl, by omega, ?_⟩⟩⟩
      have f9 := f8.trans (Fra.drawn A9 S9 C9)
      have TH9 := TH8.fra (Fra.drawn A9 S9 C9)
      generalize upd H8 a (three A9 S9 C9) = H9 at f9 TH9 ⊢
      obtain ⟨k2, hk2⟩ : ∃ k2 : Nat, ((((k1 : Nat) : Int) + 1 + d) % 4) = (k2 : Nat) := ⟨_, (Int.toNat_of_nonneg (Int.emod_nonneg _ (by omega))).symm⟩
      have hk2l : k2 < 4 := by have := Int.emod_lt_of_pos (((k1 : Nat) : Int) + 1 + d) (show (0 : Int) < 4 by omega); omega
      refine ⟨(by show 2 ≤ sizeLine; decide), fun Lx hLx => ⟨.ref a, rfl, ?_⟩⟩
      have sx := same_upd (o := .lst [.int (k1 : Nat), .int ((((k1 : Nat) : Int) + 1 + d) % 4)]) hLx
      have hLxa := f9.src.ne hLx
      have eLx := upd_at (o := .lst [.int (k1 : Nat), .int ((((k1 : Nat) : Int) + 1 + d) % 4)]) hLx
      have f10 := f9.trans (Fra.same f9.src sx)
      have TH10 := TH9.fra (Fra.same f9.src sx)
      refine ⟨a, _, rfl, by omega, by omega, f10.src, fun A11 S11 C11 d11 hd0 hd1 => ⟨1, _, rfl, rfl, _, rfl, Lx, _, rfl, SqL.of (drawn_keep eLx hLxa A11 S11 C11), fun Lw hLw => ?_⟩⟩
      have f11 := f10.trans (Fra.drawn A11 S11 C11)
      have TH11 := TH10.fra (Fra.drawn A11 S11 C11)
      obtain ⟨ws, hws⟩ : ∃ ws, ws = cutV [.int (k1 : Nat), .int ((((k1 : Nat) : Int) + 1 + d) % 4)] none (some (1 + d11)) := ⟨_, rfl⟩
      have hwm : ∀ x ∈ ws, ∃ n : Nat, n < 4 ∧ x = .int (n : Nat) := by
        rw [hws]
        intro x hx
        have := cutV_mem hx
        simp only [List.mem_cons, List.not_mem_nil, or_false] at this
        rcases this with rfl | rfl
        · exact ⟨k1, hk1, rfl⟩
        · exact ⟨k2, hk2l, congrArg V.int hk2⟩
      have hLwa := f11.src.ne hLw
      have hLwT : Lw ≠ Th := fun z => by rw [z, TH11.at_] at hLw; cases hLw
      have sw := same_upd (o := .lst (cutV [.int (k1 : Nat), .int ((((k1 : Nat) : Int) + 1 + d) % 4)] none (some (1 + d11)))) hLw
      have eLw := upd_at (o := .lst (cutV [.int (k1 : Nat), .int ((((k1 : Nat) : Int) + 1 + d) % 4)] none (some (1 + d11)))) hLw
      have f12 := f11.trans (Fra.same f11.src sw)
      have TH12 := TH11.fra (Fra.same f11.src sw)
      have eLw := eLw.trans (show some (HO.lst _) = some (HO.lst ws) from by rw [hws])
      refine ⟨Lw, rfl, ⟨_, SqL.of eLw⟩, ?_⟩
      refine for_it walk_list (fun j σ Hx => ∃ (vs : List V) (d0 d1 d2 d3 : PyData) (w6 w7 w8 w9 : Option V), σ = [some (.ref a), some (.str al), some (.ref tt), some (.int (0 + (i : Nat))), some (.ref Th), some (.int (k1 : Nat)), w6, w7, w8, w9] ∧ Fra a H Hx ∧ Things a Th Hx vs d0 d1 d2 d3 ∧ Hx Lw = some (.lst ws))
        ⟨vs0, e0, e1, e2, e3, w6, w7, w8, w9, rfl, f12, TH12, eLw⟩ (fun j σ Hx _ ⟨_, _, _, _, _, _, _, _, _, _, _, _, h⟩ => SqL.of h) ?_ ?_
      · rintro j x σ H13 H14 hj ⟨vs, d0, d1, d2, d3, w6, w7, w8, w9, rfl, f13, TH13, eLw13⟩ ⟨eH, hxj⟩
        replace eH := eH.symm
        subst eH
        obtain ⟨n, hn, rfl⟩ := hwm x (List.mem_of_getElem? hxj)
        have hvl := TH13.len
        have done : ∀ (H15 : Hp) (x : V) (k : Nat) (c0 c1 c2 c3 : PyData), Fra a H13 H15 → Things a Th (upd H15 Th (.lst (vs.set k x))) (vs.set k x) c0 c1 c2 c3 →
            ∃ (vs' : List V) (d0 d1 d2 d3 : PyData) (v6 v7 v8 v9 : Option V), [some (V.ref a), some (.str al), some (.ref tt), some (.int (0 + (i : Nat))), some (.ref Th), some (.int (k1 : Nat)), some (.int (n : Nat)), w7, w8, w9] = [some (V.ref a), some (.str al), some (.ref tt), some (.int (0 + (i : Nat))), some (.ref Th), some (.int (k1 : Nat)), v6, v7, v8, v9] ∧ Fra a H (upd H15 Th (.lst (vs.set k x))) ∧ Things a Th (upd H15 Th (.lst (vs.set k x))) vs' d0 d1 d2 d3 ∧ upd H15 Th (.lst (vs.set k x)) Lw = some (.lst ws) := fun H15 x k c0 c1 c2 c3 f h =>
          ⟨_, c0, c1, c2, c3, _, _, _, _, rfl, (f13.trans f).over hT0 hTa, h, by rw [upd_ne hLwT]; exact f.up _ _ (by rw [del_ne hLwa]; exact eLw13)⟩
        refine ⟨.int (n : Nat), rfl, rfl, _, rfl, ?_⟩
        cases hn0 : decide (V.int ((n : Nat) : Int) = V.int 0) with
        | true =>
          have l2 : al.length + al.length ≤ sizeLine := Nat.le_trans (by omega : al.length + al.length ≤ 16) (by decide)
          have lz : ("z" : Str).length = 1 := by decide +kernel
          have l3 : al.length + ("z" : Str).length ≤ sizeLine := by rw [lz]; exact Nat.le_trans (by omega : al.length + 1 ≤ 16) (by decide)
          refine iteT ⟨.str al, rfl, .str al, rfl, _, _, rfl, rfl, l2, .str al, rfl, _, _, rfl, rfl, l3, .str al, rfl, al, rfl, hz, fun l hl => ⟨.str al, rfl, ⟨_, rfl⟩, _, rfl, rfl, Nat.le_trans hal1.2 (by decide), .str al, rfl, 1, rfl, _, rfl, al, rfl, hz, (by show 12 ≤ sizeLine; decide), fun L hL => ⟨.ref a, rfl, ?_⟩⟩⟩
          generalize hlst : ([.str "", .str "ba", .str (al ++ al), .str (al ++ "z"), .non, .int 5, .ref l, .str (Txt.upper al), .str "a b", .str "abcdefghi", .bl true, .str (cutS al none (some (-1)))] : List V) = lst at hL ⊢
          have g1 := same_upd (o := .lst (signsV al)) hl
          have g2 := same_upd (o := .lst lst) hL
          have hla := f13.src.ne hl
          have hlT : l ≠ Th := fun z => by rw [z, TH13.at_] at hl; cases hl
          have hLa := (f13.src.same g1).ne hL
          have eL := upd_at (o := .lst lst) hL
          have el := g2 _ _ (upd_at (o := .lst (signsV al)) hl)
          have f14 := Fra.same f13.src (g1.trans g2)
          have rp : RpL (del (del (upd (upd H13 l (.lst (signsV al))) L (.lst lst)) a) Th) lst (altD al) := by
            rw [← hlst] at *
            exact .cons (.str _) (.cons (.str _) (.cons (.str _) (.cons (.str _) (.cons .non (.cons (.int _) (.cons (.lst (by rw [del_ne hlT, del_ne hla]; exact el) (rpL_signs _)) (.cons (.str _) (.cons (.str _) (.cons (.str _) (.cons (.bl _) (.cons (.str _) .nil)))))))))))
          have hln : lst.length = 12 := rp.length
          refine ⟨a, _, rfl, by omega, by omega, (f13.trans f14).src, fun A15 S15 C15 d hd0 hd1 => ?_⟩
          have f15 := f14.trans (Fra.drawn A15 S15 C15)
          obtain ⟨m, rfl⟩ := Int.eq_ofNat_of_zero_le hd0
          have hm : m < lst.length := by omega
          have rp15 := rp.same (same_del Th (Fra.drawn (a := a) A15 S15 C15).sm)
          obtain ⟨e, he, re⟩ := rp15.get (List.getElem?_eq_getElem hm)
          have TH15 := TH13.fra f15
          refine ⟨L, _, _, lst[m], rfl, rfl, SqL.of (drawn_keep eL hLa A15 S15 C15), atI_nat (List.getElem?_eq_getElem hm), .ref Th, rfl, Th, vs, _, 0, rfl, rfl, TH15.at_, ixN4 hvl (by omega : 0 < 4), ?_⟩
          exact done _ _ 0 e d1 d2 d3 f15 (TH15.set0 re (alt_ok al hal e (List.mem_of_getElem? he)))
        | false =>
        refine iteF ⟨.int (n : Nat), rfl, _, 3, rfl, rfl, _, rfl, ?_⟩
        cases hn3 : decide (((n : Nat) : Int) < 3) with
        | true =>
          have hnl : n = 1 ∨ n = 2 := by
            have h1 := of_decide_eq_true hn3
            have h2 : n ≠ 0 := fun z => by rw [z] at hn0; exact absurd hn0 (by decide)
            omega
          have hTB : del H13 a Th = some (.lst vs) := by rw [del_ne hTa]; exact TH13.at_
          have htt13 := f13.up _ _ htt
          have hal8 : al.length ≤ 100000 := Nat.le_trans hal1.2 (by decide)
          rcases hnl with rfl | rfl
          · refine iteT ⟨.ref a, rfl, .ref tt, rfl, .int ((1 : Nat) : Int), rfl, _, 1, rfl, rfl, tt, _, _, .ref pl, rfl, rfl, SqT.of htt13, rfl, .str al, rfl, _, _, rfl, lenV_str hal8, a, Th, vs, .ref pl, al.length, 4, ls, rfl, hTB, rl.same f13.sm, TO.l, by omega, hal1.1, hal1.2, f13.src, fun H15 u d f15 ru su => ?_⟩
            have TH15 := TH13.fra f15
            refine ⟨.ref Th, rfl, .int ((1 : Nat) : Int), rfl, Th, vs, _, 1, rfl, rfl, TH15.at_, ixN4 hvl (by omega : 1 < 4), ?_⟩
            exact done _ _ 1 d0 d d2 d3 f15 (TH15.set1 ru su)
          · refine iteT ⟨.ref a, rfl, .ref tt, rfl, .int ((2 : Nat) : Int), rfl, _, 1, rfl, rfl, tt, _, _, .ref pr, rfl, rfl, SqT.of htt13, rfl, .str al, rfl, _, _, rfl, lenV_str hal8, a, Th, vs, .ref pr, al.length, 4, rs, rfl, hTB, rr.same f13.sm, TO.r, by omega, hal1.1, hal1.2, f13.src, fun H15 u d f15 ru su => ?_⟩
            have TH15 := TH13.fra f15
            refine ⟨.ref Th, rfl, .int ((2 : Nat) : Int), rfl, Th, vs, _, 2, rfl, rfl, TH15.at_, ixN4 hvl (by omega : 2 < 4), ?_⟩
            exact done _ _ 2 d0 d1 d d3 f15 (TH15.set2 ru su)
        | false =>
          have hTB : del H13 a Th = some (.lst vs) := by rw [del_ne hTa]; exact TH13.at_
          have htt13 := f13.up _ _ htt
          have hpl13 := f13.up _ _ hpl
          have hpr13 := f13.up _ _ hpr
          refine iteF ⟨.ref a, rfl, .str al, rfl, .ref tt, rfl, tt, _, _, .ref pl, rfl, rfl, SqT.of htt13, rfl, _, _, rfl, lenV_sq (.inl hpl13) rfl, .ref tt, rfl, tt, _, _, .ref pr, rfl, rfl, SqT.of htt13, rfl, _, _, rfl, lenV_sq (.inl hpr13) rfl, .ref tt, rfl, tt, _, _, .ref pm, rfl, rfl, SqT.of htt13, rfl, a, Th, vs, al, _, _, .ref pm, trs, rfl, hTB, rm.same f13.sm, hm4, fun t ht => (fullP_mem (TO.sub.subset ht)).2.1, hal, f13.src, fun H15 u d f15 ru su => ?_⟩
          have TH15 := TH13.fra f15
          refine ⟨.ref Th, rfl, Th, vs, _, 3, rfl, rfl, TH15.at_, ixN4 hvl (by omega : 3 < 4), ?_⟩
          exact done _ _ 3 d0 d1 d2 d f15 (TH15.set3 ru su)
      · rintro σ H13 ⟨vs, d0, d1, d2, d3, w6, w7, w8, w9, rfl, f13, TH13, _⟩
        obtain ⟨v0, v1, v2, v3, rfl, r0, r1, r2, r3⟩ := TH13.vals
        have hat := SqL.of (K := K) TH13.at_
        refine ⟨.ref Th, rfl, Th, _, _, v0, rfl, rfl, hat, rfl, .ref Th, rfl, Th, _, _, v1, rfl, rfl, hat, rfl, .ref Th, rfl, Th, _, _, v2, rfl, rfl, hat, rfl, .ref Th, rfl, Th, _, _, v3, rfl, rfl, hat, rfl, v0, v1, v2, v3, d0, d1, d2, d3, rfl, r0, r1, r2, r3, TH13.sm, fun h => (TH13.al h).1, fun H14 u s14 ru => ?_⟩
        have TH14 := TH13.fra (Fra.same f13.src s14)
        have hat2 := SqL.of (K := K) TH14.at_
        refine ⟨.ref Th, rfl, Th, _, _, v0, rfl, rfl, hat2, rfl, .ref Th, rfl, Th, _, _, v1, rfl, rfl, hat2, rfl, .ref Th, rfl, Th, _, _, v2, rfl, rfl, hat2, rfl, .ref Th, rfl, Th, _, _, v3, rfl, rfl, hat2, rfl, v0, v1, v2, v3, d0, d1, d2, d3, rfl, r0.same s14, r1.same s14, r2.same s14, r3.same s14, TH13.sm, fun h => (TH13.al h).1, fun H15 u2 s15 ru2 => ?_⟩
        have hsh := due_shaped (l := d1) (r := d2) (m := d3) fun h => (TH13.al h).2
        have heq := due_eqv (l := d1) (r := d2) (m := d3) fun h => (TH13.al h).2
        refine ⟨u, rfl, _, _, ru2.dp, (ru.tups (Same.tups s15)).dp, hsh, hsh, _, rfl, ?_⟩
        rw [heq]
        exact iteF ⟨_, _, _, _, _, _, _, rfl, f13.trans (Fra.same f13.src (s14.trans s15))⟩
    · rintro σ H2 ⟨w3, w4, w5, w6, w7, w8, w9, rfl, f2⟩
      exact q H2 f2
end
end Kx
set_option Elab.async false
set_option linter.all false
set_option maxRecDepth 100000
set_option maxHeartbeats 4000000
namespace Kx
open PySem PySem.W PySem.Calls PyProof.Rows PyProof.V PySem.Spec
open PySem.Froz (SD sObj runD TxOk sing itObj)
section
variable {P : Program} {w : World} {A : Around} {E : Value → Shared → Prop} {s : Shared}
theorem runD_ok : ∀ (cs : List Nat) (tk : Tok) (D : SD) (l : List Str), TxOk P w D l → ∃ l', l'.length = l.length + cs.length ∧ TxOk P w (runD w cs tk D) l'
  | [], _, _, l, F => ⟨l, rfl, F⟩
  | c :: cs, tk, D, l, F => by
    obtain ⟨l', h1, h2⟩ := runD_ok cs (tk + 2) _ _ (PySem.Froz.add_ok (k := sing c) tk F)
    refine ⟨l', ?_, h2⟩
    rw [h1, List.length_cons, List.length_cons]
    omega
/-- set(x), x a text of unlike signs below 128 -/
theorem call_set_str {x : Str} {u : Tok} {Q : Value → Shared → Prop} (hh : A.handled = none) (ha : x.cps.all (· < 128) = true) (hnd : x.cps.toList.Nodup) (hlen : x.cps.toList.length < 64)
    (h : ∀ (h' : Heap) (tk : Nat) (D : SD) (l : List Str), h'.get? s.heap.objs.size = some (sObj "set" D) → TxOk P w D l → l.length = x.cps.toList.length → (∀ b o, s.heap.get? b = some o → h'.get? b = some o) → Q (.ref s.heap.objs.size) { s with heap := h', toks := tk }) :
    wpAny (model P w) A (call (.type "set") [.str x u]) Q E s := by
  obtain ⟨c, tl, hmro⟩ := F.called_set.mro
  have hmade := F.called_set.made
  have hsub := F.called_set.sub
  refine wpAny_call (codeAny_of_tree ?_)
  show wpAny _ _ (callAny (.type "set") _) _ _ _
  refine wpAny_pure ⟨Code.quiet_builtin _ (by decide +kernel), codeAny_builtin F.entry_type_call ?_⟩
  rw [Around.under_plain (weight_type_call_type "set" [.str x u] []) rfl]
  have h1 := F.called_set.notType
  have h2 := F.called_set.canCreate
  have hct := F.typeCall_set_1 (.str x u)
  repeat (any_goals (first | assumption | wp_step))

  refine codeAny_mono (L2.code_set_led1 (.str x u) (E := E) (Q₁ := fun obj s₁ => obj = .ref s.heap.objs.size ∧ s₁ = { s with heap := s.heap.push { cls := .type "set", dict := none, data := .set #[] 0 (.fresh 0 0 (!w.params.followText "set-order")) } }) ⟨rfl, rfl⟩) fun r s₁ hr => ?_
  cases r with
  | error e => exact hr
  | ok fl =>
    cases fl with
    | ret obj =>
      obtain ⟨rfl, rfl⟩ := hr
      have hS : (s.heap.push { cls := .type "set", dict := none, data := .set #[] 0 (.fresh 0 0 (!w.params.followText "set-order")) }).get? s.heap.objs.size = some { cls := .type "set", dict := none, data := .set #[] 0 (.fresh 0 0 (!w.params.followText "set-order")) } := Heap.get?_push_size _ rfl
      have hT : Shared.TypeIs { s with heap := s.heap.push { cls := .type "set", dict := none, data := .set #[] 0 (.fresh 0 0 (!w.params.followText "set-order")) } } (.ref s.heap.objs.size) "set" := ⟨_, hS, rfl⟩
      have hli := F.called_set.init.lookup
      have hbi := F.called_set.init.bind (.ref s.heap.objs.size)
      repeat (any_goals (first | assumption | wp_step))

      refine codeAny_mono (codeAny_call_builtin (R := wants (fun r s₂ => r = .none ∧ ∃ (h' : Heap) (tk : Nat) (D : SD) (l : List Str), s₂ = { s with heap := h', toks := tk } ∧ h'.get? s.heap.objs.size = some (sObj "set" D) ∧ TxOk P w D l ∧ l.length = x.cps.toList.length ∧
          (∀ b o, s.heap.get? b = some o → h'.get? b = some o)) E) F.called_set.init.plain F.entry_set_init (PySem.check_set_init_1 hT ?_)) fun r₂ s₂ hr₂ => ?_
      · have hsls := F.sub_str_set
        have hslf := F.sub_str_frozenset
        have hne : (Value.type "str" == Value.type "dict") = false := by decide
        unfold Builtin.«set.__init__» noKeywords Builtin.Frozenset.updateFrom
        generalize hPI : pyIter = PI
        wp_walk
        subst hPI

        refine wpAny_pyIter_ascii ha ?_
        refine wpAny_bind (wpAny_runValue ?_)
        have hh3 : A.in1.in1.handled = none := by simp [hh]
        have hz1 : (s.heap.push { cls := .type "set", dict := none, data := .set #[] 0 (.fresh 0 0 (!w.params.followText "set-order")) }).objs.size = s.heap.objs.size + 1 := Heap.size_push ..
        have hne2 : s.heap.objs.size ≠ (s.heap.push { cls := .type "set", dict := none, data := .set #[] 0 (.fresh 0 0 (!w.params.followText "set-order")) }).objs.size := by rw [hz1]; exact Nat.ne_of_lt (Nat.lt_succ_self _)
        have F0 : TxOk P w ((#[], 0, .fresh 0 0 (!w.params.followText "set-order")) : SD) [] := PySem.Froz.TxOk.nil (by rfl)
        obtain ⟨l', hl', F'⟩ := runD_ok (P := P) (w := w) x.cps.toList s.toks _ _ F0
        refine PySem.Froz.code_update (P := P) (w := w) (T := "set") (x := x) (u := u) hne2 hh3 x.cps.toList 0 ((#[], 0, .fresh 0 0 (!w.params.followText "set-order")) : SD) [] _ rfl ?hA ?hI F0 (fun c _ hc => by cases hc) hnd (by show 0 + x.cps.toList.length < _; rw [Nat.zero_add]; exact Nat.lt_of_lt_of_le hlen (by decide)) ?hR
        case hA => exact Heap.get?_push_of_some _ hS
        case hI => exact Heap.get?_push_size _ rfl
        case hR =>
          show wpAny _ _ _ _ _ _
          refine wpAny_pure ?_
          show wpAny _ _ (ret Value.none) _ _ _
          have hSi : (((s.heap.push { cls := .type "set", dict := none, data := .set #[] 0 (.fresh 0 0 (!w.params.followText "set-order")) }).push { cls := .type "str_ascii_iterator", data := .fields #[.str x u, .int 0 0] }).get? s.heap.objs.size) = some (sObj "set" (#[], 0, .fresh 0 0 (!w.params.followText "set-order"))) := Heap.get?_push_of_some _ hS
          refine wpAny_pure ⟨rfl, _, _, _, l', rfl, ?_, F', ?_, fun b o e => ?_⟩
          · refine Heap.get?_push_of_some _ (Heap.get?_push_of_some _ ?_)
            exact PySem.Heap.get?_update_of_ne _ (Ne.symm hne2) (PySem.Froz.get_upd _ hSi rfl)
          · rw [hl', List.length_nil, Nat.zero_add]
          · have hb : b < s.heap.objs.size := Heap.lt_size e
            refine Heap.get?_push_of_some _ (Heap.get?_push_of_some _ ?_)
            refine PySem.Heap.get?_update_of_ne _ (Nat.ne_of_gt (Nat.lt_trans hb (by rw [hz1]; exact Nat.lt_succ_self _))) (PySem.Heap.get?_update_of_ne _ (Nat.ne_of_gt hb) ?_)
            exact Heap.get?_push_of_some _ (Heap.get?_push_of_some _ e)
      · cases r₂ with
        | error e => exact hr₂
        | ok fl₂ =>
          cases fl₂ with
          | ret r =>
            obtain ⟨rfl, h', tk, D, l, rfl, hS', hF, hl, hk'⟩ := hr₂
            repeat (any_goals (first | assumption | wp_step))
            exact h _ _ _ _ hS' hF hl hk'
          | _ => exact hr₂.elim
    | _ => exact hr.elim
end
end Kx
set_option Elab.async false
set_option linter.all false
set_option maxRecDepth 100000
set_option maxHeartbeats 4000000
namespace Kx
open PySem PySem.Spec PyProof.Rows L2
section
variable {X : Cx}
/-- len(set(x)), x a text of unlike signs -/
def tLenSet (te : TE) : TE := fun σ H Q => te σ H fun x H1 => ∃ z : Str, x = .str z ∧ z.cps.all (· < 128) = true ∧ z.cps.toList.Nodup ∧ z.length < 64 ∧ Q (.int (z.length : Nat)) H1
theorem pe_lenSet {e : Expr} {te : TE} {p p2 pos pos2 : Pos} (hc : X.calm = true) (hg : Gl X "len") (hm : X.mg "len" = none) (hg2 : Gl X "set") (hm2 : X.mg "set" = none) (he : PE X e te)
    (hs : starEach [e] X.env = (false, eval e X.env) :: starEach [] X.env := by rfl)
    (hs2 : starEach [.Call (.Name "set" p2) [e] [] pos2] X.env = (false, eval (.Call (.Name "set" p2) [e] [] pos2) X.env) :: starEach [] X.env := by rfl) :
    PE X (.Call (.Name "len" p) [.Call (.Name "set" p2) [e] [] pos2] [] pos) (tLenSet te) := by
  refine ⟨fun pins s σ H Q I h => ?_⟩
  refine Call_ (ld_blt I hg hm boot_len (PyProof.Rows.callWith_builtin1 (args_cons (Call_ (ld_blt I hg2 hm2 (u := .type "set") (by decide +kernel) (PyProof.Rows.callWith_type1 (args_cons (thn (he.run pins s σ H _ I h) fun u s1 ⟨v, H1, I1, r1, q1⟩ => args_nil ?_) hs) hs rfl))) hs2) hs2 rfl))
  obtain ⟨z, ev, ha, hnd, hl, q⟩ := q1
  subst ev
  obtain ⟨t, rfl⟩ := r1
  have hsz : z.cps.toList.length = z.length := Array.length_toList
  refine call_set_str (I1.ok.hd hc) ha hnd (by rw [hsz]; exact hl) fun h' tk D l hD hF hll hk => args_nil ?_
  have I2 : Inv X pins σ H1 { s1 with heap := h', toks := tk } := I1.kept (t' := tk) hk
  have hsz2 : D.1.size = z.length := by rw [hF.sz, hll, hsz]
  refine PySem.call_len_set (s := { s1 with heap := h', toks := tk }) hD ⟨rfl, rfl, rfl⟩ rfl hF.fit (by rw [hsz2]; omega) ?_
  rw [hsz2]
  exact ⟨.int (z.length : Nat), H1, I2.tok _, ⟨_, rfl⟩, q⟩
end
end Kx
set_option Elab.async false
set_option linter.all false
set_option maxRecDepth 100000
set_option maxHeartbeats 4000000
namespace Kx
open PySem PySem.Spec PyProof.Rows L2
section
variable {X : Cx}
theorem strs_signs {z : Str} {acc : Array Value} (h : ItemsOf (SignAt z) acc z.cps.size) : Vals (signsV z) acc.toList := by
  refine vals_of_idx _ _ (by unfold signsV; rw [List.length_map, Array.length_toList, Array.length_toList]; exact h.1) fun j u hj => ?_
  obtain ⟨c, t', hcj, rfl⟩ := h.2 j u (by rw [← Array.getElem?_toList]; exact hj)
  exact ⟨.str ⟨#[c]⟩, by unfold signsV; rw [List.getElem?_map, Array.getElem?_toList, hcj]; rfl, ⟨_, rfl⟩⟩
/-- sorted(x), x a text -/
theorem cr_sortedT (hc : X.calm = true) : CallR X (.builtin "sorted") (fun xs H Q => ∃ z : Str, xs = [.str z] ∧ z.length < 64 ∧ ∀ (ys : List Str) (p : Addr), ys.Perm (z.cps.toList.map one1) → sortedS ys = true → H p = none → Q (.ref p) (upd H p (.lst (ys.map V.str)))) := by
  intro pins s σ H xs us Q I r h
  obtain ⟨z, rfl, hz, q⟩ := h
  obtain ⟨u, rfl, ru⟩ := vals1 r
  obtain ⟨t, rfl⟩ := ru
  have hzl : z.cps.size ≤ sizeLine := Nat.le_trans (Nat.le_of_lt hz) (by decide)
  refine Calls.call_function_entry kind_sorted plain_sorted entry_sorted (args_sorted1 _) ?_
  unfold Builtin.«sorted»
  refine wpAny_bind (m := checkCount "sorted" 1 1 _) (wpAny_pure ?_)
  refine wpAny_bind (wpAny_collect_str (A := X.A.in1) (I.ok.hd hc) z t (fun s' acc hk hg hd ho hi => ?_) hzl)
  have hv := strs_signs hi
  have hS := hv
  have e1 : signsV z = (z.cps.toList.map one1).map V.str := by unfold signsV; rw [List.map_map]; rfl
  rw [e1] at hS
  have hS := hS.strs
  have hl : acc.toList.length = z.length := by rw [Array.length_toList]; exact hi.1
  refine wpAny_bind (wpAny_newList ?_ (by rw [hl]; exact hzl))
  obtain ⟨hp', g', d', tk', os'⟩ := s'
  cases hg
  cases hd
  cases ho
  have J : Inv X pins σ H { s with heap := hp', toks := tk' } := I.kept (t' := tk') hk
  have hob : (hp'.push { cls := .type "list", data := .seq acc.toList.toArray }).get? hp'.objs.size = some (seqObj "list" acc.toList.toArray 0) := Heap.get?_push_size _ rfl
  have hg2 : wpAny (model X.prog X.w) X.A.in1 (call (.builtin "list.sort") [.ref hp'.objs.size]) (fun _ s2 => EP X pins σ Q (.ref hp'.objs.size) s2) X.xe { s with heap := hp'.push { cls := .type "list", data := .seq acc.toList.toArray }, toks := tk' } := by
    refine wpAny_call_entry PyProof.Rows.slot_list_sort ⟨_, hob, rfl⟩ PyProof.Rows.entry_list_sort
      (list_sort_treeK strKind_oneLt hob hS.keysOf (fun v₁ v₂ rest e => keyKind_strs (by rw [← e]; exact hS)) (by rw [hl]; exact hz) fun st' hp hs => ?_) (PyProof.Rows.args_list_sort _)
    obtain ⟨ys, g1, g2, g3⟩ := sorted_out_str hS hp hs
    obtain ⟨ep, he'⟩ := PyProof.Rows.sortedHeap_at (vs := acc.toList) (out := (arrOf st').map (·.2)) hob
    have hlen : (ys.map V.str).length ≤ sizeLine := by
      rw [List.length_map, g2.length_eq, List.length_map, Array.length_toList]
      exact hzl
    have hn : H hp'.objs.size = none := J.hok.fresh (Nat.le_refl _)
    have K2 : Inv X pins σ (upd H hp'.objs.size (.lst (ys.map V.str))) { s with heap := sortedHeap (hp'.push { cls := .type "list", data := .seq acc.toList.toArray }) hp'.objs.size acc.toList ((arrOf st').map (·.2)), toks := tk' } :=
      J.laid (t' := tk') (fun b u hu => by
        have hb := Heap.lt_size hu
        rw [PyProof.Rows.sortedHeap_old (Nat.ne_of_lt hb) (by rw [Heap.size_push]; exact Nat.lt_succ_of_lt hb)]
        exact Heap.get?_push_of_some _ hu) (Nat.le_refl _)
        (show ObjOk X.prog X.w _ _ hp'.objs.size (.lst (ys.map V.str)) from ⟨hlen, ((arrOf st').map (·.2)).toList, ep, vals_of_strs g1, by rw [Array.toArray_toList]; exact he'⟩)
    exact ⟨.none, rfl, .ref hp'.objs.size, _, K2, rfl, q ys _ g2 g3 hn⟩
  refine wpAny_bind (wpAny_holding (wpAny_mono hg2 (fun _ s2 x => ?_) fun _ _ e => e))
  exact wpAny_pure ⟨_, rfl, x⟩
end
end Kx
set_option Elab.async false
set_option linter.all false
set_option maxRecDepth 100000
set_option maxHeartbeats 4000000
namespace Kx
open PySem PySem.Spec PyProof.Rows L2
/-! ### sorted signs -/
theorem rising_pair : ∀ {cs : List Nat} {p : Nat}, risingS (one1 p) (cs.map one1) = true → (p :: cs).Pairwise (· ≤ ·)
  | [], p, _ => List.pairwise_singleton ..
  | c :: cs, p, h => by
    simp only [List.map_cons, risingS, Bool.and_eq_true] at h
    have ih := rising_pair h.2
    have hpc : p ≤ c := by
      have h1 := h.1
      by_cases hlt : c < p
      · exfalso
        have : ltCps (one1 c).cps.toList (one1 p).cps.toList = true := by
          show ltCps [c] [p] = true
          simp [ltCps, hlt]
        rw [this] at h1
        cases h1
      · omega
    refine List.pairwise_cons.mpr ⟨fun d hd => ?_, ih⟩
    rcases List.mem_cons.mp hd with e | hd
    · rw [e]; exact hpc
    · exact Nat.le_trans hpc (List.rel_of_pairwise_cons ih hd)
theorem one1_list (c : Nat) : (one1 c).cps.toList = [c] := rfl
theorem sorted_signs {l : List Nat} {ys : List Str} (hp : ys.Perm (l.map one1)) (hs : sortedS ys = true) : ∃ cs : List Nat, ys = cs.map one1 ∧ cs.Perm l ∧ cs.Pairwise (· ≤ ·) := by
  have e1 : ∀ y ∈ ys, one1 (y.cps.toList.headD 0) = y := fun y hy => by
    obtain ⟨c, _, rfl⟩ := List.mem_map.mp (hp.mem_iff.mp hy)
    rfl
  have e2 : ys = (ys.map fun y => y.cps.toList.headD 0).map one1 := by
    rw [List.map_map]
    have : ys.map id = ys.map (one1 ∘ fun y => y.cps.toList.headD 0) := List.map_congr_left fun y hy => (e1 y hy).symm
    rw [List.map_id] at this
    exact this
  have e3 : (ys.map fun y => y.cps.toList.headD 0).Perm l := by
    have := hp.map fun y : Str => y.cps.toList.headD 0
    rw [List.map_map] at this
    have e4 : (l.map ((fun y : Str => y.cps.toList.headD 0) ∘ one1)) = l := by
      have : ((fun y : Str => y.cps.toList.headD 0) ∘ one1) = id := rfl
      rw [this, List.map_id]
    rw [e4] at this
    exact this
  refine ⟨_, e2, e3, ?_⟩
  rw [e2] at hs
  generalize (ys.map fun y => y.cps.toList.headD 0) = cs at hs
  cases cs with
  | nil => exact .nil
  | cons c cs => exact rising_pair hs
/-- letters in order -/
theorem sorted_filter {al cs ch : List Nat} (ha : al.Pairwise (· < ·)) (hn : ch.Nodup) (hm : ∀ c ∈ ch, c ∈ al) (hp : cs.Perm ch) (hs : cs.Pairwise (· ≤ ·)) : cs = al.filter fun c => decide (c ∈ ch) := by
  have h1 : (al.filter fun c => decide (c ∈ ch)).Pairwise (· < ·) := ha.sublist List.filter_sublist
  have h2 : cs.Nodup := hp.nodup_iff.mpr hn
  have h3 : cs.Pairwise (· < ·) := by
    have := hs.and h2
    exact this.imp fun ⟨a, b⟩ => Nat.lt_of_le_of_ne a b
  refine List.Perm.eq_of_pairwise (le := (· < ·)) (fun a b _ _ h4 h5 => absurd h4 (Nat.lt_asymm h5)) h3 h1 ?_
  refine (List.perm_ext_iff_of_nodup h2 (h1.imp fun h => Nat.ne_of_lt h)).mpr fun c => ?_
  rw [hp.mem_iff, List.mem_filter, decide_eq_true_eq]
  exact ⟨fun h => ⟨hm c h, h⟩, fun h => h.2⟩
/-! ### is_choice -/
def choiceB (al : Str) : PyData → Bool
  | .str z => decide (z.length ≤ al.length) && z.cps.toList.all fun c => decide (c ∈ al.cps.toList)
  | _ => false
section
variable {P : Program} {w : World} {K : PySem.W.Frag} {mg : Str → Option Value} {base : Heap}
def sp_is_choice : Sp := fun vs H Q _ => ∃ (al : Str) (v : V) (d : PyData), vs = [.str al, v] ∧ Rp H v d ∧ smallT d ∧ al.length ≤ 8 ∧ (∀ c ∈ al.cps.toList, c < 128) ∧ (∀ z, d = .str z → z.length ≤ al.length → (∀ c ∈ z.cps.toList, c ∈ al.cps.toList) → z.cps.toList.Nodup) ∧
  ∀ H', Same H H' → Q (.bl (choiceB al d)) H'
theorem ok_is_choice (T : Txt K mg) : Cal P w K mg base CX0 1 "is_choice" ["alphabet", "thing"] sp_is_choice := by
  obtain ⟨fd, F⟩ := F_is_choice T
  refine cal_mk F (g_is_choice T) sc_is_choice (fun _ _ _ _ _ _ us hl => match us, hl with | [_, _], _ => rfl) (fun vs H Q E h => ?_) (fun cdv A outer s H vs Q E hr h => ?_)
  · obtain ⟨al, v, d, rfl, _⟩ := h; rfl
  · refine ⟨_, PSs.nox (pss_cons (ps_if (PW.pt (pw_or (pt_not (pt_val (pe_callB call_isB (by rfl) (fr_isinstance T) b_isinstance (pa_cons (pv 1) (pa_cons (pe_ty (fr_str T) b_str) pa_nil))))) (pw_or1 (pt_cmpR op_gt (pe_callB call_len (by rfl) (fr_len T) boot_len (pa_cons (pv 1) pa_nil)) (pe_callB call_len (by rfl) (fr_len T) boot_len (pa_cons (pv 0) pa_nil)) (nomark _))))) (pss_one (ps_ret pe_bl)) pss_nil)
        (pss_one (ps_ret (pe_and (pe_callB (cr_all rfl) (by rfl) (fr_all T) b_all (pa_cons (pe_lc (own := [("letter", 2)]) (g := (gName 2)) (tt := tYes) rfl sc_is_choice.nd  (pi_str (pv 1)) (blkOk_by (N := N_is_choice) (sc := defScope s_is_choice) (by decide +kernel)) (fun _ _ _ _ _ => (pg_name (i := 2) sc_is_choice.nd rfl (Or.inl rfl))) (fun _ _ _ _ _ => pts_nil) (fun _ _ _ _ _ => pe_cmpR op_in_sign (pv 2) (pv 0) rfl)) pa_nil)) (pe_one (pe_cmpR op_eq (pe_lenSet rfl (by rfl) (fr_len T) (by rfl) (fr_set T) (pv 1)) (pe_callB call_len (by rfl) (fr_len T) boot_len (pa_cons (pv 1) pa_nil)) (nomark _))))))), ?_⟩
    obtain ⟨al, v, d, rfl, rd, sm, h8, h128, hn, q⟩ := h
    refine ⟨v, rfl, v, "str", kd d, rfl, rd.ko, k_str _, _, rfl, ?_⟩
    cases hb : (kd d).is "str" with
    | false =>
      have e : choiceB al d = false := by cases d <;> first | rfl | (exact Bool.noConfusion hb)
      rw [e] at q
      exact iteT (iteT (q H (Same.refl H)))
    | true =>
    refine iteF ?_
    obtain ⟨z, rfl⟩ := kd_str hb
    cases rd
    have hz : z.cps.toList.length = z.length := Array.length_toList
    have hzs : z.length ≤ 100000 := sm z rfl
    refine ⟨.str z, rfl, _, _, rfl, lenV_str hzs, .str al, rfl, _, _, rfl, lenV_str (Nat.le_trans h8 (by decide)), _, _, rfl, rfl, _, rfl, ?_⟩
    by_cases hle : z.length ≤ al.length
    case neg =>
      have e : choiceB al (.str z) = false := by show (decide (z.length ≤ al.length) && _) = false; rw [decide_eq_false hle, Bool.false_and]
      rw [e] at q
      have h1 : ((al.length : Nat) : Int) < (z.length : Nat) := by omega
      show (if decide (((al.length : Nat) : Int) < (z.length : Nat)) = true then _ else _)
      rw [decide_eq_true h1]
      exact iteT (q H (Same.refl H))
    have h1 : ¬ ((al.length : Nat) : Int) < (z.length : Nat) := by omega
    show (if decide (((al.length : Nat) : Int) < (z.length : Nat)) = true then _ else _)
    rw [decide_eq_false h1]
    refine iteF ⟨.str z, rfl, z, rfl, fun D hD => ?_⟩
    refine lc_new walk_str hD (Nat.le_trans (by show z.length ≤ 100000; exact hzs) (by decide)) (fun (i : Nat) _ v => ∀ c, z.cps.toList[i]? = some c → v = V.bl (decide (c ∈ al.cps.toList))) (fun _ _ _ _ _ h => h) (fun _ _ => trivial)
      (fun i x H2 H3 Qk hi sH hy hk => ?_) (fun H2 acc s2 hD2 hl hv => ?_)
    · obtain ⟨e, c, hc, rfl⟩ := hy
      subst e
      refine ⟨rfl, .str ⟨#[c]⟩, rfl, .str al, rfl, c, al, rfl, rfl, hk _ _ (Same.refl _) fun c' hc' => ?_⟩
      rw [Array.getElem?_toList, hc] at hc'
      cases hc'
      rfl
    · have ea : acc = (z.cps.toList.map fun c => decide (c ∈ al.cps.toList)).map V.bl := bls_of (by rw [hl, List.length_map, hz]; rfl) fun i v hi b hb => by
        rw [List.getElem?_map] at hb
        cases hc : z.cps.toList[i]? with
        | none => rw [hc] at hb; cases hb
        | some c =>
          rw [hc] at hb
          cases hb
          exact hv i v hi c hc
      have e2 : (z.cps.toList.map fun c => decide (c ∈ al.cps.toList)).all id = z.cps.toList.all fun c => decide (c ∈ al.cps.toList) := by rw [List.all_map]; rfl
      have e3 : choiceB al (.str z) = z.cps.toList.all fun c => decide (c ∈ al.cps.toList) := by show (decide (z.length ≤ al.length) && _) = _; rw [decide_eq_true hle, Bool.true_and]
      refine ⟨D, _, rfl, SqL.of (by rw [hD2, ea]), _, rfl, ?_⟩
      rw [e2]
      rw [e3] at q
      cases hall : z.cps.toList.all fun c => decide (c ∈ al.cps.toList) with
      | false => rw [hall] at q; exact iteF (q _ s2)
      | true =>
        rw [hall] at q
        have hin : ∀ c ∈ z.cps.toList, c ∈ al.cps.toList := fun c hc => of_decide_eq_true (List.all_eq_true.mp hall c hc)
        refine iteT ⟨.str z, rfl, z, rfl, ?_, hn z rfl hle hin, by omega, .str z, rfl, _, _, rfl, lenV_str hzs, rfl, ?_⟩
        · rw [← Array.all_toList, List.all_eq_true]
          exact fun c hc => decide_eq_true (h128 c (hin c hc))
        · have e9 : decide (V.int (z.length : Nat) = V.int (z.length : Nat)) = true := decide_eq_true rfl
          show Q (.bl (decide (V.int ((z.length : Nat) : Int) = V.int ((z.length : Nat) : Int)))) H2
          rw [e9]
          exact q _ s2
end
end Kx
set_option Elab.async false
set_option linter.all false
set_option maxRecDepth 100000
set_option maxHeartbeats 4000000
namespace Kx
open PySem PySem.Spec PyProof.Rows L2
section
variable {X : Cx} {CX : CXT} {C f : Addr} {fd : FuncData} {ps : List Str} {k : Nat} {sp : Sp} {E : L2.St → XK} {fe e : Expr} {es : List Expr} {tf : TE} {t : TA} {pos : Pos}
/-- c(e, ..), c an own class -/
def tMakeV (C : Addr) (sp : Sp) (E : L2.St → XK) (tf : TE) (t : TA) : TE := fun σ H Q => tf σ H fun y H1 => y = V.ref C ∧ tMakeS C sp E t σ H1 Q
theorem pe_makeV (hf : PE X fe tf) (M : Mk X.K C f) (F : FnOk X.prog X.w X.K X.mg X.base CX k f fd ps sp) (hr : Room (k + 1) X.A) (hb : Binds X.K fd ps []) (hx : ∀ σ, PassesAt CX X σ (E σ)) (ha : PA X (e :: es) t)
    (ht : eval (.Call fe (e :: es) [] pos) X.env = (do callWith pos (← eval fe X.env) [] (backTo pos (starEach (e :: es) X.env)) (backToKw pos (keywordEach [] X.env))) := by rfl)
    (he : starEach (e :: es) X.env = (false, eval e X.env) :: starEach es X.env := by rfl) (hpl : (backTo pos (starEach es X.env)).any (·.1) = false := by rfl) : PE X (.Call fe (e :: es) [] pos) (tMakeV C sp E tf t) := by
  constructor
  intro pins s σ H Q I h
  refine Call_ (thn (hf.run pins s σ H _ I h) fun u s0 hh0 => ?_) ht
  obtain ⟨y, H0, I0, ry, rfl, h0⟩ := hh0
  obtain rfl : u = Value.ref C := ry
  refine PySem.W.callWith_K (h₀ := X.base) I0.ok.mod.kin M.kp (thn (ha.run pos pins s0 σ H0 _ I0 h0) fun us s1 hh => ?_) he hpl
  obtain ⟨vs, H1, I1, r, h1⟩ := hh
  refine ⟨I1.kIn, ?_⟩
  have hq := h1 (s1.heap.objs.size + 1) s1.heap.objs.size (I1.hok.fresh (Nat.le_succ _)) (I1.hok.fresh (Nat.le_refl _)) (Nat.ne_of_lt (Nat.lt_succ_self _))
  have I2 := Inv.made (C := C) I1
  have r2 : Vals (V.ref (s1.heap.objs.size + 1) :: vs) (Value.ref (s1.heap.objs.size + 1) :: us) := .cons rfl r
  have hl : (Value.ref (s1.heap.objs.size + 1) :: us ++ []).length = ps.length := by
    rw [List.append_nil, ← F.len _ _ _ _ hq]
    exact r2.length.symm
  have b := hb _ (Value.ref (s1.heap.objs.size + 1) :: us) I2.kIn hl
  rw [List.append_nil] at b
  refine wpAny_call (make_map (f := f) I1.kIn M.makes M.init (beq_iff_eq.mp M.fn) (codeAny_mono (F.run _ X.stack _ _ ⟨Value.ref (s1.heap.objs.size + 1) :: us, []⟩ _ _ _ (E σ) (hr.make C us []) (I2.env0.make C us []) b r2 hq) fun r s' hq' => ?_))
  cases r with
  | error er => exact hx σ pins _ _ er s' I2 hq'
  | ok fl =>
    cases fl with
    | ret u =>
      obtain ⟨v, H', I3, rv, ev, q3⟩ := I2.after hq'
      subst ev
      exact ⟨rv, V.ref (s1.heap.objs.size + 1), H', I3, rfl, q3⟩
    | _ => exact False.elim hq'
end
/-! ### the pair of some letters -/
def zerosD (n : Nat) : PyData := .tuple ((List.replicate n 0).map fun k : Nat => .int (k : Nat))
def stillD (n : Nat) : PyData := .tuple [zerosD n]
def chosenT (al ch : Str) : List Tri := (al.cps.toList.filter fun c => decide (c ∈ ch.cps.toList)).map fun c => (0, c, 0)
def chosenD (al ch : Str) : PyData := .list ((chosenT al ch).map encTri)
theorem still_due (n : Nat) : readerDue n (stillD n) = none := by
  unfold readerDue stillD itemsD
  dsimp only
  rw [if_pos ⟨by simp, by simp⟩]
  refine firstBad_none fun j d hd => ?_
  cases j with
  | zero =>
    cases hd
    have hm : moveD (n : Nat) (([zerosD n] : List PyData).length : Nat) (zerosD n) = true := by
      unfold moveD zerosD itemsD
      dsimp only
      exact Bool.and_eq_true_iff.mpr ⟨decide_eq_true (by rw [List.length_map, List.length_replicate]), all_below (m := 1) (fun k hk => by rw [(List.mem_replicate.mp hk).2]; exact Nat.zero_lt_one)⟩
    simp only [hm]
  | succ j => simp at hd
theorem chosen_sub (al ch : Str) : (chosenT al ch).Sublist (fullP 1 1 al.cps.toList) := by
  have e : fullP 1 1 al.cps.toList = al.cps.toList.map fun c => (0, c, 0) := by
    unfold fullP fullC fullQ
    simp [List.range_succ]
    induction al.cps.toList with
    | nil => rfl
    | cons c cs ih => rw [List.flatMap_cons, ih]; rfl
  rw [e]
  exact List.filter_sublist.map _
theorem chosen_due {al ch : Str} (h : alphaD (.str al) = true) : pairDue (.str al) (stillD al.length) (stillD al.length) (chosenD al ch) = .ok := by
  rw [pairDue_ok h, still_due]
  have ha : ascL al.cps.toList = true := by
    have h1 : alphaL al.cps.toList = true := h
    unfold alphaL at h1
    rw [Bool.and_eq_true, Bool.and_eq_true] at h1
    exact h1.2.2
  have e1 : lenD (stillD al.length) = 1 := by unfold lenD stillD itemsD; rfl
  dsimp only
  rw [e1, show chosenD al ch = .list ((chosenT al ch).map encTri) from rfl, marked_due (asc_pair ha) (chosen_sub al ch)]
theorem chosen_small {al ch : Str} (h8 : al.length ≤ 8) : smallA (.str al) (stillD al.length) (stillD al.length) (chosenD al ch) := by
  have hs : smallR (stillD al.length) := fun ds hds => by
    unfold stillD itemsD at hds
    cases hds
    refine ⟨by simp, fun x hx es hes => ?_⟩
    rw [List.mem_singleton.mp hx] at hes
    unfold zerosD itemsD at hes
    cases hes
    rw [List.length_map, List.length_replicate]
    omega
  refine ⟨fun z hz => by cases hz; omega, hs, hs, small_tris _ ?_⟩
  unfold chosenT
  rw [List.length_map]
  have := List.length_filter_le (fun c => decide (c ∈ ch.cps.toList)) al.cps.toList
  have h2 : al.cps.toList.length = al.length := Array.length_toList
  omega
theorem alpha_len {al : Str} (h : alphaD (.str al) = true) : 1 ≤ al.length ∧ al.length ≤ 8 := by
  have h1 : alphaL al.cps.toList = true := h
  unfold alphaL at h1
  have h2 := of_decide_eq_true (Bool.and_eq_true_iff.mp h1).1
  have e : al.cps.toList.length = al.length := Array.length_toList
  omega
theorem alpha_small {al : Str} (h : alphaD (.str al) = true) : ∀ c ∈ al.cps.toList, c < 128 := fun c hc => by
  have h1 : alphaL al.cps.toList = true := h
  unfold alphaL at h1
  have h2 := of_decide_eq_true (List.all_eq_true.mp (Bool.and_eq_true_iff.mp (Bool.and_eq_true_iff.mp h1).2).1 c hc)
  have h3 : ∀ c ∈ lettersL, c < 128 := by decide +kernel
  exact h3 c h2
theorem alpha_asc {al : Str} (h : alphaD (.str al) = true) : ascL al.cps.toList = true := by
  have h1 : alphaL al.cps.toList = true := h
  unfold alphaL at h1
  exact (Bool.and_eq_true_iff.mp (Bool.and_eq_true_iff.mp h1).2).2
theorem choice_in {al ch : Str} (h : choiceB al (.str ch) = true) : ch.length ≤ al.length ∧ ∀ c ∈ ch.cps.toList, c ∈ al.cps.toList := by
  have h1 := Bool.and_eq_true_iff.mp h
  exact ⟨of_decide_eq_true h1.1, fun c hc => of_decide_eq_true (List.all_eq_true.mp h1.2 c hc)⟩
section
variable {P : Program} {w : World} {K : PySem.W.Frag} {mg : Str → Option Value} {base : Heap}
def lettersP (al ch : Str) : PairD := pairD (.str al) (stillD al.length) (stillD al.length) (chosenD al ch)
def sp_of_letters (K : PySem.W.Frag) : Sp := fun vs H Q E => ∃ (va vl : V) (a l : PyData), vs = [.ref (He.ga K "Pair"), va, vl] ∧ Rp H va a ∧ Rp H vl l ∧ smallT a ∧ smallT l ∧
  (alphaD a = false → errAt (He.ga K "BadAlphabet") "thing" va H E) ∧
  (∀ al, a = .str al → alphaD a = true → (∀ z, l = .str z → z.length ≤ al.length → (∀ c ∈ z.cps.toList, c ∈ al.cps.toList) → z.cps.toList.Nodup) ∧
    (choiceB al l = false → errAt (He.ga K "BadLetters") "thing" vl H E) ∧
    (∀ ch, l = .str ch → choiceB al l = true → ∀ H' x, Same H H' → PairAt K H' x (lettersP al ch) → PairOk (lettersP al ch) → Q (.ref x) H'))
theorem ok_of_letters (T : Txt K mg) : ∃ fd, FnOk P w K mg base (L2N.CX P w) 7 (He5.wf K (He.ga K "Pair") "classmethod" "of_letters") fd ["cls", "alphabet", "letters"] (sp_of_letters K) ∧ Binds K fd ["cls", "alphabet", "letters"] [] := by
  obtain ⟨fd, F0⟩ := He5.DefA.funD T.ofl (ex_rest T).2.2.2.2.1
  have F : FnP K "of_letters" "Pair.of_letters" s_Pair_of_letters (He5.wf K (He.ga K "Pair") "classmethod" "of_letters") fd := F0
  obtain ⟨fdR, FR⟩ := F_BadLetters___init__ T
  have bR : Binds K fdR ["self", "thing"] [] := FR.bindsN fun _ _ _ _ _ _ us hl => match us, hl with | [_, _], _ => rfl
  have ex : Ex K "BadLetters" ["thing"] := ex_of T 2
  obtain ⟨fdI, FI⟩ := F_Pair___init__ T
  have bI : Binds K fdI ["self", "alphabet", "left", "right", "marked"] [] := FI.bindsN fun _ _ _ _ _ _ us hl => match us, hl with | [_, _, _, _, _], _ => rfl
  have bF : Binds K fd ["cls", "alphabet", "letters"] [] := F.bindsN fun _ _ _ _ _ _ us hl => match us, hl with | [_, _, _], _ => rfl
  refine ⟨fd, ?_, bF⟩
  refine F.ok sc_Pair_of_letters (fun vs H Q E h => ?_) (fun cdv A outer s H vs Q E hr h => ?_)
  · obtain ⟨va, vl, a, l, rfl, _⟩ := h; rfl
  · refine ⟨_, (pss_cons (ps_expr (pe_cal (E := E) (ok_check_alphabet T) (hr.mono (by decide)) (L2N.passes_call (L2N.takes_of rfl rfl rfl rfl) (fun _ _ _ _ h => h)) (pa_cons (pv 1) pa_nil)))
      (pss_cons (ps_if (pt_not (pt_val (pe_cal (ok_is_choice T) (hr.mono (by decide)) pass0 (pa_cons (pv 1) (pa_cons (pv 2) pa_nil)))))
        (pss_one (ps_raise1 ex (f := "thing") (by decide) rfl (ini_thing FR) bR (hr.mono (by decide)) (L2N.takes_of rfl rfl rfl rfl) (g_BadLetters T) (pa_cons (pv 2) pa_nil))) pss_nil)
      (pss_cons (ps_set (i := 3) sc_Pair_of_letters.nd rfl (Or.inl rfl) (pe_tup (pa_cons (pe_callTy call_tuple_of (by rfl) (fr_tuple T) b_tuple (pa_cons (pe_lc (te := tC (.int 0)) (own := [("_", 4)]) (g := gName 4) (tt := tYes) rfl sc_Pair_of_letters.nd (pi_str (pv 1)) (blkOk_by (N := N_Pair_of_letters) (sc := defScope s_Pair_of_letters) (by decide +kernel))
          (fun _ _ _ _ _ => pg_name (i := 4) sc_Pair_of_letters.nd rfl (Or.inl rfl)) (fun _ _ _ _ _ => pts_nil) (fun _ _ _ _ _ => pe_int)) pa_nil)) pa_nil)))
      (pss_one (ps_ret (pe_makeV (E := fun _ => E) (pv 0) (mkr_Pair T) (ok_Pair_init T FI (ok_masks_of_triples T)) hr bI (fun σ pins H s e s' I c => L2N.passes_call (L2N.takes_of rfl rfl rfl rfl) (fun _ _ _ _ h => h) pins σ H s e s' I c) (pa_cons (pv 1) (pa_cons (pv 3) (pa_cons (pv 3) (pa_cons (pe_lc (own := [("letter", 5)]) (g := gName 5) (tt := tYes) rfl sc_Pair_of_letters.nd (pi_list (pe_callB (cr_sortedT rfl) (by rfl) (fr_sorted T) (by decide +kernel) (pa_cons (pv 2) pa_nil))) (blkOk_by (N := N_Pair_of_letters) (sc := defScope s_Pair_of_letters) (by decide +kernel))
          (fun _ _ _ _ _ => pg_name (i := 5) sc_Pair_of_letters.nd rfl (Or.inl rfl)) (fun _ _ _ _ _ => pts_nil) (fun _ _ _ _ _ => pe_tup (pa_cons pe_int (pa_cons (pv 5) (pa_cons pe_int pa_nil))))) pa_nil)))))))))), ?_⟩
    obtain ⟨va, vl, a, l, rfl, ra, rl, sa, sl, kA, kQ⟩ := h
    refine ⟨va, rfl, va, a, rfl, ra, sa, kA, fun ha H1 s1 => ?_⟩
    have hstr : ∃ al, a = .str al := by
      cases a <;> first | exact ⟨_, rfl⟩ | (exact Bool.noConfusion ha)
    obtain ⟨al, rfl⟩ := hstr
    cases ra
    obtain ⟨hn, kE, q⟩ := kQ al rfl ha
    have rl1 := rl.same s1
    refine ⟨.str al, rfl, vl, rfl, al, vl, l, rfl, rl1, sl, ?h8, ?h128, hn, fun H2 s2 => ⟨_, rfl, ?_⟩⟩
    case h8 => exact (alpha_len ha).2
    case h128 => exact alpha_small ha
    have rl2 := rl1.same s2
    cases hb : choiceB al l with
    | false => exact iteT ⟨vl, rfl, vl, rfl, fun dx hd => kE hb H2 (fun b u e => s2 b u (s1 b u e)) dx hd⟩
    | true =>
      refine iteF ?_
      have hch : ∃ ch, l = .str ch := by
        cases l <;> first | exact ⟨_, rfl⟩ | (exact Bool.noConfusion hb)
      obtain ⟨ch, rfl⟩ := hch
      cases rl2
      obtain ⟨hle, hin⟩ := choice_in hb
      have hnd := hn ch rfl hle hin
      obtain ⟨h8, h128⟩ : al.length ≤ 8 ∧ True := ⟨(alpha_len ha).2, trivial⟩
      refine ⟨.str al, rfl, al, rfl, fun L hL => ?_⟩
      refine lc_new walk_str hL (by show al.length ≤ sizeLine; exact Nat.le_trans h8 (by decide)) (fun (j : Nat) _ v => v = .int ((0 : Nat) : Nat)) (fun _ _ _ _ _ h => h) (fun _ _ => trivial)
        (fun j y H5 H6 Qk hj s5 hy hk => ?_) (fun H3 acc s3 hL3 hl hv => ?_)
      · obtain ⟨eH, c, hc, rfl⟩ := hy
        subst eH
        exact ⟨rfl, hk _ _ (Same.refl _) rfl⟩
      · have ea : acc = (List.replicate al.length 0).map fun k : Nat => V.int (k : Nat) := by
          apply List.ext_getElem?
          intro j
          have hl : acc.length = al.length := hl
          by_cases hj : j < al.length
          · have h9 : j < acc.length := by rw [hl]; exact hj
            rw [List.getElem?_eq_getElem h9, hv j _ (List.getElem?_eq_getElem h9), List.getElem?_map, List.getElem?_replicate, if_pos hj]
            rfl
          · rw [List.getElem?_eq_none (by omega), List.getElem?_eq_none (by rw [List.length_map, List.length_replicate]; omega)]
        subst ea
        refine ⟨L, _, rfl, .inl ⟨SqL.of hL3, fun l hl3 => ⟨(by show 1 ≤ sizeLine; decide), fun p hp => ?_⟩⟩⟩
        have rz : Rt (upd (upd H3 l (.tup _)) p (.tup [V.ref l])) (.ref p) (stillD al.length) := .tup upd_same (.cons (.tup (by rw [upd_ne (fun z => by rw [← z, upd_same] at hp; cases hp)]; exact upd_same) (rtL_ints id _)) .nil)
        have sz : Same H2 (upd (upd H3 l (.tup _)) p (.tup [V.ref l])) := s3.trans ((same_upd hl3).trans (same_upd hp))
        refine ⟨_, rfl, rfl, ?_⟩
        refine ⟨.str al, rfl, .ref p, rfl, .ref p, rfl, .str ch, rfl, ch, rfl, by omega, fun ys p2 hys hsy hp2 => ?_⟩
        obtain ⟨cs, rfl, hcp, hcs⟩ := sorted_signs hys hsy
        have ecs : cs = al.cps.toList.filter fun c => decide (c ∈ ch.cps.toList) := sorted_filter (asc_pair (alpha_asc ha)) hnd hin hcp hcs
        have ect : chosenT al ch = cs.map fun c => (0, c, 0) := by rw [ecs]; rfl
        have hcl : cs.length ≤ 8 := by
          rw [ecs]
          have h1 := List.length_filter_le (fun c => decide (c ∈ ch.cps.toList)) al.cps.toList
          have h2 : al.cps.toList.length = al.length := Array.length_toList
          omega
        have sp2 := same_upd (o := .lst ((cs.map one1).map V.str)) hp2
        refine ⟨p2, rfl, ⟨_, SqL.of upd_same⟩, fun D hD => ?_⟩
        refine lc_new (walk_list (xs := (cs.map one1).map V.str)) hD (by rw [List.length_map, List.length_map]; exact Nat.le_trans hcl (by decide)) (fun (i : Nat) H' v => ∀ c, cs[i]? = some c → Rt H' v (encTri (0, c, 0))) (fun i H1 H2 v s h c hc => (h c hc).tups s) (fun H' s => SqL.of (s _ _ upd_same))
          (fun i x H6 H7 Qk hi s6 hy hk => ?_) (fun H7 acc s7 hD7 hl hv => ?_)
        · obtain ⟨eH, hx⟩ := hy
          subst eH
          rw [List.getElem?_map, List.getElem?_map] at hx
          cases hc : cs[i]? with
          | none => rw [hc] at hx; cases hx
          | some c =>
            rw [hc] at hx
            cases hx
            refine ⟨rfl, .str ⟨#[c]⟩, rfl, (by show 3 ≤ sizeLine; decide), fun p3 hp3 => hk _ _ (same_upd hp3) fun c' hc' => ?_⟩
            rw [hc] at hc'
            cases hc'
            exact .tup upd_same (.cons (.int 0) (.cons (.str _) (.cons (.int 0) .nil)))
        · rw [List.length_map, List.length_map] at hl
          have rm : Rp H7 (.ref D) (chosenD al ch) := .lst hD7 (RtL.rp (by
            rw [ect, List.map_map]
            exact rtL_by (by rw [hl, List.length_map]) fun i v d hi hd => by
              rw [List.getElem?_map] at hd
              cases hc : cs[i]? with
              | none => rw [hc] at hd; cases hd
              | some c => rw [hc] at hd; cases hd; exact hv i v hi c hc))
          intro x dx hx hd hne
          have s57 := sp2.trans s7
          exact init_right hx hd hne (.str _) ((rz.tups (Same.tups s57)).rp) ((rz.tups (Same.tups s57)).rp) rm (chosen_small h8) (chosen_due ha) fun H8 s8 PA PO => q ch rfl hb H8 x (s1.trans (s2.trans (sz.trans (s57.trans s8)))) PA PO
end
end Kx
set_option Elab.async false
set_option linter.all false
set_option maxRecDepth 100000
set_option maxHeartbeats 4000000
namespace Kx
open PySem PySem.Spec PyProof.Rows L2
section
variable {X : Cx} {CX : CXT} {k : Nat} {C p g : Addr} {mc : Value} {fd : FuncData} {ps : List Str} {sp : Sp} {E : L2.St → XK} {o e : Expr} {es : List Expr} {m : Str} {pos apos : Pos} {ta : TE} {t : TA} {pl : Sem Bool}
/-- c.m(..), m a classmethod, in a try -/
def tCMethS (C : Addr) (sp : Sp) (E : L2.St → XK) (ta : TE) (t : TA) : TE := fun σ H Q => ta σ H fun x H1 => x = .ref C ∧ t σ H1 fun vs H2 => sp (.ref C :: vs) H2 Q (E σ)
theorem pe_cmethS (he : PE X o ta) (r : ClX.CRead X.K C mc) (c : ClX.CMet X.K C mc m p g) (F : FnOk X.prog X.w X.K X.mg X.base CX k g fd ps sp) (hb : Binds X.K fd ps []) (hr : Room k X.A) (hx : ∀ σ, PassesAt CX X σ (E σ)) (ha : PA X (e :: es) t)
    (hst : starEach (e :: es) X.env = (false, eval e X.env) :: starEach es X.env := by rfl) (hpl : (backTo pos (starEach es X.env)).any (·.1) = false := by rfl)
    (ht : eval (.Call (.Attribute o m apos) (e :: es) [] pos) X.env = (do
      let ov ← eval o X.env
      standAt apos.atName
      let (f, first) ← holding [ov] (getMethod ov m pl)
      callWith pos f first (backTo pos (starEach (e :: es) X.env)) (backToKw pos (keywordEach [] X.env))) := by rfl) :
    PE X (.Call (.Attribute o m apos) (e :: es) [] pos) (tCMethS C sp E ta t) := by
  refine ⟨fun pins s σ H Q I h => ?_⟩
  refine PySem.W.methodCall_KW (pl := pl) (thn (he.run pins s σ H _ I h) fun u s1 ⟨x, H1, I1, rx, ex, q⟩ => ?_) ht
  subst ex
  obtain rfl : u = Value.ref C := rx
  refine ClX.getmethcm_ok I1 r c fun s2 I2 => ?_
  refine ClX.callwith_cm I2 (ClX.base_none I1 (Nat.le_refl _)) c.fi (thn (ha.run pos _ s2 σ H1 _ I2 q) fun us s3 ⟨vs, H2, I3, rv, q2⟩ => ⟨⟨ClX.pin_at I3, I3.kIn⟩, ?_⟩) hst hpl
  have r2 : Vals (V.ref C :: vs) (Value.ref C :: us) := .cons rfl rv
  have hl : (Value.ref C :: us ++ []).length = ps.length := by rw [List.append_nil, ← F.len _ _ _ _ q2]; exact r2.length.symm
  have b := hb s3 (.ref C :: us) I3.kIn hl
  rw [List.append_nil] at b
  refine wpAny_call (PySem.W.method_call (ClX.pin_at I3) (codeAny_mono (F.run X.A X.stack s3 H2 ⟨.ref C :: us, []⟩ _ _ Q (E σ) hr I3.env0 b r2 q2) fun r s' hq => ?_))
  cases r with
  | error er => exact hx σ _ H2 s3 er s' I3 hq
  | ok fl =>
    cases fl with
    | ret u => exact ClX.unpinE (I3.after hq)
    | _ => exact False.elim hq
end
/-! ### what the program makes of some letters -/
def dueO (a l : PyData) : PyData := match a with
  | .str al => if alphaD a = true then (if choiceB al l = true then (match l with
    | .str ch => .tuple [.str "pair", .str al, stillD al.length, stillD al.length, encT (chosenT al ch)]
    | _ => .none) else .tuple [.str "letters", .str l.shown]) else .tuple [.str "alphabet", .str a.shown]
  | _ => .tuple [.str "alphabet", .str a.shown]
theorem dueO_alph {a l : PyData} (h : alphaD a = false) : dueO a l = .tuple [.str "alphabet", .str a.shown] := by
  unfold dueO
  split
  · rw [if_neg (by rw [h]; exact Bool.noConfusion)]
  · rfl
theorem dueO_let {al : Str} {l : PyData} (h : alphaD (.str al) = true) (hc : choiceB al l = false) : dueO (.str al) l = .tuple [.str "letters", .str l.shown] := by
  unfold dueO
  dsimp only
  rw [if_pos h, if_neg (by rw [hc]; exact Bool.noConfusion)]
theorem dueO_ok {al ch : Str} (h : alphaD (.str al) = true) (hc : choiceB al (.str ch) = true) : dueO (.str al) (.str ch) = .tuple [.str "pair", .str al, stillD al.length, stillD al.length, encT (chosenT al ch)] := by
  unfold dueO
  dsimp only
  rw [if_pos h, if_pos hc]
theorem kept_still (n : Nat) : keptD (stillD n) = stillD n := rfl
theorem kept_chosen (al ch : Str) : keptD (chosenD al ch) = encT (chosenT al ch) := by
  show PyData.tuple (((chosenT al ch).map encTri).map tupOf) = .tuple _
  rw [List.map_map]
  rfl
section
variable {P : Program} {w : World} {K : PySem.W.Frag} {mg : Str → Option Value} {base : Heap}
def sp_law_made_of : Sp := fun vs H Q _ => ∃ (va vl : V) (a l : PyData), vs = [va, vl] ∧ Rp H va a ∧ Rp H vl l ∧ smallT a ∧ smallT l ∧ (alphaD a = false → ReprOk a) ∧
  (∀ al, a = .str al → alphaD a = true → (∀ z, l = .str z → z.length ≤ al.length → (∀ c ∈ z.cps.toList, c ∈ al.cps.toList) → z.cps.toList.Nodup) ∧ (choiceB al l = false → ReprOk l)) ∧
  ∀ H' t, Same H H' → Rt H' t (dueO a l) → Q t H'
theorem ok_law_made_of (T : Txt K mg) : CalG P w K mg base CX0 9 "_law_made_of" ["_law_alphabet_here", "_law_letters"] sp_law_made_of := by
  obtain ⟨fd, F⟩ := F__law_made_of T
  obtain ⟨fdO, FO, bO⟩ := ok_of_letters (P := P) (w := w) (base := base) T
  obtain ⟨fdE, FE, bE, kE⟩ := ok_law_error_told (P := P) (w := w) (base := base) T
  have pf := pairF T
  refine calG_mk F (g__law_made_of T) sc__law_made_of (fun _ _ _ _ _ _ us hl => match us, hl with | [_, _], _ => rfl) (fun vs H Q E h => ?_) (fun cdv A outer s H vs Q E hG hr h => ?_)
  · obtain ⟨va, vl, a, l, rfl, _⟩ := h; rfl
  · refine ⟨_, PSs.nox (pss_cons (L2N.ps_try_as (i := 3) (c := .ref (He.ga K "SaidError")) (ts := tTold K 3) (Wout := fun _ _ _ _ => False) rfl rfl sc__law_made_of.nd rfl rfl ⟨by rfl, by decide, .inl (g_SaidError T)⟩ takes_no
      (fun W pn xe tk po => pss_one (ps_set (i := 2) sc__law_made_of.nd rfl (Or.inl rfl) (pe_cmethS (E := fun σ cls d H => W cls d σ H) (pe_glob (v := .ref (He.ga K "Pair")) (by rfl) (g_Pair T) rfl) ⟨pf.rd, pf.ga⟩ (He5.cmet_of pf.wr pf.fi) FO bO (hr.mono (by decide)) (passAtN tk) (pa_cons (pv 0) (pa_cons (pv 1) pa_nil)))))
      (fun a oe cls d pn hz hf => ?_))
      (pss_one (ps_ret (pe_tup (pa_cons pe_str (pa_cons (pe_fld (pv 2) rfl) (pa_cons (pe_fld (pv 2) rfl) (pa_cons (pe_fld (pv 2) rfl) (pa_cons (pe_fld (pv 2) rfl) pa_nil))))))))), ?_⟩
    · obtain ⟨us, hus⟩ := hf
      refine psS_imp (pss_one (ps_ret (pe_callHG (p := (a, oe)) (E := E0) FE hG ⟨(hr.mono (by decide : 1 ≤ 8)).dp, (hr.mono (by decide : 1 ≤ 8)).un⟩ ⟨rfl, us, hus, hz.2.2 us hus⟩ (List.mem_cons_self ..) (by rfl) (g__law_error_told T) kE bE (fun _ _ _ _ _ _ _ z => z.elim) (pa_cons (pv 3) pa_nil)))) (fun D σ H h' => ?_)
      obtain ⟨hσ, x, dd, fs, res, rfl, rfl, h1, h2, h3⟩ := h'
      exact ⟨.ref a, hσ, x, dd, fs, res, rfl, ⟨hz.1, hz.2.1⟩, ⟨us, hus⟩, h1, h2, h3⟩
    · obtain ⟨va, vl, a, l, rfl, ra, rl, sa, sl, ro, kl, q⟩ := h
      refine ⟨rfl, va, rfl, vl, rfl, ?_⟩
      refine ⟨va, vl, a, l, rfl, ra, rl, sa, sl, fun hb H0 s0 d1 hd1 => ?_, fun al ea ha => ⟨(kl al ea ha).1, fun hc H0 s0 d1 hd1 => ?_, fun ch el hc H1 x s1 PA PO => ?_⟩⟩
      · rw [dueO_alph hb] at q
        have s2 := s0.trans (same_upd (o := .xd [("thing", va)]) hd1)
        exact ⟨true, said_of T 0, fun _ b hb' => ⟨rfl, "BadAlphabet", d1, _, _, rfl, rfl, upd_same, .alph (ra.same s2) (ro hb), fun H2 t s3 r2 => q H2 t (s2.trans s3) r2⟩, fun h => by cases h⟩
      · subst ea
        rw [dueO_let ha hc] at q
        have s2 := s0.trans (same_upd (o := .xd [("thing", vl)]) hd1)
        exact ⟨true, said_of T 2, fun _ b hb' => ⟨rfl, "BadLetters", d1, _, _, rfl, rfl, upd_same, .letters (rl.same s2) ((kl al rfl ha).2 hc), fun H2 t s3 r2 => q H2 t (s2.trans s3) r2⟩, fun h => by cases h⟩
      · subst ea
        subst el
        rw [dueO_ok ha hc] at q
        obtain ⟨eL, eR, eM⟩ := pair_data (chosen_due (ch := ch) ha)
        rw [kept_still] at eL eR
        rw [kept_chosen] at eM
        obtain ⟨dy, wl, wr, wm, wk, h1, h2, h3, h4, h5, h6⟩ := PA
        have Cp := cls_Pair T
        refine ⟨.ref x, rfl, x, _, dy, _, _, rfl, h1, Cp, noat_alphabet T, rfl, .ref x, rfl, x, _, dy, _, wl, rfl, h1, Cp, noat_left T, rfl, .ref x, rfl, x, _, dy, _, wr, rfl, h1, Cp, noat_right T, rfl, .ref x, rfl, x, _, dy, _, wm, rfl, h1, Cp, noat_marked T, rfl, (by show 5 ≤ sizeLine; decide), fun t ht => ?_⟩
        have s9 := same_upd (o := .tup [.str "pair", .str al, wl, wr, wm]) ht
        have h3' : Rt H1 wl (stillD al.length) := by rw [eL]; exact h3
        have h4' : Rt H1 wr (stillD al.length) := by rw [eR]; exact h4
        have h5' : Rt H1 wm (encT (chosenT al ch)) := by rw [eM]; exact h5
        exact q _ _ (s1.trans s9) (.tup upd_same (.cons (.str _) (.cons (.str _) (.cons (h3'.tups (Same.tups s9)) (.cons (h4'.tups (Same.tups s9)) (.cons (h5'.tups (Same.tups s9)) .nil))))))
end
end Kx
set_option Elab.async false
set_option linter.all false
set_option maxRecDepth 100000
set_option maxHeartbeats 4000000
namespace Kx
open PySem PySem.Spec PyProof.Rows L2
/-! ### things in the place of letters -/
def ofL (l : List Nat) : Str := ⟨l.toArray⟩
theorem ofL_cps (l : List Nat) : (ofL l).cps.toList = l := rfl
theorem ofL_of (z : Str) : ofL z.cps.toList = z := rfl
def wordsN (l : List Nat) : Nat → List (List Nat)
  | 0 => [[]]
  | n + 1 => [] :: l.flatMap fun c => (wordsN l n).map fun w => c :: w
theorem words_mem {l : List Nat} : ∀ {n : Nat} {z : List Nat}, z.length ≤ n → (∀ c ∈ z, c ∈ l) → z ∈ wordsN l n
  | 0, [], _, _ => List.mem_singleton.mpr rfl
  | 0, _ :: _, h, _ => absurd h (Nat.not_succ_le_zero _)
  | n + 1, [], _, _ => List.mem_cons_self ..
  | n + 1, c :: z, h, g => List.mem_cons_of_mem _ (List.mem_flatMap.mpr ⟨c, g c (List.mem_cons_self ..), List.mem_map.mpr ⟨z, words_mem (Nat.le_of_succ_le_succ h) (fun d hd => g d (List.mem_cons_of_mem _ hd)), rfl⟩⟩)
def wrongL6 (al : Str) (z : List Nat) : List PyData := [.str (ofL (al.cps.toList.take 1) ++ al), .str (ofL z ++ "z"), .none, .list (z.map fun c => .str ⟨#[c]⟩), .int 0, .str (Txt.upper al)]
def wrongB6 (al : Str) (d : PyData) : Bool := altB d && !choiceB al d
theorem altB_ok {d : PyData} (h : altB d = true) : AltOk d := by
  unfold altB at h
  simp only [Bool.and_eq_true, decide_eq_true_eq, Bool.not_eq_true'] at h
  obtain ⟨h1, h2, h3, h4, h5, h6⟩ := h
  exact ⟨⟨h1, h2, h3, .inr (Nat.le_trans h4 (by decide))⟩, smallTB_ok h5, h6⟩
theorem wrong_ok : ∀ al ∈ menuA, ∀ z : List Nat, z.length ≤ al.length → (∀ c ∈ z, c ∈ al.cps.toList) → ∀ d ∈ wrongL6 al z, AltOk d ∧ choiceB al d = false := by
  have h : (menuA.all fun al => (wordsN al.cps.toList al.length).all fun z => (wrongL6 al z).all (wrongB6 al)) = true := by decide +kernel
  intro al hal z hz hin d hd
  have h1 := List.all_eq_true.mp (List.all_eq_true.mp (List.all_eq_true.mp h al hal) z (words_mem hz hin)) d hd
  unfold wrongB6 at h1
  rw [Bool.and_eq_true, Bool.not_eq_true'] at h1
  exact ⟨altB_ok h1.1, h1.2⟩
theorem twice_ok : ∀ al ∈ menuA, AltOk (.str (al ++ al)) ∧ alphaD (.str (al ++ al)) = false ∧ alphaD (.str al) = true := by
  have h : (menuA.all fun al => altB (.str (al ++ al)) && (!alphaD (.str (al ++ al)) && alphaD (.str al))) = true := by decide +kernel
  intro al hal
  have h1 := List.all_eq_true.mp h al hal
  rw [Bool.and_eq_true, Bool.and_eq_true, Bool.not_eq_true'] at h1
  exact ⟨altB_ok h1.1, h1.2⟩
end Kx
set_option Elab.async false
set_option linter.all false
set_option maxRecDepth 100000
set_option maxHeartbeats 4000000
namespace Kx
open PySem PySem.Spec PyProof.Rows L2
abbrev rInS : V → V → Hp → VK → Prop := fun x y H Q => ∃ (c : Nat) (z : Str), x = .str ⟨#[c]⟩ ∧ y = .str z ∧ Q (.bl (decide (c ∈ z.cps.toList))) H
theorem str_ext : ∀ {x y : Str}, x.cps = y.cps → x = y
  | ⟨_⟩, ⟨_⟩, h => by cases h; rfl
theorem ofL_app (l : List Nat) (c : Nat) : ofL l ++ (⟨#[c]⟩ : Str) = ofL (l ++ [c]) := str_ext (by
  rw [PySem.Str.cps_append]
  unfold ofL
  simp)
theorem erase_map {α β : Type} (f : α → β) : ∀ (l : List α) (k : Nat), (l.map f).eraseIdx k = (l.eraseIdx k).map f
  | [], _ => rfl
  | _ :: _, 0 => rfl
  | x :: l, k + 1 => by
    show f x :: (l.map f).eraseIdx k = f x :: (l.eraseIdx k).map f
    rw [erase_map f l k]
theorem erase_perm {α : Type} : ∀ {l : List α} {k : Nat} (h : k < l.length), (l[k] :: l.eraseIdx k).Perm l
  | x :: l, 0, _ => .refl _
  | x :: l, k + 1, h => by
    have h' : k < l.length := Nat.lt_of_succ_lt_succ h
    show (l[k] :: x :: l.eraseIdx k).Perm (x :: l)
    exact (List.Perm.swap _ _ _).trans ((erase_perm h').cons x)
theorem lay2 (s : String) {z : Str} (h : PyData.strOk z = true) : SeqAt.shaped (.tuple [.str (Str.ofString s), .str z]) = true ∧ PyData.eqv (.tuple [.str (Str.ofString s), .str z]) (.tuple [.str (Str.ofString s), .str z]) = true := by
  have hp : pureD (.tuple [.str (Str.ofString s), .str z]) = true ∧ (PyData.tuple [.str (Str.ofString s), .str z]).depth ≤ 60 := by
    constructor
    · simp only [pureD, pureL, strOk_of, h, Bool.and_true]
    · simp [PyData.depth, PyData.depthAll]
  exact ⟨shaped_of hp.1 hp.2, PySem.SeqAt.eqv_refl _ (lay_pure hp.1)⟩
theorem due_lay6 {al : Str} {n : Nat} {trs : List Nat} {d : PyData} (e : d = .tuple [.str "pair", .str al, stillD n, stillD n, encT (trs.map fun c => (0, c, 0))]) (ha : ∀ c ∈ al.cps.toList, c ∈ lettersL) (ht : ∀ c ∈ trs, c ∈ lettersL) : SeqAt.shaped d = true ∧ PyData.eqv d d = true := by
  have h3 : ∀ x ∈ lettersL, x < 0x110000 := by decide +kernel
  have hal : PyData.strOk al = true := by
    unfold PyData.strOk
    rw [← Array.all_toList, List.all_eq_true]
    exact fun c hc => decide_eq_true (h3 c (ha c hc))
  have hst : pureD (stillD n) = true ∧ (stillD n).depth ≤ 10 := ⟨pure_encR [List.replicate n 0], Nat.le_trans (depth_encR [List.replicate n 0]) (by decide)⟩
  have hen := pure_encT (trs := trs.map fun c => (0, c, 0)) fun t ht' => by
    obtain ⟨c, hc, rfl⟩ := List.mem_map.mp ht'
    exact h3 c (ht c hc)
  have d3 := depth_encT (trs.map fun c => (0, c, 0))
  have hp : pureD d = true ∧ d.depth ≤ 60 := by
    subst e
    constructor
    · simp only [pureD, pureL, strOk_of, hal, hst.1, hen, Bool.and_true]
    · have h2 := hst.2
      simp only [PyData.depth, PyData.depthAll]
      omega
  exact ⟨shaped_of hp.1 hp.2, PySem.SeqAt.eqv_refl _ (lay_pure hp.1)⟩
section
variable {P : Program} {w : World} {K : PySem.W.Frag} {mg : Str → Option Value} {base : Heap}
def sp_law_letters_right : Sp := fun vs H Q _ => ∃ (a : Addr) (al : Str), vs = [.ref a, .str al] ∧ al ∈ menuA ∧ SrcAt H a ∧ ∀ H', Fra a H H' → Q (.bl true) H'
theorem ok_law_letters_right (T : Txt K mg) : CalG P w K mg base CX0 10 "_law_letters_right" ["_law_source_here", "_law_alphabet_here"] sp_law_letters_right := by
  obtain ⟨fd, F⟩ := F__law_letters_right T
  refine calG_mk F (g__law_letters_right T) sc__law_letters_right (fun _ _ _ _ _ _ us hl => match us, hl with | [_, _], _ => rfl) (fun vs H Q E h => ?_) (fun cdv A outer s H vs Q E hG hr h => ?_)
  · obtain ⟨a, al, rfl, _⟩ := h; rfl
  · refine ⟨_, PSs.nox (pss_cons (ps_setLc (i := 2) (own := [("_law_letter", 8)]) (g := (gName 8)) (tt := tYes) rfl sc__law_letters_right.nd rfl rfl (sw_true rfl rfl rfl (by decide +kernel)) (pi_str (pv 1)) (blkOk_by (N := N__law_letters_right) (sc := defScope s__law_letters_right) (by decide +kernel)) (fun _ _ _ _ _ => (pg_name (i := 8) sc__law_letters_right.nd rfl (Or.inl rfl))) (fun _ _ _ _ _ => pts_nil) (fun _ _ _ _ _ => (pv 8)))
        (pss_cons (ps_set (i := 3) sc__law_letters_right.nd rfl (Or.inr rfl) pe_str)
        (pss_cons (ps_for PassesOwn.never rfl (pi_range1 (by rfl) (fr_range T) (pa_cons (pe_cal (ok_law_pick T) (hr.mono (by decide)) pass0 (pa_cons (pv 0) (pa_cons (pe_op op_add (pe_callB call_len (by rfl) (fr_len T) boot_len (pa_cons (pv 1) pa_nil)) pe_int) pa_nil))) pa_nil)) (pg_name (i := 4) sc__law_letters_right.nd rfl (Or.inl rfl)) (pss_one (ps_set (i := 3) sc__law_letters_right.nd rfl (Or.inr rfl) (pe_op op_add_str (pv 3) (pe_bm PySem.F.plainAttrs_list PySem.F.slot_list_pop PySem.F.type_list_pop mt_popAt (pv 2) (pa_cons (pe_cal (ok_law_pick T) (hr.mono (by decide)) pass0 (pa_cons (pv 0) (pa_cons (pe_callB call_len (by rfl) (fr_len T) boot_len (pa_cons (pv 2) pa_nil)) pa_nil))) pa_nil))))))
        (pss_cons (ps_set (i := 5) sc__law_letters_right.nd rfl (Or.inl rfl) (pe_tup (pa_cons (pe_callTy call_tuple_of (by rfl) (fr_tuple T) b_tuple (pa_cons (pe_lc (own := [("_law_letter", 8)]) (g := (gName 8)) (tt := tYes) rfl sc__law_letters_right.nd  (pi_str (pv 1)) (blkOk_by (N := N__law_letters_right) (sc := defScope s__law_letters_right) (by decide +kernel)) (fun _ _ _ _ _ => (pg_name (i := 8) sc__law_letters_right.nd rfl (Or.inl rfl))) (fun _ _ _ _ _ => pts_nil) (fun _ _ _ _ _ => pe_int)) pa_nil)) pa_nil)))
        (pss_cons (ps_set (i := 6) sc__law_letters_right.nd rfl (Or.inl rfl) (pe_tup (pa_cons pe_str (pa_cons (pv 1) (pa_cons (pv 5) (pa_cons (pv 5) (pa_cons (pe_callTy call_tuple_of (by rfl) (fr_tuple T) b_tuple (pa_cons (pe_lc (own := [("_law_letter", 8)]) (g := (gName 8)) (tt := tTest (tOp rInS (tVar 8) (tVar 3))) rfl sc__law_letters_right.nd  (pi_str (pv 1)) (blkOk_by (N := N__law_letters_right) (sc := defScope s__law_letters_right) (by decide +kernel)) (fun _ _ _ _ _ => (pg_name (i := 8) sc__law_letters_right.nd rfl (Or.inl rfl))) (fun _ _ _ _ _ => (pts_one (pt_cmpR op_in_sign (pv 8) (pv 3) rfl))) (fun _ _ _ _ _ => (pe_tup (pa_cons pe_int (pa_cons (pv 8) (pa_cons pe_int pa_nil)))))) pa_nil)) pa_nil)))))))
        (pss_cons (ps_if (pt_cmpR (op_neD (hu64 hr)) (pe_calG (ok_law_made_of T) hG (hr.mono (by decide)) pass0 (pa_cons (pv 1) (pa_cons (pv 3) pa_nil))) (pv 6) (nomark _)) (pss_one (ps_ret pe_bl)) pss_nil)
        (pss_cons (ps_set (i := 7) sc__law_letters_right.nd rfl (Or.inl rfl) (pe_ix ix_list (pe_lst (pa_cons (pe_op op_add_str (pe_ix ix_seq (pv 1) pe_int (fun _ _ => rfl)) (pv 1)) (pa_cons (pe_op op_add_str (pv 3) pe_str) (pa_cons pe_non (pa_cons (pe_callTy (call_listS rfl) (by rfl) (fr_list T) b_list (pa_cons (pv 3) pa_nil)) (pa_cons pe_int (pa_cons (pe_upper (pv 1)) pa_nil))))))) (pe_cal (ok_law_pick T) (hr.mono (by decide)) pass0 (pa_cons (pv 0) (pa_cons pe_int pa_nil))) (fun _ _ => rfl)))
        (pss_cons (ps_if (pt_cmpR (op_neD (hu64 hr)) (pe_calG (ok_law_made_of T) hG (hr.mono (by decide)) pass0 (pa_cons (pv 1) (pa_cons (pv 7) pa_nil))) (pe_tup (pa_cons pe_str (pa_cons (pe_callB (call_repr hG (hu64 hr)) (by rfl) (fr_repr T) b_repr (pa_cons (pv 7) pa_nil)) pa_nil))) (nomark _)) (pss_one (ps_ret pe_bl)) pss_nil)
        (pss_one (ps_ret (pe_cmpR (op_eqD (hu64 hr)) (pe_calG (ok_law_made_of T) hG (hr.mono (by decide)) pass0 (pa_cons (pe_op op_add_str (pv 1) (pv 1)) (pa_cons (pv 7) pa_nil))) (pe_tup (pa_cons pe_str (pa_cons (pe_callB (call_repr hG (hu64 hr)) (by rfl) (fr_repr T) b_repr (pa_cons (pe_op op_add_str (pv 1) (pv 1)) pa_nil)) pa_nil))) (nomark _)))))))))))), ?_⟩
    obtain ⟨a, al, rfl, hal, hs, q⟩ := h
    have hal1 := menu_len al hal
    have hz8 : al.length ≤ sizeLine := Nat.le_trans hal1.2 (by decide)
    have hcl : al.cps.toList.length = al.length := Array.length_toList
    have hsg : (signsV al).length = al.length := by unfold signsV; rw [List.length_map, hcl]
    have hal100 : al.length ≤ 100000 := Nat.le_trans hal1.2 (by decide)
    refine ⟨.str al, rfl, al, rfl, fun L hL => ?_⟩
    have hLa := hs.ne hL
    refine lc_it walk_str (tt := tYes) (fun i H2 => H2 L = some (.lst ((signsV al).take i)) ∧ Same H H2) ⟨by rw [upd_same, List.take_zero], same_upd hL⟩ (fun _ _ _ _ => trivial) ?_ ?_
    · rintro i x H2 H3 hi ⟨h2, s2⟩ ⟨eH, c, hc, rfl⟩
      subst eH
      have hi' : i < al.length := hi
      refine ⟨rfl, .str ⟨#[c]⟩, rfl, _, h2, ?_, ?_, ?_⟩
      · rw [List.length_take]
        exact Nat.lt_of_lt_of_le (by omega : min i (signsV al).length < 13000) (by decide)
      · have e1 : (signsV al)[i]? = some (.str ⟨#[c]⟩) := by unfold signsV; rw [List.getElem?_map, Array.getElem?_toList, hc]; rfl
        rw [upd_same, List.take_succ, e1]
        rfl
      · intro d o e
        rw [upd_ne (ne_of_none e hL)]
        exact s2 d o e
    rintro H2 ⟨h2, s2⟩
    rw [show al.cps.size = (signsV al).length from hsg.symm, List.take_length] at h2
    have f2 := Fra.same hs s2
    refine ⟨.ref a, rfl, .str al, rfl, _, _, rfl, lenV_str hal100, _, _, rfl, rfl, a, _, rfl, by omega, by omega, f2.src, fun A3 S3 C3 n hn0 hn1 => ?_⟩
    obtain ⟨m, rfl⟩ := Int.eq_ofNat_of_zero_le hn0
    have hm : m ≤ al.length := by omega
    have f3 := f2.trans (Fra.drawn A3 S3 C3)
    have h3 := drawn_keep h2 hLa A3 S3 C3
    have hL0 : H L = none := hL
    refine ⟨(m : Nat), rfl, by omega, by omega, ?_⟩
    refine for_it walk_range (fun i σ H3 => ∃ (w4 : Option V) (zl ls : List Nat), σ = [some (.ref a), some (.str al), some (.ref L), some (.str (ofL zl)), w4, none, none, none, none] ∧ H3 L = some (.lst (ls.map fun c => V.str ⟨#[c]⟩)) ∧ (zl ++ ls).Perm al.cps.toList ∧ zl.length = i ∧ Fra a H H3)
      ⟨none, [], al.cps.toList, rfl, h3, .refl _, rfl, f3⟩ (fun _ _ _ _ _ => trivial) ?_ ?_
    · rintro i x σ H4 H5 hi ⟨w4, zl, ls, rfl, h4, hp, hzl, f4⟩ ⟨eH, rfl⟩
      replace eH := eH.symm
      subst eH
      have hi' : i < m := hi
      have hlen := hp.length_eq
      rw [List.length_append] at hlen
      have hls : 1 ≤ ls.length := by omega
      have hml : (ls.map fun c => V.str ⟨#[c]⟩).length = ls.length := List.length_map ..
      refine ⟨.str (ofL zl), rfl, .ref L, rfl, .inl ⟨rfl, _, SqL.of h4⟩, .ref a, rfl, .ref L, rfl, _, _, rfl, lenV_sq (.inl h4) rfl, a, _, rfl, by omega, by omega, f4.src, fun A5 S5 C5 d hd0 hd1 => ?_⟩
      obtain ⟨j, rfl⟩ := Int.eq_ofNat_of_zero_le hd0
      have hj : j < ls.length := by omega
      have h5 := drawn_keep h4 hLa A5 S5 C5
      have f5 := f4.trans (Fra.drawn A5 S5 C5)
      have hsz : (ofL zl).length = zl.length := List.size_toArray ..
      refine ⟨L, _, (j : Nat), j, .str ⟨#[ls[j]]⟩, rfl, rfl, h5, by omega, by omega, ?_, ?_, ?_⟩
      · unfold seqIndex?
        rw [hml]
        have h1 : ¬ (((j : Nat) : Int) < 0) := by omega
        have h2 : (((j : Nat) : Int) < ((ls.length : Nat) : Int)) := by omega
        simp [h1, h2, hj]
      · rw [List.getElem?_map, List.getElem?_eq_getElem hj]; rfl
      · refine ⟨_, _, rfl, rfl, ?_, ?_⟩
        · rw [hsz]
          exact Nat.le_trans (by show zl.length + 1 ≤ 9; omega) (by decide)
        · rw [ofL_app]
          refine ⟨_, zl ++ [ls[j]], ls.eraseIdx j, rfl, ?_, ?_, ?_, f5.over hL0 hLa⟩
          · rw [upd_same, erase_map]
          · rw [List.append_assoc]
            exact ((erase_perm hj).append_left zl).trans hp
          · rw [List.length_append]; show zl.length + 1 = i + 1; omega
    · rintro σ H4 ⟨w4, zl, ls, rfl, h4, hp, hzl, f4⟩
      have hzin : ∀ c ∈ zl, c ∈ al.cps.toList := fun c hc => hp.subset (List.mem_append_left _ hc)
      have hznd : zl.Nodup := ((hp.nodup_iff.mpr (menu_nodup al hal)).sublist (List.sublist_append_left zl ls))
      have hzle : zl.length ≤ al.length := by
        have h1 := hp.length_eq
        rw [List.length_append] at h1
        omega
      obtain ⟨twO, twF, haT⟩ := twice_ok al hal
      have hch : choiceB al (.str (ofL zl)) = true := by
        refine Bool.and_eq_true_iff.mpr ⟨decide_eq_true ?_, List.all_eq_true.mpr fun c hc => decide_eq_true (hzin c hc)⟩
        show (ofL zl).length ≤ _
        rw [show (ofL zl).length = zl.length from List.size_toArray ..]
        exact hzle
      refine ⟨.str al, rfl, al, rfl, fun D hD => ?_⟩
      refine lc_new walk_str hD (by show al.length ≤ sizeLine; exact hz8) (fun (j : Nat) _ v => v = .int ((0 : Nat) : Nat)) (fun _ _ _ _ _ h => h) (fun _ _ => trivial)
        (fun j y H5 H6 Qk hj s5 hy hk => ?_) (fun H5 acc s5 hD5 hl hv => ?_)
      · obtain ⟨eH, c, hc, rfl⟩ := hy
        subst eH
        exact ⟨rfl, hk _ _ (Same.refl _) rfl⟩
      have ea : acc = (List.replicate al.length 0).map fun k : Nat => V.int (k : Nat) := by
        apply List.ext_getElem?
        intro j
        have hl : acc.length = al.length := hl
        by_cases hj : j < al.length
        · have h9 : j < acc.length := by rw [hl]; exact hj
          rw [List.getElem?_eq_getElem h9, hv j _ (List.getElem?_eq_getElem h9), List.getElem?_map, List.getElem?_replicate, if_pos hj]
          rfl
        · rw [List.getElem?_eq_none (by omega), List.getElem?_eq_none (by rw [List.length_map, List.length_replicate]; omega)]
      subst ea
      refine ⟨D, _, rfl, .inl ⟨SqL.of hD5, fun l hl3 => ⟨(by show 1 ≤ sizeLine; decide), fun p hp => ?_⟩⟩⟩
      have rz : Rt (upd (upd H5 l (.tup ((List.replicate al.length 0).map fun k : Nat => V.int (k : Nat)))) p (.tup [V.ref l])) (.ref p) (stillD al.length) := .tup upd_same (.cons (.tup (by rw [upd_ne (fun z => by rw [← z, upd_same] at hp; cases hp)]; exact upd_same) (rtL_ints id _)) .nil)
      have sz := s5.trans ((same_upd hl3).trans (same_upd (o := .tup [V.ref l]) hp))
      have fz := f4.trans (Fra.same f4.src sz)
      clear sz
      revert rz fz
      generalize upd (upd H5 l (.tup ((List.replicate al.length 0).map fun k : Nat => V.int (k : Nat)))) p (.tup [V.ref l]) = H6
      intro rz fz
      refine ⟨.str al, rfl, .ref p, rfl, .ref p, rfl, .str al, rfl, al, rfl, fun D2 hD2 => ?_⟩
      refine lc_it walk_str (tt := tTest (tOp rInS (tVar 8) (tVar 3))) (fun i H2 => ∃ acc, H2 D2 = some (.lst acc) ∧ RtL H2 acc (((al.cps.toList.take i).filter fun c => decide (c ∈ zl)).map fun c => encTri (0, c, 0)) ∧ acc.length ≤ i ∧ Same H6 H2) ⟨[], upd_same, .nil, Nat.le_refl _, same_upd hD2⟩ (fun _ _ _ _ => trivial) ?_ ?_
      · rintro i x H7 H8 hi ⟨acc, h7, r7, l7, s7⟩ ⟨eH, c, hc, rfl⟩
        replace eH := eH.symm
        subst eH
        have hi' : i < al.length := hi
        have hc' : al.cps.toList[i]? = some c := by rw [Array.getElem?_toList]; exact hc
        refine ⟨rfl, .str ⟨#[c]⟩, rfl, .str (ofL zl), rfl, c, ofL zl, rfl, rfl, ?_⟩
        by_cases hcz : c ∈ zl
        · refine ⟨true, by rw [show decide (c ∈ (ofL zl).cps.toList) = true from decide_eq_true hcz], ?_⟩
          refine iteT ⟨.str ⟨#[c]⟩, rfl, (by show 3 ≤ sizeLine; decide), fun p3 hp3 => ⟨acc, same_upd hp3 _ _ h7, Nat.lt_of_le_of_lt (by omega : acc.length ≤ 8) (by decide), acc ++ [.ref p3], upd_same, ?_, ?_, ?_⟩⟩
          · have s3 := same_upd (o := .tup [.int 0, .str ⟨#[c]⟩, .int 0]) hp3
            have hpD : p3 ≠ D2 := fun z => by rw [z, h7] at hp3; cases hp3
            have tp : ∀ b xs, upd H7 p3 (.tup [.int 0, .str ⟨#[c]⟩, .int 0]) b = some (.tup xs) → upd (upd H7 p3 (.tup [.int 0, .str ⟨#[c]⟩, .int 0])) D2 (.lst (acc ++ [.ref p3])) b = some (.tup xs) := fun b xs e => by
              by_cases hb : b = D2
              · subst hb; rw [s3 _ _ h7] at e; cases e
              · rw [upd_ne hb]; exact e
            have e1 : (al.cps.toList.take (i + 1)).filter (fun c => decide (c ∈ zl)) = (al.cps.toList.take i).filter (fun c => decide (c ∈ zl)) ++ [c] := by
              rw [List.take_succ, hc', List.filter_append]
              show _ ++ List.filter _ [c] = _
              rw [List.filter_cons_of_pos (by exact decide_eq_true hcz)]
              rfl
            rw [e1, List.map_append]
            refine RtL.append ?_ (RtL.tups (fun b xs e => tp b xs (s3 _ _ e)) r7)
            exact .tup (tp _ _ upd_same) (.cons (.int 0) (.cons (.str _) (.cons (.int 0) .nil)))
          · rw [List.length_append]; show acc.length + 1 ≤ i + 1; omega
          · intro d o e
            rw [upd_ne (ne_of_none e hD2)]
            exact same_upd hp3 _ _ (s7 d o e)
        · refine ⟨false, by rw [show decide (c ∈ (ofL zl).cps.toList) = false from decide_eq_false hcz], ?_⟩
          refine iteF ⟨acc, h7, ?_, by omega, s7⟩
          have e1 : (al.cps.toList.take (i + 1)).filter (fun c => decide (c ∈ zl)) = (al.cps.toList.take i).filter (fun c => decide (c ∈ zl)) := by
            rw [List.take_succ, hc', List.filter_append]
            show _ ++ List.filter _ [c] = _
            rw [List.filter_cons_of_neg (by rw [decide_eq_false hcz]; exact Bool.noConfusion)]
            exact List.append_nil _
          rw [e1]
          exact r7
      rintro H7 ⟨acc, h7, r7, l7, s7⟩
      rw [show al.cps.size = al.cps.toList.length from rfl, List.take_length] at r7
      refine ⟨D2, _, rfl, .inl ⟨SqL.of h7, fun t1 ht1 => ⟨(by show 5 ≤ sizeLine; decide), fun t2 ht2 => ?_⟩⟩⟩
      have s1 := same_upd (o := .tup acc) ht1
      have s2' := same_upd (o := .tup [.str "pair", .str al, .ref p, .ref p, .ref t1]) ht2
      have rd : Rt (upd (upd H7 t1 (.tup acc)) t2 (.tup [.str "pair", .str al, .ref p, .ref p, .ref t1])) (.ref t2) (dueO (.str al) (.str (ofL zl))) := by
        rw [dueO_ok haT hch]
        refine .tup upd_same (.cons (.str _) (.cons (.str _) (.cons (rz.tups (Same.tups (s7.trans (s1.trans s2')))) (.cons (rz.tups (Same.tups (s7.trans (s1.trans s2')))) (.cons (.tup (s2' _ _ upd_same) ?_) .nil)))))
        unfold chosenT
        rw [List.map_map]
        exact r7.tups (Same.tups (s1.trans s2'))
      have fd := fz.trans (Fra.same fz.src (s7.trans (s1.trans s2')))
      clear s1 s2'
      revert rd fd
      generalize upd (upd H7 t1 (.tup acc)) t2 (.tup [.str "pair", .str al, .ref p, .ref p, .ref t1]) = H8
      intro rd fd
      have sT : ∀ z : Str, z.length ≤ 100000 → smallT (.str z) := fun z hz z' e => by cases e; exact hz
      have hoz : (ofL zl).length = zl.length := List.size_toArray ..
      have spz : ∀ d : PyData, pureD d = true → d.depth ≤ 60 → SeqAt.shaped d = true ∧ PyData.eqv d d = true := fun d h1 h2 => ⟨shaped_of h1 h2, PySem.SeqAt.eqv_refl _ (lay_pure h1)⟩
      obtain ⟨sh1, eq1⟩ := due_lay6 (dueO_ok haT hch) (menu_letters al hal) (fun c hc => menu_letters al hal c (List.mem_filter.mp hc).1)
      refine ⟨.str al, rfl, .str (ofL zl), rfl, .str al, .str (ofL zl), .str al, .str (ofL zl), rfl, .str _, .str _, sT _ hal100, sT _ (by rw [hoz]; omega), fun h => (by rw [haT] at h; cases h), fun al' e _ => ?_, fun H9 u s9 ru => ⟨.ref t2, rfl, _, _, ru.dp, (rd.tups (Same.tups s9)).dp, sh1, sh1, _, rfl, ?_⟩⟩
      · cases e
        exact ⟨fun z e _ _ => by cases e; exact hznd, fun h => by rw [hch] at h; cases h⟩
      rw [eq1]
      refine iteF ?_
      obtain ⟨c0, cr, hcr⟩ : ∃ c0 cr, al.cps.toList = c0 :: cr := by
        cases h : al.cps.toList with
        | nil => rw [h] at hcl; simp at hcl; omega
        | cons c r => exact ⟨c, r, rfl⟩
      have lz : ("z" : Str).length = 1 := by decide +kernel
      have one : (⟨#[c0]⟩ : Str).length = 1 := rfl
      have l2 : (⟨#[c0]⟩ : Str).length + al.length ≤ sizeLine := by rw [one]; exact Nat.le_trans (by omega : 1 + al.length ≤ 16) (by decide)
      have l3 : (ofL zl).length + ("z" : Str).length ≤ sizeLine := by rw [lz, hoz]; exact Nat.le_trans (by omega : zl.length + 1 ≤ 16) (by decide)
      have l4 : (ofL zl).length ≤ sizeLine := by rw [hoz]; exact Nat.le_trans (by omega : zl.length ≤ 16) (by decide)
      have hc0 : al.cps.toList[0]? = some c0 := by rw [hcr]; rfl
      refine ⟨.str al, rfl, .inr (.inr ⟨al, _, c0, rfl, rfl, hz8, atI_nat (j := 0) hc0, .str al, rfl, _, _, rfl, rfl, l2, .str (ofL zl), rfl, _, _, rfl, rfl, l3, .str (ofL zl), rfl, ofL zl, rfl, l4, fun l hl => ⟨.str al, rfl, ⟨_, rfl⟩, _, rfl, rfl, Nat.le_trans hal1.2 (by decide), (by show 6 ≤ sizeLine; decide), fun L2 hL2 => ⟨.ref a, rfl, ?_⟩⟩⟩)⟩
      have f9 := fd.trans (Fra.same fd.src s9)
      generalize hlst : ([.str ((⟨#[c0]⟩ : Str) ++ al), .str (ofL zl ++ "z"), .non, .ref l, .int 0, .str (Txt.upper al)] : List V) = lst at hL2 ⊢
      have g1 := same_upd (o := .lst (signsV (ofL zl))) hl
      have g2 := same_upd (o := .lst lst) hL2
      have hla := f9.src.ne hl
      have hL2a := (f9.src.same g1).ne hL2
      have eL := upd_at (o := .lst lst) hL2
      have el := g2 _ _ (upd_at (o := .lst (signsV (ofL zl))) hl)
      have f10 := f9.trans (Fra.same f9.src (g1.trans g2))
      have ew : ofL (al.cps.toList.take 1) = (⟨#[c0]⟩ : Str) := by rw [hcr]; rfl
      have rp : RpL (del (upd (upd H9 l (.lst (signsV (ofL zl)))) L2 (.lst lst)) a) lst (wrongL6 al zl) := by
        rw [← hlst] at *
        unfold wrongL6
        rw [ew]
        exact .cons (.str _) (.cons (.str _) (.cons .non (.cons (.lst (by rw [del_ne hla]; exact el) (rpL_signs _)) (.cons (.int _) (.cons (.str _) .nil)))))
      have hln : lst.length = 6 := rp.length
      refine ⟨a, _, rfl, by omega, by omega, f10.src, fun A15 S15 C15 d hd0 hd1 => ?_⟩
      have f15 := f10.trans (Fra.drawn A15 S15 C15)
      obtain ⟨k, rfl⟩ := Int.eq_ofNat_of_zero_le hd0
      have hk : k < lst.length := by omega
      have rp15 := rp.same (Fra.drawn (a := a) A15 S15 C15).sm
      obtain ⟨e, he, re⟩ := rp15.get (List.getElem?_eq_getElem hk)
      obtain ⟨AO, ncE⟩ := wrong_ok al hal zl hzle hzin e (List.mem_of_getElem? he)
      refine ⟨L2, _, _, lst[k], rfl, rfl, SqL.of (drawn_keep eL hL2a A15 S15 C15), atI_nat (List.getElem?_eq_getElem hk), ?_⟩
      have re15 := re.same (del_le a)
      revert re15 f15
      generalize upd _ a (three A15 S15 C15) = H15
      intro f15 re15
      obtain ⟨shE, eqE⟩ := lay2 "letters" AO.o
      refine ⟨.str al, rfl, lst[k], rfl, .str al, lst[k], .str al, e, rfl, .str _, re15, sT _ hal100, AO.s, fun h => (by rw [haT] at h; cases h), fun al' e' _ => ?_, fun H16 u s16 ru => ?_⟩
      · cases e'
        refine ⟨fun z ez hz hi => ?_, fun _ => AO.r⟩
        subst ez
        rw [show choiceB al (.str z) = true from Bool.and_eq_true_iff.mpr ⟨decide_eq_true hz, List.all_eq_true.mpr fun c hc => decide_eq_true (hi c hc)⟩] at ncE
        cases ncE
      rw [dueO_let haT ncE] at ru
      refine ⟨lst[k], rfl, lst[k], e, rfl, (re15.same s16).dp AO.r.nd, AO.r.sh, AO.r.nd, AO.r.dp, AO.r.sz, (by show 2 ≤ sizeLine; decide), fun t3 ht3 => ?_⟩
      have s17 := same_upd (o := .tup [.str "letters", .str e.shown]) ht3
      have r17 : Rt (upd H16 t3 (.tup [.str "letters", .str e.shown])) (.ref t3) (.tuple [.str "letters", .str e.shown]) := .tup upd_same (.cons (.str _) (.cons (.str _) .nil))
      refine ⟨_, _, (ru.tups (Same.tups s17)).dp, r17.dp, shE, shE, _, rfl, ?_⟩
      rw [eqE]
      refine iteF ?_
      have f17 := f15.trans (Fra.same f15.src (s16.trans s17))
      have re17 := (re15.same s16).same s17
      obtain ⟨shF, eqF⟩ := lay2 "alphabet" twO.o
      have l5 : al.length + al.length ≤ sizeLine := Nat.le_trans (by omega : al.length + al.length ≤ 16) (by decide)
      refine ⟨.str al, rfl, .str al, rfl, _, _, rfl, rfl, l5, lst[k], rfl, .str (al ++ al), lst[k], .str (al ++ al), e, rfl, .str _, re17, twO.s, AO.s, fun _ => twO.r, fun al' e' h => (by cases e'; rw [twF] at h; cases h), fun H18 u2 s18 ru2 => ?_⟩
      rw [dueO_alph twF] at ru2
      refine ⟨.str al, rfl, .str al, rfl, _, _, rfl, rfl, l5, .str (al ++ al), .str (al ++ al), rfl, .str _, twO.r.sh, twO.r.nd, twO.r.dp, twO.r.sz, (by show 2 ≤ sizeLine; decide), fun t4 ht4 => ?_⟩
      have s19 := same_upd (o := .tup [.str "alphabet", .str (PyData.str (al ++ al)).shown]) ht4
      have r19 : Rt (upd H18 t4 (.tup [.str "alphabet", .str (PyData.str (al ++ al)).shown])) (.ref t4) (.tuple [.str "alphabet", .str (PyData.str (al ++ al)).shown]) := .tup upd_same (.cons (.str _) (.cons (.str _) .nil))
      refine ⟨_, _, (ru2.tups (Same.tups s19)).dp, r19.dp, shF, shF, ?_⟩
      rw [eqF]
      exact q _ (f17.trans (Fra.same f17.src (s18.trans s19)))
end
end Kx
set_option Elab.async false
set_option linter.all false
set_option maxRecDepth 100000
set_option maxHeartbeats 4000000
namespace Kx
open PySem PySem.Spec PyProof.Rows L2
abbrev rNotInS : V → V → Hp → VK → Prop := fun x y H Q => ∃ (c : Nat) (z : Str), x = .str ⟨#[c]⟩ ∧ y = .str z ∧ Q (.bl (!decide (c ∈ z.cps.toList))) H
structure EqOk (d : PyData) : Prop where
  sh : SeqAt.shaped d = true
  eq : PyData.eqv d d = true
theorem eqok_of {d : PyData} (h : d.canLay0 = true) (hd : d.depth ≤ 60) : EqOk d := by
  refine ⟨?_, PySem.SeqAt.eqv_refl _ h⟩
  unfold SeqAt.shaped
  rw [h, decide_eq_true (Nat.le_trans hd (by decide))]
  rfl
theorem eqok_told (bs : List Bool) : EqOk (.tuple [.str "told", encB bs]) := by
  refine eqok_of ?_ ?_
  · unfold encB
    simp only [PyData.canLay0, PyData.canLayAll0, lay_bls, strOk_of, Bool.and_true]
  · unfold encB
    simp only [PyData.depth, PyData.depthAll]
    have := depthAll_map (l := bs) (f := PyData.bool) (n := 0) fun a _ => by simp [PyData.depth]
    omega
theorem eqok_told1 (b : Bool) : EqOk (.tuple [.str "told", .bool b]) := by
  refine eqok_of ?_ ?_
  · simp only [PyData.canLay0, PyData.canLayAll0, strOk_of, Bool.and_true]
  · simp [PyData.depth, PyData.depthAll]
theorem called_row {D : PairD} {d : PyData} {k : Int} (h : wrongL D.al.cps.toList d = some k) : calledD D d = .tuple [.str "row", .str (PyData.int k).shown] := by unfold calledD; rw [h]
theorem asked_row {D : PairD} {d e : PyData} {k : Int} (h : wrongL D.al.cps.toList d = some k) : askedD D d e = .tuple [.str "row", .str (PyData.int k).shown] := by unfold askedD; rw [h]
theorem called_told {D : PairD} {z : Str} (h : wrongL D.al.cps.toList (.str z) = none) : calledD D (.str z) = .tuple [.str "told", encB (marksP D z.cps.toList)] := by unfold calledD; rw [h]
theorem asked_told {D : PairD} {z : Str} {e : PyData} (h : wrongL D.al.cps.toList (.str z) = none) : askedD D (.str z) e = if belowD z.length e = true then .tuple [.str "told", .bool ((marksP D z.cps.toList).getD (natD e) false)] else .tuple [.str "place", .str e.shown] := by unfold askedD; rw [h]
theorem firstNot_in {al : List Nat} : ∀ {cs : List Nat} {k : Nat}, firstNot al cs k = none → ∀ c ∈ cs, c ∈ al
  | [], _, _ => fun c hc => by cases hc
  | c :: cs, k, h => fun d hd => by
    unfold firstNot at h
    by_cases hc : c ∈ al
    · rw [if_pos hc] at h
      rcases List.mem_cons.mp hd with e | e
      · rw [e]; exact hc
      · exact firstNot_in h d e
    · rw [if_neg hc] at h
      cases h
theorem wrongL_none {al : List Nat} {d : PyData} (h : wrongL al d = none) : ∃ z, d = .str z ∧ z.length ≤ 200 ∧ ∀ c ∈ z.cps.toList, c ∈ al := by
  cases d with
  | str z =>
    have h : (if z.length ≤ 200 then firstNot al z.cps.toList 0 else some (-1)) = none := h
    by_cases hz : z.length ≤ 200
    · rw [if_pos hz] at h
      exact ⟨z, rfl, hz, firstNot_in h⟩
    · rw [if_neg hz] at h
      cases h
  | _ => cases h
def plD (n m : Nat) : List PyData := [.int (n : Nat), .int (-1), .bool true, .none, .str "0", .int 0, .int ((n : Nat) - 1), .int (-(n : Nat)), .bool false, .int (m : Nat)]
def plV (n m : Nat) : List V := [.int (n : Nat), .int (-1), .bl true, .non, .str "0", .int 0, .int ((n : Nat) - 1), .int (-(n : Nat)), .bl false, .int (m : Nat)]
theorem rpL_pl {H : Hp} (n m : Nat) : RpL H (plV n m) (plD n m) :=
  .cons (.int _) (.cons (.int _) (.cons (.bl _) (.cons .non (.cons (.str _) (.cons (.int _) (.cons (.int _) (.cons (.int _) (.cons (.bl _) (.cons (.int _) .nil)))))))))
theorem pl_ok (n m : Nat) (hn : n ≤ 8) (hm : m ≤ 8) : ∀ d ∈ plD n m, AltOk d := by
  have h : ((List.range 9).all fun n => (List.range 9).all fun m => (plD n m).all altB) = true := by decide +kernel
  intro d hd
  exact altB_ok (List.all_eq_true.mp (List.all_eq_true.mp (List.all_eq_true.mp h n (List.mem_range.mpr (by omega))) m (List.mem_range.mpr (by omega))) d hd)
theorem atI_last {α : Type} {xs : List α} (h : 1 ≤ xs.length) : ∃ v, atI xs (-1) = some v := by
  have h1 : xs.length - 1 < xs.length := by omega
  refine ⟨xs[xs.length - 1], ?_⟩
  have e : ixN xs.length (-1) = some (xs.length - 1) := by
    unfold ixN
    rw [if_neg (by decide), if_pos (by omega)]
    congr 1
    omega
  unfold atI
  rw [e]
  exact List.getElem?_eq_getElem h1
theorem str_app (x y : Str) : (x ++ y).length = x.length + y.length := by
  show (x ++ y).cps.size = x.cps.size + y.cps.size
  rw [PySem.Str.cps_append, Array.size_append]
abbrev abc13 : Str := "abcdefghizA 0"
theorem abc13_len : abc13.cps.toList.length ≤ 13 := by decide +kernel
theorem strange_len : ∀ al ∈ menuA, 1 ≤ (abc13.cps.toList.filter fun c => !decide (c ∈ al.cps.toList)).length ∧ (abc13.cps.toList.filter fun c => !decide (c ∈ al.cps.toList)).length ≤ 13 := by decide +kernel
section
variable {P : Program} {w : World} {K : PySem.W.Frag} {mg : Str → Option Value} {base : Heap}
def sp_law_rows_right (K : PySem.W.Frag) : Sp := fun vs H Q _ => ∃ (a x : Addr) (al : Str) (v : V) (ls rs : List (List Nat)) (trs : List Tri) (row : Str), vs = [.ref a, .str al, v, .ref x, .str row] ∧ al ∈ menuA ∧ Rp (del H a) v (tabsD ls rs trs) ∧ TabsOk al 4 ls rs trs ∧
  PairAt K (del H a) x ⟨al, ixF al, ls, rs, trs⟩ ∧ PairOk ⟨al, ixF al, ls, rs, trs⟩ ∧ row.length ≤ 8 ∧ (∀ c ∈ row.cps.toList, c ∈ al.cps.toList) ∧ SrcAt H a ∧ ∀ H', Fra a H H' → Q (.bl true) H'
theorem ok_law_rows_right (T : Txt K mg) : CalG P w K mg base CX0 7 "_law_rows_right" ["_law_source_here", "_law_alphabet_here", "_law_tables_here", "_law_pair", "_law_row"] (sp_law_rows_right K) := by
  obtain ⟨fd, F⟩ := F__law_rows_right T
  refine calG_mk F (g__law_rows_right T) sc__law_rows_right (fun _ _ _ _ _ _ us hl => match us, hl with | [_, _, _, _, _], _ => rfl) (fun vs H Q E h => ?_) (fun cdv A outer s H vs Q E hG hr h => ?_)
  · obtain ⟨a, x, al, v, ls, rs, trs, row, rfl, _⟩ := h; rfl
  · obtain ⟨a, x, al, vt, ls, rs, trs, row, rfl, hal, rt, TO, PA, PO, hrow, hin, hs, q⟩ := h
    have hal1 := menu_len al hal
    have hz8 : al.length ≤ sizeLine := Nat.le_trans hal1.2 (by decide)
    have hcl : al.cps.toList.length = al.length := Array.length_toList
    obtain ⟨tl, htl, hq⟩ : ∃ tl : TS, PSs (cxOf CX0 P w K mg base N__law_rows_right "_law_rows_right" (defScope s__law_rows_right) (He.ga K "_law_rows_right") cdv A outer s H E).nox ((defBody s__law_rows_right).drop 6) tl ∧
        ∀ (H2 : Hp) (v6 v8 v5 : V) (v p : V) (d e : PyData), Fra a H H2 → Rp H2 v d → smallT d → Rp H2 p e → ReprOk e → PyData.strOk e.shown = true →
          tl { nx := fun _ H' => Q .non H', rt := Q } [some (.ref a), some (.str al), some vt, some (.ref x), some (.str row), some v5, some v6, some v, some v8, some p, none, none, none] H2 := by
      refine ⟨_, (pss_cons (ps_set (i := 10) sc__law_rows_right.nd rfl (Or.inl rfl) (pe_cal (ok_law_row_fault T) (hr.mono (by decide)) pass0 (pa_cons (pv 1) (pa_cons (pv 7) pa_nil))))
        (pss_cons (ps_if (pt_cmpR op_notN (pv 10) pe_non (nomark _)) (pss_one (ps_ret (pe_and (pe_cmpR (op_eqD (hu64 hr)) (pe_calG (ok_law_called T) hG (hr.mono (by decide)) pass0 (pa_cons (pv 3) (pa_cons (pv 7) pa_nil))) (pe_tup (pa_cons pe_str (pa_cons (pe_callB (call_repr hG (hu64 hr)) (by rfl) (fr_repr T) b_repr (pa_cons (pv 10) pa_nil)) pa_nil))) (nomark _)) (pe_one (pe_cmpR (op_eqD (hu64 hr)) (pe_calG (ok_law_asked T) hG (hr.mono (by decide)) pass0 (pa_cons (pv 3) (pa_cons (pe_tup (pa_cons (pv 7) (pa_cons (pv 9) pa_nil))) pa_nil))) (pe_tup (pa_cons pe_str (pa_cons (pe_callB (call_repr hG (hu64 hr)) (by rfl) (fr_repr T) b_repr (pa_cons (pv 10) pa_nil)) pa_nil))) (nomark _)))))) pss_nil)
        (pss_cons (ps_set (i := 11) sc__law_rows_right.nd rfl (Or.inl rfl) (pe_cal (ok_law_read T) (hr.mono (by decide)) pass0 (pa_cons (pv 1) (pa_cons (pv 2) (pa_cons (pv 7) pa_nil)))))
        (pss_cons (ps_if (pt_cmpR (op_neD (hu64 hr)) (pe_calG (ok_law_called T) hG (hr.mono (by decide)) pass0 (pa_cons (pv 3) (pa_cons (pv 7) pa_nil))) (pe_tup (pa_cons pe_str (pa_cons (pe_callTy call_tuple_of (by rfl) (fr_tuple T) b_tuple (pa_cons (pv 11) pa_nil)) pa_nil))) (nomark _)) (pss_one (ps_ret pe_bl)) pss_nil)
        (pss_cons (ps_if (pt_not (pt_val (pe_cal (ok_law_is_number T) (hr.mono (by decide)) pass0 (pa_cons (pv 9) (pa_cons pe_int (pa_cons (pe_op op_sub (pe_callB call_len (by rfl) (fr_len T) boot_len (pa_cons (pv 7) pa_nil)) pe_int) pa_nil)))))) (pss_one (ps_ret (pe_cmpR (op_eqD (hu64 hr)) (pe_calG (ok_law_asked T) hG (hr.mono (by decide)) pass0 (pa_cons (pv 3) (pa_cons (pe_tup (pa_cons (pv 7) (pa_cons (pv 9) pa_nil))) pa_nil))) (pe_tup (pa_cons pe_str (pa_cons (pe_callB (call_repr hG (hu64 hr)) (by rfl) (fr_repr T) b_repr (pa_cons (pv 9) pa_nil)) pa_nil))) (nomark _)))) pss_nil)
        (pss_one (ps_ret (pe_cmpR (op_eqD (hu64 hr)) (pe_calG (ok_law_asked T) hG (hr.mono (by decide)) pass0 (pa_cons (pv 3) (pa_cons (pe_tup (pa_cons (pv 7) (pa_cons (pv 9) pa_nil))) pa_nil))) (pe_tup (pa_cons pe_str (pa_cons (pe_ix ix_list (pv 11) (pv 9) (fun _ _ => rfl)) pa_nil))) (nomark _))))))))), ?_⟩
      intro H2 v6 v8 v5 v p d e f2 rv sm rp ro so
      have PA2 := PA.same f2.up
      have rt2 := rt.same f2.up
      refine ⟨.str al, rfl, v, rfl, al, v, d, rfl, rv, sm, ?_⟩
      cases hw : wrongL al.cps.toList d with
      | some k =>
        have hk := wrongL_lt hw
        have rk := reprOk_int hk
        obtain ⟨shR, eqR⟩ := lay2 "row" (strOk_shown k)
        refine ⟨.int k, rfl, rfl, _, rfl, ?_⟩
        rw [show (!decide (V.int k = V.non)) = true from by simp]
        refine iteT ?_
        refine ⟨.ref x, rfl, v, rfl, x, _, v, d, rfl, PA2, PO, rv, sm, fun H3 u s3 ru => ?_⟩
        rw [called_row hw] at ru
        refine ⟨.int k, rfl, .int k, .int k, rfl, .int k, rk.sh, rk.nd, rk.dp, rk.sz, (by show 2 ≤ sizeLine; decide), fun t3 ht3 => ?_⟩
        have s4 := same_upd (o := .tup [.str "row", .str (PyData.int k).shown]) ht3
        have r4 : Rt (upd H3 t3 (.tup [.str "row", .str (PyData.int k).shown])) (.ref t3) (.tuple [.str "row", .str (PyData.int k).shown]) := .tup upd_same (.cons (.str _) (.cons (.str _) .nil))
        refine ⟨_, _, (ru.tups (Same.tups s4)).dp, r4.dp, shR, shR, _, rfl, ?_⟩
        rw [eqR]
        refine iteT ?_
        have s24 := s3.trans s4
        refine ⟨.ref x, rfl, v, rfl, p, rfl, (by show 2 ≤ sizeLine; decide), fun t5 ht5 => ?_⟩
        have s5 := same_upd (o := .tup [v, p]) ht5
        have s25 := s24.trans s5
        refine ⟨x, _, .ref t5, .tuple [d, e], d, e, rfl, PA2.same s25, PO, .tup upd_same (.cons (rv.same s25) (.cons (rp.same s25) .nil)), rfl, sm, ro, fun H6 u2 s6 ru2 => ?_⟩
        rw [asked_row hw] at ru2
        refine ⟨.int k, rfl, .int k, .int k, rfl, .int k, rk.sh, rk.nd, rk.dp, rk.sz, (by show 2 ≤ sizeLine; decide), fun t7 ht7 => ?_⟩
        have s7 := same_upd (o := .tup [.str "row", .str (PyData.int k).shown]) ht7
        have r7 : Rt (upd H6 t7 (.tup [.str "row", .str (PyData.int k).shown])) (.ref t7) (.tuple [.str "row", .str (PyData.int k).shown]) := .tup upd_same (.cons (.str _) (.cons (.str _) .nil))
        refine ⟨_, _, (ru2.tups (Same.tups s7)).dp, r7.dp, shR, shR, ?_⟩
        rw [eqR]
        exact q _ (f2.trans (Fra.same f2.src (s25.trans (s6.trans s7))))
      | none =>
        refine ⟨.non, rfl, rfl, _, rfl, ?_⟩
        rw [show (!decide (V.non = V.non)) = false from by simp]
        refine iteF ?_
        obtain ⟨z, rfl, hz, hzin⟩ := wrongL_none hw
        cases rv
        have hnd := menu_nodup al hal
        refine ⟨.str al, rfl, vt, rfl, .str z, rfl, al, vt, z, ls, rs, trs, rfl, rt2, PO.l, PO.r, hnd, fun t ht => (PO.m t ht).2.1, Nat.le_trans TO.le (by decide), hzin, Nat.le_trans hz (by decide), fun H3 pl s3 hpl => ?_⟩
        refine ⟨.ref x, rfl, .str z, rfl, x, _, .str z, .str z, rfl, PA2.same s3, PO, .str z, sm, fun H4 u s4 ru => ?_⟩
        rw [called_told hw] at ru
        have hpl4 := s4 _ _ hpl
        have E1 := eqok_told (marksP ⟨al, ixF al, ls, rs, trs⟩ z.cps.toList)
        refine ⟨.ref pl, rfl, pl, _, rfl, .inl ⟨SqL.of hpl4, fun t6 ht6 => ⟨(by show 2 ≤ sizeLine; decide), fun t7 ht7 => ?_⟩⟩⟩
        have s6 := same_upd (o := .tup ((marksP ⟨al, ixF al, ls, rs, trs⟩ z.cps.toList).map V.bl)) ht6
        have s7 := same_upd (o := .tup [.str "told", .ref t6]) ht7
        have r7 : Rt (upd (upd H4 t6 (.tup ((marksP ⟨al, ixF al, ls, rs, trs⟩ z.cps.toList).map V.bl))) t7 (.tup [.str "told", .ref t6])) (.ref t7) (.tuple [.str "told", encB (marksP ⟨al, ixF al, ls, rs, trs⟩ z.cps.toList)]) :=
          .tup upd_same (.cons (.str _) (.cons (.tup (s7 _ _ upd_same) (rtL_bls _)) .nil))
        refine ⟨_, _, (ru.tups (Same.tups (s6.trans s7))).dp, r7.dp, E1.sh, E1.sh, _, rfl, ?_⟩
        rw [E1.eq]
        refine iteF ?_
        have s27 := (s3.trans s4).trans (s6.trans s7)
        have hpl7 := s7 _ _ (s6 _ _ hpl4)
        clear s6 s7 r7
        revert s27 hpl7
        generalize upd (upd H4 t6 (.tup ((marksP ⟨al, ixF al, ls, rs, trs⟩ z.cps.toList).map V.bl))) t7 (.tup [.str "told", .ref t6]) = H7
        intro s27 hpl7
        have rp7 := rp.same s27
        have hz1 : z.length ≤ 100000 := Nat.le_trans hz (by decide)
        refine ⟨p, rfl, .str z, rfl, _, _, rfl, lenV_str hz1, _, _, rfl, rfl, p, 0, _, _, rfl, rp7.ko, ?_⟩
        rw [rp_num rp7, num_below]
        refine ⟨_, rfl, ?_⟩
        have PA7 := PA2.same s27
        have f7 := f2.trans (Fra.same f2.src s27)
        cases hb : belowD (z.length : Nat) e with
        | false =>
          refine iteT ?_
          obtain ⟨shP, eqP'⟩ := lay2 "place" so
          refine ⟨.ref x, rfl, .str z, rfl, p, rfl, (by show 2 ≤ sizeLine; decide), fun t8 ht8 => ?_⟩
          have s8 := same_upd (o := .tup [.str z, p]) ht8
          refine ⟨x, _, .ref t8, .tuple [.str z, e], .str z, e, rfl, PA7.same s8, PO, .tup upd_same (.cons (.str _) (.cons (rp7.same s8) .nil)), rfl, sm, ro, fun H9 u2 s9 ru2 => ?_⟩
          rw [asked_told hw, if_neg (by rw [hb]; exact Bool.noConfusion)] at ru2
          refine ⟨p, rfl, p, e, rfl, ((rp7.same s8).same s9).dp ro.nd, ro.sh, ro.nd, ro.dp, ro.sz, (by show 2 ≤ sizeLine; decide), fun t10 ht10 => ?_⟩
          have s10 := same_upd (o := .tup [.str "place", .str e.shown]) ht10
          have r10 : Rt (upd H9 t10 (.tup [.str "place", .str e.shown])) (.ref t10) (.tuple [.str "place", .str e.shown]) := .tup upd_same (.cons (.str _) (.cons (.str _) .nil))
          refine ⟨_, _, (ru2.tups (Same.tups s10)).dp, r10.dp, shP, shP, ?_⟩
          rw [eqP']
          exact q _ (f7.trans (Fra.same f7.src (s8.trans (s9.trans s10))))
        | true =>
          refine iteF ?_
          obtain ⟨n, rfl, hn⟩ : ∃ n : Nat, e = .int (n : Nat) ∧ n < z.length := by
            cases e with
            | int i =>
              obtain ⟨h1, h2⟩ := Bool.and_eq_true_iff.mp hb
              have h3 := of_decide_eq_true h1
              have h4 := of_decide_eq_true h2
              obtain ⟨n, rfl⟩ := Int.eq_ofNat_of_zero_le h3
              exact ⟨n, rfl, by omega⟩
            | _ => cases hb
          cases rp
          have hml : (marksP ⟨al, ixF al, ls, rs, trs⟩ z.cps.toList).length = z.length := by rw [marksP_length]; exact Array.length_toList
          refine ⟨.ref x, rfl, .str z, rfl, .int (n : Nat), rfl, (by show 2 ≤ sizeLine; decide), fun t8 ht8 => ?_⟩
          have s8 := same_upd (o := .tup [.str z, .int (n : Nat)]) ht8
          refine ⟨x, _, .ref t8, .tuple [.str z, .int (n : Nat)], .str z, .int (n : Nat), rfl, PA7.same s8, PO, .tup upd_same (.cons (.str _) (.cons (.int _) .nil)), rfl, sm, ro, fun H9 u2 s9 ru2 => ?_⟩
          rw [asked_told hw, if_pos hb] at ru2
          have hpl9 := s9 _ _ (s8 _ _ hpl7)
          have hn' : n < (marksP ⟨al, ixF al, ls, rs, trs⟩ z.cps.toList).length := by omega
          have E2 := eqok_told1 ((marksP ⟨al, ixF al, ls, rs, trs⟩ z.cps.toList).getD (natD (.int (n : Nat))) false)
          have eg : (marksP ⟨al, ixF al, ls, rs, trs⟩ z.cps.toList).getD (natD (.int (n : Nat))) false = (marksP ⟨al, ixF al, ls, rs, trs⟩ z.cps.toList)[n] := by
            show (marksP ⟨al, ixF al, ls, rs, trs⟩ z.cps.toList).getD n false = _
            rw [List.getD_eq_getElem?_getD, List.getElem?_eq_getElem hn']
            rfl
          refine ⟨.ref pl, rfl, .int (n : Nat), rfl, pl, _, _, .bl ((marksP ⟨al, ixF al, ls, rs, trs⟩ z.cps.toList)[n]), rfl, rfl, SqL.of hpl9, atI_nat (by rw [List.getElem?_map, List.getElem?_eq_getElem hn']; rfl), (by show 2 ≤ sizeLine; decide), fun t10 ht10 => ?_⟩
          rw [← eg]
          have s10 := same_upd (o := .tup [.str "told", .bl ((marksP ⟨al, ixF al, ls, rs, trs⟩ z.cps.toList).getD (natD (.int (n : Nat))) false)]) ht10
          have r10 : Rt (upd H9 t10 (.tup [.str "told", .bl ((marksP ⟨al, ixF al, ls, rs, trs⟩ z.cps.toList).getD (natD (.int (n : Nat))) false)])) (.ref t10) (.tuple [.str "told", .bool ((marksP ⟨al, ixF al, ls, rs, trs⟩ z.cps.toList).getD (natD (.int (n : Nat))) false)]) := .tup upd_same (.cons (.str _) (.cons (.bl _) .nil))
          refine ⟨_, _, (ru2.tups (Same.tups s10)).dp, r10.dp, E2.sh, E2.sh, ?_⟩
          rw [E2.eq]
          exact q _ (f7.trans (Fra.same f7.src (s8.trans (s9.trans s10))))
    obtain ⟨tl1, htl1, hq1⟩ : ∃ tl : TS, PSs (cxOf CX0 P w K mg base N__law_rows_right "_law_rows_right" (defScope s__law_rows_right) (He.ga K "_law_rows_right") cdv A outer s H E).nox ((defBody s__law_rows_right).drop 5) tl ∧
        ∀ (H2 : Hp) (n1 : Nat) (v8 v5 : V) (v : V) (d : PyData), Fra a H H2 → Rp (del H2 a) v d → smallT d → n1 ≤ 8 →
          tl { nx := fun _ H' => Q .non H', rt := Q } [some (.ref a), some (.str al), some vt, some (.ref x), some (.str row), some v5, some (.int (n1 : Nat)), some v, some v8, none, none, none, none] H2 := by
      refine ⟨_, (pss_cons (ps_set (i := 9) sc__law_rows_right.nd rfl (Or.inl rfl) (pe_ix ix_list (pe_lst (pa_cons (pe_callB call_len (by rfl) (fr_len T) boot_len (pa_cons (pv 4) pa_nil)) (pa_cons (pe_un un_neg pe_int) (pa_cons pe_bl (pa_cons pe_non (pa_cons pe_str (pa_cons pe_int (pa_cons (pe_op op_sub (pe_callB call_len (by rfl) (fr_len T) boot_len (pa_cons (pv 4) pa_nil)) pe_int) (pa_cons (pe_un un_neg (pe_callB call_len (by rfl) (fr_len T) boot_len (pa_cons (pv 4) pa_nil))) (pa_cons pe_bl (pa_cons (pv 6) pa_nil))))))))))) (pe_cal (ok_law_pick T) (hr.mono (by decide)) pass0 (pa_cons (pv 0) (pa_cons pe_int pa_nil))) (fun _ _ => rfl)))
        htl), ?_⟩
      intro H2 n1 v8 v5 v d f2 rv sm hn1
      have hr1 : row.length ≤ 100000 := Nat.le_trans hrow (by decide)
      refine ⟨.str row, rfl, _, _, rfl, lenV_str hr1, _, rfl, .str row, rfl, _, _, rfl, lenV_str hr1, _, _, rfl, rfl, .str row, rfl, _, _, rfl, lenV_str hr1, _, rfl, .int (n1 : Nat), rfl, (by show 10 ≤ sizeLine; decide), fun L hL => ?_⟩
      have g1 := same_upd (o := .lst (plV row.length n1)) hL
      have hLa := f2.src.ne hL
      have eL := upd_at (o := .lst (plV row.length n1)) hL
      have f3 := f2.trans (Fra.same f2.src g1)
      have rp3 : RpL (del (upd H2 L (.lst (plV row.length n1))) a) (plV row.length n1) (plD row.length n1) := rpL_pl _ _
      refine ⟨.ref a, rfl, a, _, rfl, by omega, by omega, f3.src, fun A5 S5 C5 k hk0 hk1 => ?_⟩
      obtain ⟨k, rfl⟩ := Int.eq_ofNat_of_zero_le hk0
      have hk : k < (plV row.length n1).length := by show k < 10; omega
      have f5 := f3.trans (Fra.drawn A5 S5 C5)
      obtain ⟨e, he, re⟩ := rp3.get (List.getElem?_eq_getElem hk)
      have AO := pl_ok row.length n1 hrow hn1 e (List.mem_of_getElem? he)
      refine ⟨L, _, _, (plV row.length n1)[k], rfl, rfl, SqL.of (drawn_keep eL hLa A5 S5 C5), atI_nat (List.getElem?_eq_getElem hk), ?_⟩
      have sf := ((same_del a g1).trans (Fra.drawn (a := a) A5 S5 C5).sm).trans (del_le a)
      exact hq _ _ _ _ v _ d e f5 (rv.same sf) sm (re.same ((Fra.drawn (a := a) A5 S5 C5).sm.trans (del_le a))) AO.r AO.o
    refine ⟨_, PSs.nox (pss_cons (ps_setLc (i := 5) (own := [("_law_sign", 12)]) (g := (gName 12)) (tt := tTest (tOp rNotInS (tVar 12) (tVar 1))) rfl sc__law_rows_right.nd rfl rfl (sw_true rfl rfl rfl (by decide +kernel)) (pi_str pe_str) (blkOk_by (N := N__law_rows_right) (sc := defScope s__law_rows_right) (by decide +kernel)) (fun _ _ _ _ _ => (pg_name (i := 12) sc__law_rows_right.nd rfl (Or.inl rfl))) (fun _ _ _ _ _ => (pts_one (pt_cmpR op_notIn_sign (pv 12) (pv 1) rfl))) (fun _ _ _ _ _ => (pv 12)))
        (pss_cons (ps_set (i := 6) sc__law_rows_right.nd rfl (Or.inl rfl) (pe_cal (ok_law_pick T) (hr.mono (by decide)) pass0 (pa_cons (pv 0) (pa_cons (pe_op op_add (pe_callB call_len (by rfl) (fr_len T) boot_len (pa_cons (pv 4) pa_nil)) pe_int) pa_nil))))
        (pss_cons (ps_set (i := 7) sc__law_rows_right.nd rfl (Or.inl rfl) (pe_op op_add_str (pe_op op_add_str (pe_slice sl_str (pv 4) po_none (po_some (pv 6))) (pe_ix ix_list (pv 5) (pe_cal (ok_law_pick T) (hr.mono (by decide)) pass0 (pa_cons (pv 0) (pa_cons (pe_callB call_len (by rfl) (fr_len T) boot_len (pa_cons (pv 5) pa_nil)) pa_nil))) (fun _ _ => rfl))) (pe_slice sl_str (pv 4) (po_some (pv 6)) po_none)))
        (pss_cons (ps_set (i := 8) sc__law_rows_right.nd rfl (Or.inl rfl) (pe_cal (ok_law_pick T) (hr.mono (by decide)) pass0 (pa_cons (pv 0) (pa_cons pe_int pa_nil))))
        (pss_cons (ps_if (pt_cmpR op_eq (pv 8) pe_int (nomark _)) (pss_one (ps_set (i := 7) sc__law_rows_right.nd rfl (Or.inl rfl) (pe_ix ix_list (pe_lst (pa_cons pe_non (pa_cons pe_int (pa_cons (pe_callTy (call_listS rfl) (by rfl) (fr_list T) b_list (pa_cons (pv 4) pa_nil)) (pa_cons (pe_tup (pa_cons (pv 4) (pa_cons pe_int pa_nil))) pa_nil))))) (pe_cal (ok_law_pick T) (hr.mono (by decide)) pass0 (pa_cons (pv 0) (pa_cons pe_int pa_nil))) (fun _ _ => rfl)))) (pss_one (ps_if (pt_cmpR op_eq (pv 8) pe_int (nomark _)) (pss_one (ps_set (i := 7) sc__law_rows_right.nd rfl (Or.inl rfl) (pe_op op_add_str (pv 7) (pe_op op_rep1 (pe_ix ix_seq (pv 1) pe_int (fun _ _ => rfl)) (pe_op op_sub pe_int (pe_callB call_len (by rfl) (fr_len T) boot_len (pa_cons (pv 4) pa_nil))))))) (pss_one (ps_if (pt_cmpR op_eq (pv 8) pe_int (nomark _)) (pss_one (ps_set (i := 7) sc__law_rows_right.nd rfl (Or.inl rfl) (pe_op op_add_str (pv 4) (pe_op op_rep1 (pe_ix ix_seq (pv 1) (pe_un un_neg pe_int) (fun _ _ => rfl)) (pe_op op_add (pe_op op_sub pe_int (pe_callB call_len (by rfl) (fr_len T) boot_len (pa_cons (pv 4) pa_nil))) (pe_cal (ok_law_pick T) (hr.mono (by decide)) pass0 (pa_cons (pv 0) (pa_cons pe_int pa_nil)))))))) (pss_one (ps_if (pt_cmpR op_eq (pv 8) pe_int (nomark _)) (pss_one (ps_set (i := 7) sc__law_rows_right.nd rfl (Or.inl rfl) (pv 4))) pss_nil)))))))
        htl1))))), ?_⟩
    have hr1 : row.length ≤ 100000 := Nat.le_trans hrow (by decide)
    have hrz : row.length ≤ sizeLine := Nat.le_trans hrow (by decide)
    obtain ⟨hst1, hst2⟩ := strange_len al hal
    refine ⟨_, rfl, fun D hD => ?_⟩
    have hDa := hs.ne hD
    refine lc_it walk_str (tt := tTest (tOp rNotInS (tVar 12) (tVar 1))) (fun i H2 => H2 D = some (.lst (((abc13.cps.toList.take i).filter fun c => !decide (c ∈ al.cps.toList)).map fun c => V.str ⟨#[c]⟩)) ∧ Same H H2) ⟨by rw [upd_same, List.take_zero]; rfl, same_upd hD⟩ (fun _ _ _ _ => trivial) ?_ ?_
    · rintro i x H2 H3 hi ⟨h2, s2⟩ ⟨eH, c, hc, rfl⟩
      replace eH := eH.symm
      subst eH
      have hc' : abc13.cps.toList[i]? = some c := by rw [Array.getElem?_toList]; exact hc
      refine ⟨rfl, .str ⟨#[c]⟩, rfl, .str al, rfl, c, al, rfl, rfl, ?_⟩
      by_cases hcz : c ∈ al.cps.toList
      · refine ⟨false, by rw [decide_eq_true hcz]; rfl, ?_⟩
        refine iteF ⟨?_, s2⟩
        rw [h2, List.take_succ, hc', List.filter_append]
        show _ = some (HO.lst ((_ ++ List.filter _ [c]).map _))
        rw [List.filter_cons_of_neg (by rw [decide_eq_true hcz]; exact Bool.noConfusion), List.filter_nil, List.append_nil]
      · refine ⟨true, by rw [decide_eq_false hcz]; rfl, ?_⟩
        refine iteT ⟨.str ⟨#[c]⟩, rfl, _, h2, ?_, ?_, ?_⟩
        · rw [List.length_map]
          have h1 := List.length_filter_le (fun c => !decide (c ∈ al.cps.toList)) (abc13.cps.toList.take i)
          have h3 : (abc13.cps.toList.take i).length ≤ 13 := by rw [List.length_take]; exact Nat.le_trans (Nat.min_le_right _ _) abc13_len
          exact Nat.lt_of_le_of_lt (Nat.le_trans h1 h3) (by decide)
        · rw [upd_same, List.take_succ, hc', List.filter_append, List.map_append]
          show _ = some (HO.lst (_ ++ (List.filter _ [c]).map _))
          rw [List.filter_cons_of_pos (by rw [decide_eq_false hcz]; rfl), List.filter_nil]
          rfl
        · intro d o e
          rw [upd_ne (ne_of_none e hD)]
          exact s2 d o e
    rintro H2 ⟨h2, s2⟩
    rw [show abc13.cps.size = abc13.cps.toList.length from rfl, List.take_length] at h2
    have f2 := Fra.same hs s2
    refine ⟨.ref a, rfl, .str row, rfl, _, _, rfl, lenV_str hr1, _, _, rfl, rfl, a, _, rfl, by omega, by omega, f2.src, fun A3 S3 C3 n hn0 hn1 => ?_⟩
    obtain ⟨n, rfl⟩ := Int.eq_ofNat_of_zero_le hn0
    have f3 := f2.trans (Fra.drawn A3 S3 C3)
    have h3 := drawn_keep h2 hDa A3 S3 C3
    generalize (abc13.cps.toList.filter fun c => !decide (c ∈ al.cps.toList)) = st at h3 hst1 hst2
    clear h2
    have hstl : (st.map fun c => V.str ⟨#[c]⟩).length = st.length := List.length_map ..
    refine ⟨.str row, rfl, .int (n : Nat), rfl, _, rfl, row, rfl, hrz, .ref D, rfl, .ref a, rfl, .ref D, rfl, _, _, rfl, lenV_sq (.inl h3) rfl, a, _, rfl, by omega, by omega, f3.src, fun A4 S4 C4 j hj0 hj1 => ?_⟩
    obtain ⟨j, rfl⟩ := Int.eq_ofNat_of_zero_le hj0
    have hj : j < st.length := by omega
    have f4 := f3.trans (Fra.drawn A4 S4 C4)
    have h4 := drawn_keep h3 hDa A4 S4 C4
    have c1 := cutS_length row none (some (n : Nat))
    have c2 := cutS_length row (some (n : Nat)) none
    have one : (⟨#[st[j]]⟩ : Str).length = 1 := rfl
    have l1 : (cutS row none (some (n : Nat))).length + (⟨#[st[j]]⟩ : Str).length ≤ sizeLine := by rw [one]; exact Nat.le_trans (by omega : _ + 1 ≤ 16) (by decide)
    have la1 : (cutS row none (some (n : Nat)) ++ (⟨#[st[j]]⟩ : Str)).length = (cutS row none (some (n : Nat))).length + 1 := str_app _ _
    have l2 : (cutS row none (some (n : Nat)) ++ (⟨#[st[j]]⟩ : Str)).length + (cutS row (some (n : Nat)) none).length ≤ sizeLine := by rw [la1]; exact Nat.le_trans (by omega : _ ≤ 17) (by decide)
    refine ⟨D, _, _, .str ⟨#[st[j]]⟩, rfl, rfl, SqL.of h4, atI_nat (by rw [List.getElem?_map, List.getElem?_eq_getElem hj]; rfl), _, _, rfl, rfl, l1, .str row, rfl, .int (n : Nat), rfl, _, rfl, row, rfl, hrz, _, _, rfl, rfl, l2, ?_⟩
    have hth : (cutS row none (some (n : Nat)) ++ (⟨#[st[j]]⟩ : Str) ++ cutS row (some (n : Nat)) none).length ≤ 17 := by
      rw [str_app, la1]
      omega
    generalize cutS row none (some ((n : Nat) : Int)) ++ (⟨#[st[j]]⟩ : Str) ++ cutS row (some ((n : Nat) : Int)) none = th at hth ⊢
    clear h3 l1 l2 la1 c1 c2
    refine ⟨.ref a, rfl, a, _, rfl, by omega, by omega, f4.src, fun A5 S5 C5 wy hw0 hw1 => ?_⟩
    have f5 := f4.trans (Fra.drawn A5 S5 C5)
    revert f5
    generalize upd _ a (three A5 S5 C5) = H5
    intro f5
    have hn8 : n ≤ 8 := by omega
    have smS : ∀ z : Str, z.length ≤ 100000 → smallT (.str z) := fun z hz z' e => by cases e; exact hz
    refine ⟨.int wy, rfl, rfl, _, rfl, ?_⟩
    obtain ⟨c0, cr, hcr⟩ : ∃ c0 cr, al.cps.toList = c0 :: cr := by
      cases h : al.cps.toList with
      | nil => rw [h] at hcl; simp at hcl; omega
      | cons c r => exact ⟨c, r, rfl⟩
    have hc0 : al.cps.toList[0]? = some c0 := by rw [hcr]; rfl
    obtain ⟨cz, hcz⟩ : ∃ cz, atI al.cps.toList (-1) = some cz := atI_last (by omega)
    have repl : ∀ (z : Str) (n c : Nat), z.cps.toList = List.replicate n c → z.length = n := fun z n c h => by
      rw [show z.length = z.cps.toList.length from rfl, h, List.length_replicate]
    cases hw4 : decide (V.int wy = V.int 4) with
    | true =>
      refine iteT ⟨.str row, rfl, row, rfl, hrz, fun l hl => ⟨.str row, rfl, (by show 2 ≤ sizeLine; decide), fun t ht => ⟨(by show 4 ≤ sizeLine; decide), fun L hL => ?_⟩⟩⟩
      generalize hlst : ([.non, .int 7, .ref l, .ref t] : List V) = lst at hL ⊢
      have g1 := same_upd (o := .lst (signsV row)) hl
      have g2 := same_upd (o := .tup [.str row, .int 0]) ht
      have g3 := same_upd (o := .lst lst) hL
      have hla := f5.src.ne hl
      have hta := (f5.src.same g1).ne ht
      have hLa := (f5.src.same (g1.trans g2)).ne hL
      have eL := upd_at (o := .lst lst) hL
      have el := g3 _ _ (g2 _ _ (upd_at (o := .lst (signsV row)) hl))
      have et := g3 _ _ (upd_at (o := .tup [.str row, .int 0]) ht)
      have f6 := f5.trans (Fra.same f5.src (g1.trans (g2.trans g3)))
      have rp : RpL (del (upd (upd (upd H5 l (.lst (signsV row))) t (.tup [.str row, .int 0])) L (.lst lst)) a) lst [.none, .int 7, .list (row.cps.toList.map fun c => .str ⟨#[c]⟩), .tuple [.str row, .int 0]] := by
        rw [← hlst] at *
        exact .cons .non (.cons (.int _) (.cons (.lst (by rw [del_ne hla]; exact el) (rpL_signs _)) (.cons (.tup (by rw [del_ne hta]; exact et) (.cons (.str _) (.cons (.int _) .nil))) .nil)))
      have hln : lst.length = 4 := rp.length
      refine ⟨.ref a, rfl, a, _, rfl, by omega, by omega, f6.src, fun A7 S7 C7 k hk0 hk1 => ?_⟩
      obtain ⟨k, rfl⟩ := Int.eq_ofNat_of_zero_le hk0
      have hk : k < lst.length := by omega
      have f7 := f6.trans (Fra.drawn A7 S7 C7)
      have rp7 := rp.same (Fra.drawn (a := a) A7 S7 C7).sm
      obtain ⟨e, he, re⟩ := rp7.get (List.getElem?_eq_getElem hk)
      refine ⟨L, _, _, lst[k], rfl, rfl, SqL.of (drawn_keep eL hLa A7 S7 C7), atI_nat (List.getElem?_eq_getElem hk), ?_⟩
      refine hq1 _ n _ _ lst[k] e f7 re (fun z hz => ?_) hn8
      subst hz
      have := List.mem_of_getElem? he
      simp at this
    | false =>
      refine iteF ⟨.int wy, rfl, rfl, _, rfl, ?_⟩
      cases hw5 : decide (V.int wy = V.int 5) with
      | true =>
        refine iteT ⟨.str th, rfl, .str al, rfl, .inr (.inr ⟨al, _, c0, rfl, rfl, hz8, atI_nat (j := 0) hc0, .str row, rfl, _, _, rfl, lenV_str hr1, _, _, rfl, rfl, c0, _, rfl, rfl, by omega, by omega, fun z hz => ?_⟩)⟩
        have hzl := repl _ _ _ hz
        refine ⟨_, _, rfl, rfl, Nat.le_trans (by omega : _ ≤ 300) (by decide), ?_⟩
        exact hq1 _ n _ _ _ (.str (th ++ z)) f5 (.str _) (smS _ (by rw [str_app]; omega)) hn8
      | false =>
        refine iteF ⟨.int wy, rfl, rfl, _, rfl, ?_⟩
        cases hw6 : decide (V.int wy = V.int 6) with
        | true =>
          refine iteT ⟨.str row, rfl, .str al, rfl, 1, rfl, .inr (.inr ⟨al, _, cz, rfl, rfl, hz8, hcz, .str row, rfl, _, _, rfl, lenV_str hr1, _, _, rfl, rfl, .ref a, rfl, a, _, rfl, by omega, by omega, f5.src, fun A7 S7 C7 k hk0 hk1 => ⟨_, _, rfl, rfl, cz, _, rfl, rfl, by omega, by omega, fun z hz => ?_⟩⟩)⟩
          have hzl := repl _ _ _ hz
          have f7 := f5.trans (Fra.drawn A7 S7 C7)
          refine ⟨_, _, rfl, rfl, Nat.le_trans (by omega : _ ≤ 300) (by decide), ?_⟩
          exact hq1 _ n _ _ _ (.str (row ++ z)) f7 (.str _) (smS _ (by rw [str_app]; omega)) hn8
        | false =>
          refine iteF ⟨.int wy, rfl, rfl, _, rfl, ?_⟩
          cases hw7 : decide (V.int wy = V.int 7) with
          | true => exact iteT ⟨.str row, rfl, hq1 _ n _ _ _ (.str row) f5 (.str _) (smS _ hr1) hn8⟩
          | false => exact iteF (hq1 _ n _ _ _ (.str th) f5 (.str _) (smS _ (by omega)) hn8)
end
end Kx
set_option Elab.async false
set_option linter.all false
set_option maxRecDepth 100000
set_option maxHeartbeats 4000000
namespace Kx
open PySem PySem.Spec PyProof.Rows L2
/-! ### sorted(x), x a list of triples -/
instance (s t : Tri) : Decidable (ltT s t) := by unfold ltT; infer_instance
theorem ltT_tri (s t : Tri) : ltT s t ∨ s = t ∨ ltT t s := by
  obtain ⟨a, b, c⟩ := s
  obtain ⟨a', b', c'⟩ := t
  unfold ltT
  dsimp only
  rw [Prod.mk.injEq, Prod.mk.injEq]
  omega
theorem ltT_irr (s : Tri) : ¬ ltT s s := by unfold ltT; omega
theorem ltT_asy {s t : Tri} (h : ltT s t) : ¬ ltT t s := by unfold ltT at *; omega
theorem ltT_tra {s t u : Tri} (h : ltT s t) (g : ltT t u) : ltT s u := by unfold ltT at *; omega
theorem dataLt_tri (s t : Tri) : PySem.W.dataLt (encTri s) (encTri t) = decide (ltT s t) := by
  rcases ltT_tri s t with h | h | h
  · rw [lt_tri h, decide_eq_true h]
  · subst h
    rw [PySem.W.dataLt_self, decide_eq_false (ltT_irr s)]
  · rw [decide_eq_false (ltT_asy h)]
    cases e : PySem.W.dataLt (encTri s) (encTri t) with
    | false => rfl
    | true =>
      have h1 := lt_tri h
      unfold PySem.W.dataLt at e h1
      have h2 := PyProof.Rows.lex_trans _ _ _ e h1
      rw [PyProof.Rows.lex_irrefl] at h2
      cases h2
def leTB (s t : Tri) : Bool := !decide (ltT t s)
theorem leTB_eq : PySem.W.dataLe false encTri = leTB := by
  rw [PySem.W.dataLe_eq]
  funext s t
  show (!PySem.W.dataLt (encTri t) (encTri s)) = _
  rw [dataLt_tri]
  rfl
theorem sort_asc (l : List Tri) (hn : l.Nodup) : (l.mergeSort leTB).Pairwise ltT := by
  have h1 := List.pairwise_mergeSort (le := leTB) (fun a b c h g => by
    unfold leTB at *
    rw [Bool.not_eq_true', decide_eq_false_iff_not] at *
    intro k
    rcases ltT_tri a b with e | e | e
    · exact g (ltT_tra k e)
    · subst e; exact g k
    · exact h e) (fun a b => by
    unfold leTB
    rw [Bool.or_eq_true, Bool.not_eq_true', Bool.not_eq_true', decide_eq_false_iff_not, decide_eq_false_iff_not]
    rcases ltT_tri a b with e | e | e
    · exact .inl (ltT_asy e)
    · subst e; exact .inl (ltT_irr _)
    · exact .inr (ltT_asy e)) l
  have h2 : (l.mergeSort leTB).Nodup := (List.mergeSort_perm l leTB).nodup_iff.mpr hn
  refine (h1.and h2).imp fun {a b} ⟨h, g⟩ => ?_
  unfold leTB at h
  rw [Bool.not_eq_true', decide_eq_false_iff_not] at h
  rcases ltT_tri a b with e | e | e
  · exact e
  · exact absurd e g
  · exact absurd e h
section
variable {X : Cx}
theorem cr_sortedTri (hu : X.A.units + 64 < cLine) : CallR X (.builtin "sorted") (fun vs H Q => ∃ (a : Addr) (xs : List V) (trs : List Tri), vs = [.ref a] ∧ SqL X.K H a xs ∧ RtL H xs (trs.map encTri) ∧ ∀ (ys : List V) (p : Addr), ys.length = trs.length → RtL H ys ((trs.mergeSort leTB).map encTri) → H p = none → Q (.ref p) (upd H p (.lst ys))) := by
  intro pins s σ H vs us Q I r h
  obtain ⟨a, xs, trs, rfl, hs, hx, q⟩ := h
  obtain ⟨its, rv, hl, hz⟩ := I.list hs
  obtain ⟨u, rfl, ru⟩ := vals1 r
  obtain rfl : u = Value.ref a := ru
  have key : ∀ {xs : List V} {its : List Value} {trs : List Tri}, Vals xs its → RtL H xs (trs.map encTri) → PySem.W.EachIs (fun v t => ∃ x, RelV x v ∧ Rt H x (encTri t)) its trs := by
    intro xs
    induction xs with
    | nil =>
      intro its trs rv hx
      cases rv
      cases trs with
      | nil => exact .nil
      | cons t ts => cases hx
    | cons x xs ih =>
      intro its trs rv hx
      cases rv with
      | cons r1 r2 =>
        cases trs with
        | nil => cases hx
        | cons t ts =>
          cases hx with
          | cons h1 h2 => exact .cons ⟨_, r1, h1⟩ (ih r2 h2)
  have back : ∀ {out : List Value} {ts : List Tri}, PySem.W.EachIs (fun v t => ∃ x, RelV x v ∧ Rt H x (encTri t)) out ts → ∃ ys, Vals ys out ∧ RtL H ys (ts.map encTri) := by
    intro out ts e
    induction e with
    | nil => exact ⟨[], .nil, .nil⟩
    | cons h _ ih =>
      obtain ⟨x, rx, hx⟩ := h
      obtain ⟨ys, r, g⟩ := ih
      exact ⟨x :: ys, .cons rx r, .cons hx g⟩
  have e := key rv hx
  have hlen : trs.length = xs.length := by rw [← e.length]; exact rv.length.symm
  refine PySem.W.sorted_data (R := fun v t => ∃ x, RelV x v ∧ Rt H x (encTri t)) (enc := encTri) (bs := trs) hl.isList e (e.mono fun v t ⟨x, rx, hx⟩ => Dp.reads I _ x v hx.dp rx) (PySem.W.AllAlike.of fun _ _ => rfl) (PySem.W.Sortable.tuples fun t => ⟨_, _, rfl⟩) (by rw [hlen]; exact hz) (fun t _ => ?_) fun out hlo eo => ?_
  · have : (encTri t).depth = 1 := by unfold encTri; simp [PyData.depth, PyData.depthAll]
    rw [this]
    omega
  · rw [leTB_eq] at eo
    obtain ⟨ys, ry, gy⟩ := back eo
    obtain ⟨n, hn⟩ := sortedAll_at s.heap its out.toArray
    have hyl : ys.length = trs.length := by rw [ry.length, hlo]
    refine ⟨.ref (s.heap.objs.size + 1), upd H (s.heap.objs.size + 1) (.lst ys), I.laid (t' := s.toks) (fun b o e => sortedAll_old e) (Nat.le_succ _) ⟨?_, out, n, ry, hn⟩, rfl, q ys _ hyl gy (I.hok.fresh (Nat.le_succ _))⟩
    rw [hyl, hlen]
    exact hz
end
end Kx
set_option Elab.async false
set_option linter.all false
set_option maxRecDepth 100000
set_option maxHeartbeats 4000000
namespace Kx
open PySem PySem.Spec PyProof.Rows L2
/-! ### pairs of tables in several forms -/
def rowsT (rows : List (List Nat)) : PyData := .list (rows.map encM)
structure GoodM (al : Str) (ls rs : List (List Nat)) (trs : List Tri) : Prop where
  ab : alphaD (.str al) = true
  l : RowsOk al.length 4 ls
  r : RowsOk al.length 4 rs
  p : trs.Pairwise ltT
  m : ∀ t ∈ trs, t.1 < ls.length ∧ t.2.1 ∈ al.cps.toList ∧ t.2.2 < rs.length
  le : trs.length ≤ 12800
structure MkD (al : Str) (ls rs : List (List Nat)) (trs : List Tri) (l r m : PyData) : Prop where
  due : pairDue (.str al) l r m = .ok
  sm : smallA (.str al) l r m
  is : pairD (.str al) l r m = ⟨al, ixF al, ls, rs, trs⟩
theorem rowsT_due {many most : Nat} {rows : List (List Nat)} (k : RowsOk many most rows) (hm : most ≤ 40) : readerDue many (rowsT rows) = none := by
  have hl := k.ne
  have hle := k.le
  unfold readerDue rowsT itemsD
  dsimp only
  rw [if_pos ⟨by rw [List.length_map]; omega, by rw [List.length_map]; omega⟩]
  refine firstBad_none fun j d hd => ?_
  rw [List.getElem?_map] at hd
  cases hr : rows[j]? with
  | none => rw [hr] at hd; cases hd
  | some r =>
    rw [hr] at hd
    cases hd
    obtain ⟨h1, h2⟩ := k.ok r (List.mem_of_getElem? hr)
    unfold moveD encM itemsD
    dsimp only
    rw [List.length_map, List.length_map, h1, all_below h2]
    simp
theorem small_rowsT {many most : Nat} {rows : List (List Nat)} (k : RowsOk many most rows) (hm : most ≤ 40) (h8 : many ≤ 8) : smallR (rowsT rows) := by
  intro ds hds
  cases hds
  refine ⟨by rw [List.length_map]; have := k.le; omega, fun x hx es hes => ?_⟩
  obtain ⟨r, hr, rfl⟩ := List.mem_map.mp hx
  cases hes
  rw [List.length_map, (k.ok r hr).1]
  omega
theorem moveT_enc (r : List Nat) : moveT (encM r) = r := moveT_row r
theorem tabD_rowsT (rows : List (List Nat)) : tabD (rowsT rows) = rows := by
  unfold tabD rowsT itemsD
  rw [Option.getD_some, List.map_map]
  have : (moveT ∘ encM) = id := funext moveT_enc
  rw [this, List.map_id]
theorem tabD_encR (rows : List (List Nat)) : tabD (encR rows) = rows := tabD_rowsT rows
theorem trisD_encT (trs : List Tri) : trisD (encT trs) = trs := trisD_tris trs
theorem mk_of {al : Str} {ls rs : List (List Nat)} {trs : List Tri} {l r m : PyData} (g : GoodM al ls rs trs) (hl : l = rowsD ls ∨ l = rowsT ls) (hr : r = rowsD rs) (hm : m = .list (trs.map encTri) ∨ m = encT trs) : MkD al ls rs trs l r m := by
  subst hr
  have h8 := (alpha_len g.ab).2
  have e2 : lenD (rowsD rs) = rs.length := by unfold lenD rowsD itemsD; simp
  have hl1 : readerDue al.length l = none ∧ lenD l = ls.length ∧ smallR l ∧ tabD l = ls := by
    rcases hl with rfl | rfl
    · exact ⟨rows_due g.l (by decide), by unfold lenD rowsD itemsD; simp, small_rows g.l (by decide) h8, tabD_rows ls⟩
    · exact ⟨rowsT_due g.l (by decide), by unfold lenD rowsT itemsD; simp, small_rowsT g.l (by decide) h8, tabD_rowsT ls⟩
  have hg : markedDue al.cps.toList ls.length rs.length (.list (trs.map encTri)) = none := by
    unfold markedDue itemsD
    exact go_ok (fun t ht => tri_right (g.m t ht)) g.p (fun p hp => by cases hp)
  have hm1 : markedDue al.cps.toList ls.length rs.length m = none ∧ smallM m ∧ trisD m = trs := by
    rcases hm with rfl | rfl
    · exact ⟨hg, small_tris trs g.le, trisD_tris trs⟩
    · exact ⟨hg, fun ds hds => small_tris trs g.le ds (by cases hds; rfl), trisD_tris trs⟩
  obtain ⟨a1, a2, a3, a4⟩ := hl1
  obtain ⟨b1, b2, b3⟩ := hm1
  refine ⟨?_, ⟨fun z hz => by cases hz; omega, a3, small_rows g.r (by decide) h8, b2⟩, ?_⟩
  · rw [pairDue_ok g.ab, a1, rows_due g.r (by decide)]
    dsimp only
    rw [a2, e2, b1]
  · unfold pairD
    rw [a4, tabD_rows, b3]
    rfl
theorem good_tabs {al : Str} {ls rs : List (List Nat)} {trs : List Tri} (hal : alphaD (.str al) = true) (k : TabsOk al 4 ls rs trs) : GoodM al ls rs trs :=
  ⟨hal, k.l, k.r, (fullP_asc (asc_pair (alpha_asc hal))).sublist k.sub, fun t ht => fullP_mem (k.sub.subset ht), k.le⟩
/-! ### when pairs are equal -/
theorem encR_inj {a b : List (List Nat)} : encR a = encR b ↔ a = b := ⟨fun h => by rw [← tabD_encR a, h, tabD_encR], fun h => by rw [h]⟩
theorem encT_inj {a b : List Tri} : encT a = encT b ↔ a = b := ⟨fun h => by rw [← trisD_encT a, h, trisD_encT], fun h => by rw [h]⟩
theorem bool_iff {a : Bool} {p : Prop} [Decidable p] (h : a = true ↔ p) : a = decide p := by
  cases a with
  | true => exact (decide_eq_true (h.mp rfl)).symm
  | false => exact (decide_eq_false fun z => by cases h.mpr z).symm
theorem eqv_encR (a b : List (List Nat)) : PyData.eqv (encR a) (encR b) = decide (a = b) := bool_iff ((eqv_pure (pure_encR a) (pure_encR b)).trans encR_inj)
theorem eqv_encT {a b : List Tri} (ha : ∀ t ∈ a, t.2.1 < 0x110000) (hb : ∀ t ∈ b, t.2.1 < 0x110000) : PyData.eqv (encT a) (encT b) = decide (a = b) := bool_iff ((eqv_pure (pure_encT ha) (pure_encT hb)).trans encT_inj)
theorem PairOk.ch {D : PairD} (h : PairOk D) : ∀ t ∈ D.m, t.2.1 < 0x110000 := fun t ht => h.abc _ (h.m t ht).2.1
theorem eqP_eq {D D' : PairD} (h : PairOk D) (h' : PairOk D') : eqP D D' = (decide (V.str D.al = V.str D'.al) && (decide (D.l = D'.l) && (decide (D.r = D'.r) && decide (D.m = D'.m)))) := by
  unfold eqP
  rw [eqv_encR, eqv_encR, eqv_encT h.ch h'.ch]
theorem eqP_self {D : PairD} (h : PairOk D) : eqP D D = true := by rw [eqP_eq h h]; simp
theorem eqP_same {al : Str} {i j : Nat → Nat} {l l' r r' : List (List Nat)} {m m' : List Tri} (h : PairOk ⟨al, i, l, r, m⟩) (h' : PairOk ⟨al, j, l', r', m'⟩) : eqP ⟨al, i, l, r, m⟩ ⟨al, j, l', r', m'⟩ = (decide (l = l') && (decide (r = r') && decide (m = m'))) := by
  rw [eqP_eq h h']
  simp
section
variable {P : Program} {w : World} {K : PySem.W.Frag} {mg : Str → Option Value} {base : Heap}
theorem right_pair (T : Txt K mg) {H : Hp} {y : Addr} {D : PairD} (h : PairAt K H y D) : RightOf K (He.ga K "Pair") H (.ref y) := ⟨_, ty_pair T h, by unfold PySem.W.notFirst; simp⟩
theorem right_tup (T : Txt K mg) {H : Hp} {y : V} {ds : List PyData} (h : Rp H y (.tuple ds)) : RightOf K (He.ga K "Pair") H y := ⟨_, h.ko, (pairF T).nft⟩
theorem right_str (T : Txt K mg) {H : Hp} {z : Str} : RightOf K (He.ga K "Pair") H (.str z) := ⟨_, (Rp.str (H := H) z).ko, (pairF T).nfs⟩
end
section
variable {X : Cx} {P : Program} {w : World} {K : PySem.W.Frag} {mg : Str → Option Value} {base : Heap} {f : Addr} {fd : FuncData}
/-- p == y, p a pair -/
def rEqP (K : PySem.W.Frag) (ng : Bool) : R2 := fun x y H Q => ∃ (p : Addr) (D : PairD), x = .ref p ∧ PairAt K H p D ∧ PairOk D ∧
  ((∃ q D', y = .ref q ∧ PairAt K H q D' ∧ PairOk D' ∧ Q (.bl (if ng then !eqP D D' else eqP D D')) H) ∨ ((∃ z, y = .str z) ∧ Q (.bl ng) H) ∨ ((∃ ds, Rp H y (.tuple ds)) ∧ Q (.bl ng) H))
theorem rEqP_of (T : Txt K mg) {ng : Bool} {x y : V} {H : Hp} {Q : VK} (h : rEqP K ng x y H Q) : rEqO K (He.ga K "Pair") (sp_Pair_eq K) E0 ng x y H Q := by
  obtain ⟨p, D, rfl, PA, PO, h⟩ := h
  have PA' := PA
  obtain ⟨dx, vl, vr, vm, vk, h1, _⟩ := PA'
  rcases h with ⟨q, D', rfl, PB, PO', h⟩ | ⟨⟨z, rfl⟩, h⟩ | ⟨⟨ds, hy⟩, h⟩
  · exact ⟨p, dx, _, rfl, h1, right_pair T PB, p, _, D, rfl, PA, PO, .inl ⟨q, D', rfl, PB, PO', _, rfl, h⟩⟩
  · exact ⟨p, dx, _, rfl, h1, right_str T, p, _, D, rfl, PA, PO, .inr ⟨.str, .inl rfl, (Rp.str z).ko, _, rfl, by cases ng <;> exact h⟩⟩
  · exact ⟨p, dx, _, rfl, h1, right_tup T hy, p, _, D, rfl, PA, PO, .inr ⟨.tup, .inr rfl, hy.ko, _, rfl, by cases ng <;> exact h⟩⟩
theorem OpR.imp {c : Value → Value → Sem Value} {r r' : R2} (h : OpR X c r) (i : ∀ x y H Q, r' x y H Q → r x y H Q) : OpR X c r' := fun pins s σ H x y v u Q I rx ry q => h pins s σ H x y v u Q I rx ry (i _ _ _ _ q)
theorem op_eqP (T : Txt X.K X.mg) (FQ : FnP X.K "__eq__" "Pair.__eq__" s_Pair___eq__ (He.ma X.K (He.ga X.K "Pair") "__eq__") fd) (hb : Binds X.K fd ["self", "other"] []) (hr : Room 1 X.A) : OpR X (compareOp .Eq) (rEqP X.K false) :=
  OpR.imp (op_eqO (ok_Pair_eq (P := X.prog) (w := X.w) (base := X.base) T FQ) hr (meth___eq__ T).at_ (meth___eq__ T).fn hb pass0) fun _ _ _ _ q => rEqP_of T q
theorem op_neP (T : Txt X.K X.mg) (FQ : FnP X.K "__eq__" "Pair.__eq__" s_Pair___eq__ (He.ma X.K (He.ga X.K "Pair") "__eq__") fd) (hb : Binds X.K fd ["self", "other"] []) (hr : Room 2 X.A) : OpR X (compareOp .NotEq) (rEqP X.K true) :=
  OpR.imp (op_neO (ok_Pair_eq (P := X.prog) (w := X.w) (base := X.base) T FQ) hr (meth___eq__ T).at_ (pairF T).ne (pairF T).sub (meth___eq__ T).fn hb pass0) fun _ _ _ _ q => rEqP_of T q
end
end Kx
set_option Elab.async false
set_option linter.all false
set_option maxRecDepth 100000
set_option maxHeartbeats 4000000
namespace Kx
open PySem PySem.Spec PyProof.Rows L2
theorem hu65 {A : Around} {k : Nat} (hr : Room k A) : A.units + 65 < cLine := by have := hr.un; omega
theorem init_mk {H : Hp} {x dx : Addr} {vl vr vm : V} {al : Str} {ls rs : List (List Nat)} {trs : List Tri} {l r m : PyData} {Q : VK} {E : XK} {K : PySem.W.Frag} (k : MkD al ls rs trs l r m) (hx : H x = none) (hd : H dx = none) (hne : dx ≠ x) (rl : Rp H vl l) (rr : Rp H vr r) (rm : Rp H vm m)
    (q : ∀ H', Same H H' → PairAt K H' x ⟨al, ixF al, ls, rs, trs⟩ → PairOk ⟨al, ixF al, ls, rs, trs⟩ → Q .non H') :
    sp_Pair_init K [.ref x, .str al, vl, vr, vm] (upd (upd H dx (.own x)) x (.ins (He.ga K "Pair") dx [])) Q E := by
  have s0 := same_made (C := He.ga K "Pair") hx hd
  refine ⟨x, dx, .str al, vl, vr, vm, .str al, l, r, m, rfl, upd_same, by rw [upd_ne hne]; exact upd_same, hne, .str al, rl.same s0, rr.same s0, rm.same s0, k.sm, fun H1 sx => ?_, fun _ H1 sx PA PO => q H1 (sameX_made hx hd sx) (by rw [← k.is]; exact PA) (by rw [← k.is]; exact PO)⟩
  intro d1 _
  rw [k.due]
  trivial
theorem shaped_lst {ds : List PyData} (h : SeqAt.shaped (.tuple ds) = true) : SeqAt.shaped (.list ds) = true := by
  unfold SeqAt.shaped at *
  simp only [PyData.canLay0, PyData.depth] at *
  exact h
theorem pure_tri {t : Tri} (h : t.2.1 < 0x110000) : pureD (encTri t) = true := by
  have h1 := pure_encT (trs := [t]) fun u hu => by rw [List.mem_singleton.mp hu]; exact h
  unfold encT at h1
  simpa [pureD, pureL] using h1
theorem encTri_inj {s t : Tri} : encTri s = encTri t ↔ s = t := ⟨fun h => by rw [← triD_tri s, h, triD_tri], fun h => by rw [h]⟩
theorem eqv_tri {s t : Tri} (hs : s.2.1 < 0x110000) (ht : t.2.1 < 0x110000) : PyData.eqv (encTri s) (encTri t) = decide (s = t) := bool_iff ((eqv_pure (pure_tri hs) (pure_tri ht)).trans encTri_inj)
theorem shaped_tri {t : Tri} (h : t.2.1 < 0x110000) : SeqAt.shaped (encTri t) = true := shaped_of (pure_tri h) (by unfold encTri; simp [PyData.depth, PyData.depthAll])
theorem any_tri {t : Tri} (ht : t.2.1 < 0x110000) : ∀ {trs : List Tri}, (∀ s ∈ trs, s.2.1 < 0x110000) → ((trs.map encTri).any fun z => PyData.eqv z (encTri t)) = decide (t ∈ trs)
  | [], _ => by simp
  | s :: trs, h => by
    rw [List.map_cons, List.any_cons, any_tri ht fun u hu => h u (List.mem_cons_of_mem _ hu), eqv_tri (h s (List.mem_cons_self ..)) ht]
    by_cases e : s = t
    · subst e; simp
    · rw [decide_eq_false e, Bool.false_or, decide_eq_decide]
      exact ⟨fun h => List.mem_cons_of_mem _ h, fun h => by rcases List.mem_cons.mp h with z | z; exact absurd z.symm e; exact z⟩
theorem rtL_tris {H : Hp} : ∀ {xs : List V} {trs : List Tri}, RpL H xs (trs.map encTri) → RtL H xs (trs.map encTri)
  | _, [], h => by cases h; exact .nil
  | _, t :: trs, h => by
    rw [List.map_cons] at h ⊢
    cases h with
    | cons h1 h2 =>
      refine .cons ?_ (rtL_tris h2)
      unfold encTri at h1 ⊢
      cases h1 with
      | tup e h => cases h with
        | cons r0 h1 => cases h1 with
          | cons r1 h2 => cases h2 with
            | cons r2 h3 =>
              cases h3
              cases r0
              cases r1
              cases r2
              exact .tup e (.cons (.int _) (.cons (.str _) (.cons (.int _) .nil)))
theorem flat_len {α β : Type} {f : α → List β} {n : Nat} (h : ∀ a, (f a).length = n) : ∀ l : List α, (l.flatMap f).length = l.length * n
  | [] => by simp
  | a :: l => by rw [List.flatMap_cons, List.length_append, h, flat_len h l, List.length_cons, Nat.succ_mul, Nat.add_comm]
theorem fullP_len (n nr : Nat) (cs : List Nat) : (fullP n nr cs).length = n * (cs.length * nr) := by
  have h := flat_len (f := fun p => fullC p nr cs) (n := cs.length * nr) (fun p => flat_len (f := fun c => fullQ p c nr) (n := nr) (fun c => by unfold fullQ; rw [List.length_map, List.length_range]) cs) (List.range n)
  rw [List.length_range] at h
  exact h
theorem trs_len {al : Str} {ls rs : List (List Nat)} {trs : List Tri} (k : TabsOk al 4 ls rs trs) (h8 : al.length ≤ 8) : trs.length ≤ 128 := by
  have h1 := k.sub.length_le
  rw [fullP_len] at h1
  have h2 : ls.length * (al.cps.toList.length * rs.length) ≤ 4 * (8 * 4) := Nat.mul_le_mul k.l.le (Nat.mul_le_mul h8 k.r.le)
  omega
theorem deep_rows (rows : List (List Nat)) (h : rows.length ≤ 4) : deepD (rowsD rows) := by
  refine ⟨rows.map rowD, rfl, by rw [List.length_map]; omega, fun x hx => ?_⟩
  obtain ⟨r, hr, rfl⟩ := List.mem_map.mp hx
  refine ⟨r.map fun k => .int (k : Nat), rfl, ?_⟩
  rw [List.all_map, List.all_eq_true]
  exact fun _ _ => rfl
theorem rtL_at {H : Hp} {p : Addr} {xs : List V} {trs : List Tri} (h : Rp H (.ref p) (.list (trs.map encTri))) (e : H p = some (.lst xs)) : RtL H xs (trs.map encTri) := by
  cases h with
  | lst e1 h =>
    have e2 := Option.some.inj (e1.symm.trans e)
    cases e2
    exact rtL_tris h
theorem lay_rows (rows : List (List Nat)) : (rowsD rows).canLay0 = true ∧ (rowsD rows).depth ≤ 2 := by
  have h1 := lay_pure (pure_encR rows)
  have h2 := depth_encR rows
  have e : PyData.canLayAll0 (rows.map rowD) = PyData.canLayAll0 (rows.map encM) := by
    clear h1 h2
    induction rows with
    | nil => rfl
    | cons r rows ih =>
      simp only [List.map_cons, PyData.canLayAll0, ih]
      unfold rowD encM
      simp only [PyData.canLay0]
  have e2 : PyData.depthAll (rows.map rowD) = PyData.depthAll (rows.map encM) := by
    clear h1 h2 e
    induction rows with
    | nil => rfl
    | cons r rows ih =>
      simp only [List.map_cons, PyData.depthAll, ih]
      unfold rowD encM
      simp only [PyData.depth]
  unfold encR at h1 h2
  unfold rowsD
  simp only [PyData.canLay0, PyData.depth] at *
  rw [e, e2]
  exact ⟨h1, h2⟩
theorem tabs_eqok (ls rs : List (List Nat)) {trs : List Tri} (h : ∀ t ∈ trs, t.2.1 < 0x110000) : (PyData.list [rowsD ls, rowsD rs, .list (trs.map encTri)]).hasDict = false ∧ SeqAt.shaped (.list [rowsD ls, rowsD rs, .list (trs.map encTri)]) = true := by
  obtain ⟨a1, a2⟩ := lay_rows ls
  obtain ⟨b1, b2⟩ := lay_rows rs
  have c1 := lay_pure (pure_encT h)
  have c2 := depth_encT trs
  unfold encT at c1 c2
  have k : (PyData.list [rowsD ls, rowsD rs, .list (trs.map encTri)]).canLay0 = true := by
    simp only [PyData.canLay0, PyData.canLayAll0, a1, b1, Bool.true_and, Bool.and_true] at *
    exact c1
  refine ⟨PyData.hasDict_of_canLay _ k, ?_⟩
  unfold SeqAt.shaped
  have kd : (PyData.list [rowsD ls, rowsD rs, .list (trs.map encTri)]).depth ≤ 64 := by
    simp only [PyData.depth, PyData.depthAll] at *
    omega
  rw [k, decide_eq_true kd]
  rfl
theorem eqv_rows : ∀ a b : List (List Nat), PyData.eqv (rowsD a) (rowsD b) = decide (a = b) := by
  intro a b
  rw [← eqv_encR]
  unfold rowsD encR
  simp only [PyData.eqv]
  induction a generalizing b with
  | nil => cases b <;> rfl
  | cons r a ih =>
    cases b with
    | nil => rfl
    | cons q b =>
      simp only [List.map_cons, PyData.eqvAll, ih]
      unfold rowD encM
      simp only [PyData.eqv]
theorem eqv_tabs {ls rs ls' rs' : List (List Nat)} {trs trs' : List Tri} (h : ∀ t ∈ trs, t.2.1 < 0x110000) (h' : ∀ t ∈ trs', t.2.1 < 0x110000) : PyData.eqv (.list [rowsD ls, rowsD rs, .list (trs.map encTri)]) (.list [rowsD ls', rowsD rs', .list (trs'.map encTri)]) = (decide (ls = ls') && (decide (rs = rs') && decide (trs = trs'))) := by
  have e := eqv_encT h h'
  unfold encT at e
  simp only [PyData.eqv, PyData.eqvAll, Bool.and_true] at *
  rw [show PyData.eqv (rowsD ls) (rowsD ls') = decide (ls = ls') from eqv_rows _ _, show PyData.eqv (rowsD rs) (rowsD rs') = decide (rs = rs') from eqv_rows _ _, e]
def farS (al : Str) : Str := cutS "abcdefgh" (some (8 - (al.length : Nat))) none
theorem far_ok : ∀ al ∈ menuA, alphaD (.str (farS al)) = true ∧ (farS al).length = al.length ∧ decide (V.str al = V.str (farS al)) = false := by decide +kernel
section
variable {P : Program} {w : World} {K : PySem.W.Frag} {mg : Str → Option Value} {base : Heap}
def sp_law_equals_right (K : PySem.W.Frag) : Sp := fun vs H Q _ => ∃ (a x y ap : Addr) (al : Str) (vt vo : V) (ls rs ls' rs' : List (List Nat)) (trs trs' : List Tri), vs = [.ref a, .str al, vt, vo, .ref ap] ∧ al ∈ menuA ∧ Rp (del H a) vt (tabsD ls rs trs) ∧ TabsOk al 4 ls rs trs ∧ Rp (del H a) vo (tabsD ls' rs' trs') ∧ TabsOk al 4 ls' rs' trs' ∧
  del H a ap = some (.lst [.ref x, .ref y]) ∧ PairAt K (del H a) x ⟨al, ixF al, ls, rs, trs⟩ ∧ PairOk ⟨al, ixF al, ls, rs, trs⟩ ∧ PairAt K (del H a) y ⟨al, ixF al, ls', rs', trs'⟩ ∧ PairOk ⟨al, ixF al, ls', rs', trs'⟩ ∧ SrcAt H a ∧ ∀ H', Fra a H H' → Q (.bl true) H'
theorem ok_law_equals_right (T : Txt K mg) : Cal P w K mg base CX0 8 "_law_equals_right" ["_law_source_here", "_law_alphabet_here", "_law_tables_here", "_law_other", "_law_pairs"] (sp_law_equals_right K) := by
  obtain ⟨fd, F⟩ := F__law_equals_right T
  obtain ⟨fdI, FI⟩ := F_Pair___init__ T
  have bI : Binds K fdI ["self", "alphabet", "left", "right", "marked"] [] := FI.bindsN fun _ _ _ _ _ _ us hl => match us, hl with | [_, _, _, _, _], _ => rfl
  obtain ⟨fdQ, FQ⟩ := F_Pair___eq__ T
  have bQ : Binds K fdQ ["self", "other"] [] := FQ.bindsN fun _ _ _ _ _ _ us hl => match us, hl with | [_, _], _ => rfl
  refine cal_mk F (g__law_equals_right T) sc__law_equals_right (fun _ _ _ _ _ _ us hl => match us, hl with | [_, _, _, _, _], _ => rfl) (fun vs H Q E h => ?_) (fun cdv A outer s H vs Q E hr h => ?_)
  · obtain ⟨a, x, y, ap, al, vt, vo, ls, rs, ls', rs', trs, trs', rfl, _⟩ := h; rfl
  · obtain ⟨a, x, y, ap, al, vt, vo, ls, rs, ls', rs', trs, trs', rfl, hal, rt, TO, ro, TO', hap, PA, PO, PB, PO', hs, q⟩ := h
    obtain ⟨tt, pl, xl, pr, xr, pm, xm, rfl, htt, rl, rr, rm, hpl, hxl, hpr, hxr, hpm, hxm, sl, sr, sm⟩ := tabs_at rt
    have hal1 := menu_len al hal
    have hz8 : al.length ≤ sizeLine := Nat.le_trans hal1.2 (by decide)
    have hal8 : al.length ≤ 100000 := Nat.le_trans hal1.2 (by decide)
    have haT := menu_right al hal
    have GM := good_tabs haT TO
    obtain ⟨tl3, htl3, hq3⟩ : ∃ tl : TS, PSs (cxOf CX0 P w K mg base N__law_equals_right "_law_equals_right" (defScope s__law_equals_right) (He.ga K "_law_equals_right") cdv A outer s H E).nox ((defBody s__law_equals_right).drop 10) tl ∧
        ∀ (H2 : Hp) (v8 v9 v10 v11 v12 v13 v14 : Option V), Fra a H H2 → tl { nx := fun _ H' => Q .non H', rt := Q } [some (.ref a), some (.str al), some (.ref tt), some vo, some (.ref ap), some (.ref pl), some (.ref pr), some (.ref pm), v8, v9, v10, v11, v12, v13, v14] H2 := by
      refine ⟨_, (pss_cons (ps_set (i := 12) sc__law_equals_right.nd rfl (Or.inl rfl) (pe_slice sl_str pe_str (po_some (pe_op op_sub pe_int (pe_callB call_len (by rfl) (fr_len T) boot_len (pa_cons (pv 1) pa_nil)))) po_none))
        (pss_one (ps_ret (pe_and (pe_cmpR (op_neP T FQ bQ (hr.mono (by decide))) (pe_makeS (E := fun _ => E0) (mkr_Pair T) (ok_Pair_init T FI (ok_masks_of_triples T)) (hr.mono (by decide)) (by rfl) (g_Pair T) bI passAt0 (pa_cons (pv 1) (pa_cons (pv 5) (pa_cons (pv 6) (pa_cons (pe_lst pa_nil) pa_nil))))) (pe_makeS (E := fun _ => E0) (mkr_Pair T) (ok_Pair_init T FI (ok_masks_of_triples T)) (hr.mono (by decide)) (by rfl) (g_Pair T) bI passAt0 (pa_cons (pv 12) (pa_cons (pv 5) (pa_cons (pv 6) (pa_cons (pe_lst pa_nil) pa_nil))))) (nomark _)) (pe_one (pe_cmpR (op_neP T FQ bQ (hr.mono (by decide))) (pe_ix ix_list (pv 4) pe_int (fun _ _ => rfl)) (pv 1) (nomark _))))))), ?_⟩
      intro H2 v8 v9 v10 v11 v12 v13 v14 f2
      obtain ⟨fa, fl, fn⟩ := far_ok al hal
      refine ⟨.str al, rfl, _, _, rfl, lenV_str hal8, _, _, rfl, rfl, _, rfl, _, rfl, (by show 8 ≤ sizeLine; decide), ?_⟩
      have g0 : GoodM al ls rs [] := ⟨haT, TO.l, TO.r, .nil, fun t ht => (by cases ht), by decide⟩
      have g1 : GoodM (farS al) ls rs [] := ⟨fa, by rw [fl]; exact TO.l, by rw [fl]; exact TO.r, .nil, fun t ht => (by cases ht), by decide⟩
      refine ⟨.str al, rfl, .ref pl, rfl, .ref pr, rfl, (by show 0 ≤ sizeLine; decide), fun p1 hp1 => fun x1 d1 hx1 hd1 hn1 => ?_⟩
      have s1 := same_upd (o := .lst []) hp1
      refine init_mk (K := K) (mk_of g0 (.inl rfl) rfl (.inl rfl)) hx1 hd1 hn1 ((rl.same f2.up).same s1) ((rr.same f2.up).same s1) (.lst upd_same .nil) fun H3 s3 PA3 PO3 => ⟨rfl, ?_⟩
      have f3 := f2.trans (Fra.same f2.src (s1.trans s3))
      refine ⟨.str (farS al), rfl, .ref pl, rfl, .ref pr, rfl, (by show 0 ≤ sizeLine; decide), fun p2 hp2 => fun x2 d2 hx2 hd2 hn2 => ?_⟩
      have s4 := same_upd (o := .lst []) hp2
      refine init_mk (K := K) (mk_of g1 (.inl rfl) rfl (.inl rfl)) hx2 hd2 hn2 ((rl.same f3.up).same s4) ((rr.same f3.up).same s4) (.lst upd_same .nil) fun H5 s5 PA5 PO5 => ⟨rfl, ?_⟩
      have f5 := f3.trans (Fra.same f3.src (s4.trans s5))
      have e0 : eqP ⟨al, ixF al, ls, rs, []⟩ ⟨farS al, ixF (farS al), ls, rs, []⟩ = false := by
        rw [eqP_eq PO3 PO5]
        dsimp only
        rw [fn]
        rfl
      refine ⟨x1, _, rfl, PA3.same (s4.trans s5), PO3, .inl ⟨x2, _, rfl, PA5, PO5, _, rfl, ?_⟩⟩
      rw [e0]
      exact iteT ⟨.ref ap, rfl, ap, [.ref x, .ref y], _, .ref x, rfl, rfl, SqL.of (f5.up _ _ hap), rfl, .str al, rfl, x, _, rfl, PA.same f5.up, PO, .inr (.inl ⟨⟨al, rfl⟩, q _ f5⟩)⟩
    obtain ⟨tl2, htl2, hq2⟩ : ∃ tl : TS, PSs (cxOf CX0 P w K mg base N__law_equals_right "_law_equals_right" (defScope s__law_equals_right) (He.ga K "_law_equals_right") cdv A outer s H E).nox ((defBody s__law_equals_right).drop 7) tl ∧
        ∀ (H2 : Hp) (v8 v10 v11 v12 v13 v14 : Option V) (o : Addr) (p : Int) (c k j : Nat), Fra a H H2 → H2 o = some (.tup [.int p, .str ⟨#[c]⟩, .int (k : Nat)]) → o ≠ a → k < rs.length → al.cps.toList[j]? = some c → tl { nx := fun _ H' => Q .non H', rt := Q } [some (.ref a), some (.str al), some (.ref tt), some vo, some (.ref ap), some (.ref pl), some (.ref pr), some (.ref pm), v8, some (.ref o), v10, v11, v12, v13, v14] H2 := by
      refine ⟨_, (pss_cons (ps_setLc (i := 11) (te := tCB (rLstO K) (tCons (tVar 13) tNil)) (own := [("_law_move", 13)]) (g := (gName 13)) (tt := tYes) rfl sc__law_equals_right.nd rfl rfl (sw_true rfl rfl rfl (by decide +kernel)) (pi_list (pv 6)) (blkOk_by (N := N__law_equals_right) (sc := defScope s__law_equals_right) (by decide +kernel)) (fun _ _ _ _ _ => (pg_name (i := 13) sc__law_equals_right.nd rfl (Or.inl rfl))) (fun _ _ _ _ _ => pts_nil) (fun _ _ _ _ _ => by refine pe_callTy (r := rLstO K) (t := tCons (tVar 13) tNil) ?_ (by rfl) (fr_list T) b_list (pa_cons (pv 13) pa_nil); exact call_list_of))
        (pss_cons (ps_asg (pe_op op_mod (pe_callTy call_int1 (by rfl) (fr_int T) b_int (pa_cons (pe_op op_add (pe_ix ix_list (pe_ix ix_list (pv 11) (pe_ix ix_tup (pv 9) pe_int (fun _ _ => rfl)) (fun _ _ => rfl)) (pe_m1 PySem.F.slot_str_index PySem.F.type_str_index mt_sindex (pv 1) (pe_ix ix_tup (pv 9) pe_int (fun _ _ => rfl))) (fun _ _ => rfl)) pe_int) pa_nil)) (pe_callB call_len (by rfl) (fr_len T) boot_len (pa_cons (pv 11) pa_nil))) (pg_sub (pe_ix ix_list (pv 11) (pe_ix ix_tup (pv 9) pe_int (fun _ _ => rfl)) (fun _ _ => rfl)) (pe_m1 PySem.F.slot_str_index PySem.F.type_str_index mt_sindex (pv 1) (pe_ix ix_tup (pv 9) pe_int (fun _ _ => rfl))) set_list))
        (pss_cons (ps_if (pt_cmpR op_ne (pe_cmpR (op_eqP T FQ bQ (hr.mono (by decide))) (pe_ix ix_list (pv 4) pe_int (fun _ _ => rfl)) (pe_makeS (E := fun _ => E0) (mkr_Pair T) (ok_Pair_init T FI (ok_masks_of_triples T)) (hr.mono (by decide)) (by rfl) (g_Pair T) bI passAt0 (pa_cons (pv 1) (pa_cons (pv 5) (pa_cons (pv 11) (pa_cons (pv 7) pa_nil))))) (nomark _)) (pe_cmpR op_eq (pe_callB call_len (by rfl) (fr_len T) boot_len (pa_cons (pv 11) pa_nil)) pe_int (nomark _)) (nomark _)) (pss_one (ps_ret pe_bl)) pss_nil)
        htl3))), ?_⟩
      intro H2 v8 v10 v11 v12 v13 v14 o p c k j f2 ho hoa hk hj
      have hrl := TO.r.le
      refine ⟨.ref pr, rfl, pr, rfl, ⟨xr, SqL.of (f2.up _ _ hpr)⟩, fun D hD => ?_⟩
      refine copy_lc (vss := rs.map intsV) (f2.up _ _ hpr) (by rw [List.length_map]; exact hxr) (fun i vs hi => by obtain ⟨c, h1, h2⟩ := sr i vs hi; exact ⟨c, h1, sq_same f2.up h2⟩) (by omega) hD (by show 13 < 15; decide) (fun _ => rfl) fun H4 hc => ?_
      obtain ⟨bs, b1, b2, b3, b4, b5, b6, b7⟩ := hc
      rw [hxr] at b2
      have ho4 := b7 _ _ ho
      have hkb : k < bs.length := by omega
      have hjc : c ∈ al.cps.toList := List.mem_of_getElem? hj
      obtain ⟨rest, hocc⟩ := occ_head hjc
      have hix : ixF al c = j := find_at hj (menu_nodup al hal)
      have hjl : j < al.length := by
        have h1 := (List.getElem?_eq_some_iff.mp hj).1
        exact h1
      obtain ⟨hrk, hrlt⟩ := TO.r.ok rs[k] (List.getElem_mem hk)
      have hjr : j < (rs[k]).length := by omega
      have hbk := b5 k bs[k] (intsV rs[k]) (List.getElem?_eq_getElem hkb) (by rw [List.getElem?_map, List.getElem?_eq_getElem hk]; rfl)
      have hrj : (intsV rs[k])[ixF al c]? = some (.int ((rs[k])[j] : Nat)) := by
        rw [hix, List.getElem?_map, List.getElem?_eq_getElem hjr]
        rfl
      have hDb : (bs.map V.ref)[k]? = some (.ref bs[k]) := by rw [List.getElem?_map, List.getElem?_eq_getElem hkb]; rfl
      have hbl : (bs.map V.ref).length = bs.length := List.length_map ..
      refine ⟨.ref D, rfl, .ref o, rfl, o, _, _, .int (k : Nat), rfl, rfl, SqT.of ho4, rfl, D, bs.map V.ref, _, .ref bs[k], rfl, rfl, SqL.of b1, atI_nat hDb, .str al, rfl, ⟨al, rfl⟩, .ref o, rfl, o, _, _, .str ⟨#[c]⟩, rfl, rfl, SqT.of ho4, rfl, al, ⟨#[c]⟩, _, rest, rfl, rfl, hocc, bs[k], _, _, _, rfl, rfl, SqL.of hbk, atI_nat hrj, _, _, rfl, rfl, .inl ⟨_, rfl, ?_⟩⟩
      refine ⟨.ref D, rfl, _, _, rfl, lenV_sq (.inl b1) rfl, _, _, rfl, rfl, by omega, ?_⟩
      refine ⟨.ref D, rfl, .ref o, rfl, o, _, _, .int (k : Nat), rfl, rfl, SqT.of ho4, rfl, D, bs.map V.ref, _, .ref bs[k], rfl, rfl, SqL.of b1, atI_nat hDb, .str al, rfl, ⟨al, rfl⟩, .ref o, rfl, o, _, _, .str ⟨#[c]⟩, rfl, rfl, SqT.of ho4, rfl, al, ⟨#[c]⟩, _, rest, rfl, rfl, hocc, ?_⟩
      have eN : (fun i j => V.int (i % j)) (((rs[k])[j] : Int) + 1) (((bs.map V.ref).length : Nat) : Int) = .int ((((rs[k])[j] + 1) % rs.length : Nat) : Int) := by
        rw [hbl, b2]
        exact congrArg V.int (by rw [Int.natCast_emod, Int.natCast_add]; rfl)
      have hixN : ixN (intsV rs[k]).length ((ixF al c : Nat) : Int) = some j := by
        rw [hix]
        have h1 : (intsV rs[k]).length = (rs[k]).length := List.length_map ..
        unfold ixN
        rw [if_pos (by omega), if_pos (by omega), Int.toNat_natCast]
      refine ⟨bs[k], intsV rs[k], _, j, rfl, rfl, hbk, hixN, ?_⟩
      rw [eN]
      have hb0 := b6 bs[k] (List.getElem_mem hkb)
      have hba := f2.src.ne hb0
      have hbH : H bs[k] = none := f2.none hba hb0
      have f4 := f2.trans (Fra.same f2.src b7)
      have f5 := f4.over (o := .lst ((intsV rs[k]).set j (.int ((((rs[k])[j] + 1) % rs.length : Nat) : Int)))) hbH hba
      have hDb' : D ≠ bs[k] := fun z => b4 (by rw [z]; exact List.getElem_mem hkb)
      have rp5 : Rp (upd H4 bs[k] (.lst ((intsV rs[k]).set j (.int ((((rs[k])[j] + 1) % rs.length : Nat) : Int))))) (.ref D) (rowsD (rs.set k ((rs[k]).set j (((rs[k])[j] + 1) % rs.length)))) := by
        refine .lst (by rw [upd_ne hDb']; exact b1) (rpL_of (by rw [List.length_map, List.length_map, List.length_set, b2]) fun i v d hv hd => ?_)
        rw [List.getElem?_map] at hv hd
        cases hbi : bs[i]? with
        | none => rw [hbi] at hv; cases hv
        | some b =>
          rw [hbi] at hv
          cases hv
          have hil := (List.getElem?_eq_some_iff.mp hbi).1
          by_cases hik : i = k
          · subst hik
            rw [List.getElem?_set_self (by omega)] at hd
            cases hd
            have : b = bs[i] := by rw [List.getElem?_eq_getElem hil] at hbi; exact (Option.some.inj hbi).symm
            subst this
            refine .lst upd_same ?_
            rw [show (intsV rs[i]).set j (.int ((((rs[i])[j] + 1) % rs.length : Nat) : Int)) = intsV ((rs[i]).set j (((rs[i])[j] + 1) % rs.length)) from (List.map_set ..).symm]
            exact rpL_nats _
          · rw [List.getElem?_set_ne (Ne.symm hik), List.getElem?_eq_getElem (by omega)] at hd
            cases hd
            have hne : b ≠ bs[k] := fun z => by
              have h1 : bs[i]? = bs[k]? := by rw [hbi, z, List.getElem?_eq_getElem hkb]
              exact hik ((List.getElem?_inj hil b3).mp h1)
            have h5 := b5 i b (intsV rs[i]) hbi (by rw [List.getElem?_map, List.getElem?_eq_getElem (by omega : i < rs.length)]; rfl)
            exact .lst (by rw [upd_ne hne]; exact h5) (rpL_nats _)
      have hRO : RowsOk al.length 4 (rs.set k ((rs[k]).set j (((rs[k])[j] + 1) % rs.length))) := by
        refine ⟨by rw [List.length_set]; exact TO.r.ne, by rw [List.length_set]; exact TO.r.le, fun r hr => ?_⟩
        rw [List.length_set]
        rcases List.mem_or_eq_of_mem_set hr with h1 | h1
        · exact TO.r.ok r h1
        · subst h1
          refine ⟨by rw [List.length_set]; exact hrk, fun m hm => ?_⟩
          rcases List.mem_or_eq_of_mem_set hm with h2 | h2
          · exact hrlt m h2
          · rw [h2]; exact Nat.mod_lt _ (by omega)
      have hdec : decide (rs = rs.set k ((rs[k]).set j (((rs[k])[j] + 1) % rs.length))) = decide (rs.length = 1) := by
        by_cases h1 : rs.length = 1
        · rw [decide_eq_true h1]
          refine decide_eq_true ?_
          have h2 : (rs[k])[j] = 0 := by have := hrlt _ (List.getElem_mem hjr); omega
          have h3 : ((rs[k])[j] + 1) % rs.length = (rs[k])[j] := by rw [h2, h1]
          rw [h3, List.set_getElem_self, List.set_getElem_self]
        · rw [decide_eq_false h1]
          refine decide_eq_false fun z => ?_
          have h2 : rs[k]? = some ((rs[k]).set j (((rs[k])[j] + 1) % rs.length)) := by
            have h3 := congrArg (fun l => l[k]?) z
            rw [List.getElem?_set_self hk] at h3
            exact h3
          rw [List.getElem?_eq_getElem hk] at h2
          have h3 := congrArg (fun l => l[j]?) (Option.some.inj h2)
          rw [List.getElem?_set_self hjr, List.getElem?_eq_getElem hjr] at h3
          have h4 := Option.some.inj h3
          have h5 := hrlt _ (List.getElem_mem hjr)
          have h6 : (rs[k])[j] + 1 < rs.length ∨ (rs[k])[j] + 1 = rs.length := by omega
          rcases h6 with h6 | h6
          · rw [Nat.mod_eq_of_lt h6] at h4
            omega
          · rw [h6, Nat.mod_self] at h4
            omega
      have hL2 : (rs.set k ((rs[k]).set j (((rs[k])[j] + 1) % rs.length))).length = rs.length := List.length_set ..
      generalize rs.set k ((rs[k]).set j (((rs[k])[j] + 1) % rs.length)) = rs2 at rp5 hRO hdec hL2
      have GM2 : GoodM al ls rs2 trs := ⟨haT, TO.l, hRO, GM.p, fun t ht => by have := GM.m t ht; rw [hL2]; exact this, GM.le⟩
      have hD5 : upd H4 bs[k] (.lst ((intsV rs[k]).set j (.int ((((rs[k])[j] + 1) % rs.length : Nat) : Int)))) D = some (.lst (bs.map V.ref)) := by rw [upd_ne hDb']; exact b1
      revert rp5 f5 hD5
      generalize upd H4 bs[k] _ = H5
      intro f5 rp5 hD5
      refine ⟨.ref ap, rfl, ap, [.ref x, .ref y], _, .ref x, rfl, rfl, SqL.of (f5.up _ _ hap), rfl, .str al, rfl, .ref pl, rfl, .ref D, rfl, .ref pm, rfl, fun x1 d1 hx1 hd1 hn1 => ?_⟩
      refine init_mk (K := K) (mk_of GM2 (.inl rfl) rfl (.inl rfl)) hx1 hd1 hn1 (rl.same f5.up) rp5 (rm.same f5.up) fun H6 s6 PA6 PO6 => ⟨rfl, ?_⟩
      have f6 := f5.trans (Fra.same f5.src s6)
      have hD6 := s6 _ _ hD5
      have e1 : eqP ⟨al, ixF al, ls, rs, trs⟩ ⟨al, ixF al, ls, rs2, trs⟩ = decide (rs.length = 1) := by
        rw [eqP_same PO PO6, decide_eq_true rfl, decide_eq_true rfl, hdec]
        simp
      have e2 : decide (V.int (((bs.map V.ref).length : Nat) : Int) = V.int 1) = decide (rs.length = 1) := by
        rw [hbl, b2, decide_eq_decide]
        exact ⟨fun h => by injection h with h; omega, fun h => by rw [h]; rfl⟩
      refine ⟨x, _, rfl, PA.same f6.up, PO, .inl ⟨x1, _, rfl, PA6, PO6, .ref D, rfl, _, _, rfl, lenV_sq (.inl hD6) rfl, rfl, rfl, _, rfl, ?_⟩⟩
      have e3 : (!decide (V.bl (eqP ⟨al, ixF al, ls, rs, trs⟩ ⟨al, ixF al, ls, rs2, trs⟩) = V.bl (decide (V.int (((bs.map V.ref).length : Nat) : Int) = V.int 1)))) = false := by rw [e1, e2]; simp
      refine (fun (z : (if (!decide (V.bl (eqP ⟨al, ixF al, ls, rs, trs⟩ ⟨al, ixF al, ls, rs2, trs⟩) = V.bl (decide (V.int (((bs.map V.ref).length : Nat) : Int) = V.int 1)))) = true then _ else _)) => z) ?_
      rw [e3]
      exact iteF (hq3 _ _ _ _ _ _ _ _ f6)
    obtain ⟨tl1, htl1, hq1⟩ : ∃ tl : TS, PSs (cxOf CX0 P w K mg base N__law_equals_right "_law_equals_right" (defScope s__law_equals_right) (He.ga K "_law_equals_right") cdv A outer s H E).nox ((defBody s__law_equals_right).drop 6) tl ∧
        ∀ (H2 : Hp) (v8 v11 v12 v13 v14 : Option V) (o pn : Addr) (p : Int) (c k j : Nat) (N : List Tri), Fra a H H2 → H2 o = some (.tup [.int p, .str ⟨#[c]⟩, .int (k : Nat)]) → o ≠ a → k < rs.length → al.cps.toList[j]? = some c →
          Rp H2 (.ref pn) (.list (N.map encTri)) → GoodM al ls rs N → N ≠ trs → tl { nx := fun _ H' => Q .non H', rt := Q } [some (.ref a), some (.str al), some (.ref tt), some vo, some (.ref ap), some (.ref pl), some (.ref pr), some (.ref pm), v8, some (.ref o), some (.ref pn), v11, v12, v13, v14] H2 := by
      refine ⟨_, (pss_cons (ps_if (PW.pt (pw_or (pt_cmpR (op_eqP T FQ bQ (hr.mono (by decide))) (pe_ix ix_list (pv 4) pe_int (fun _ _ => rfl)) (pe_makeS (E := fun _ => E0) (mkr_Pair T) (ok_Pair_init T FI (ok_masks_of_triples T)) (hr.mono (by decide)) (by rfl) (g_Pair T) bI passAt0 (pa_cons (pv 1) (pa_cons (pv 5) (pa_cons (pv 6) (pa_cons (pv 10) pa_nil))))) (nomark _)) (pw_or1 (pt_cmpR (op_eqP T FQ bQ (hr.mono (by decide))) (pe_makeS (E := fun _ => E0) (mkr_Pair T) (ok_Pair_init T FI (ok_masks_of_triples T)) (hr.mono (by decide)) (by rfl) (g_Pair T) bI passAt0 (pa_cons (pv 1) (pa_cons (pv 5) (pa_cons (pv 6) (pa_cons (pv 10) pa_nil))))) (pe_ix ix_list (pv 4) pe_int (fun _ _ => rfl)) (nomark _))))) (pss_one (ps_ret pe_bl)) pss_nil)
        htl2), ?_⟩
      intro H2 v8 v11 v12 v13 v14 o pn p c k j N f2 ho hoa hk hj rn GN hne
      have kN := mk_of (l := rowsD ls) (m := .list (N.map encTri)) GN (.inl rfl) rfl (.inl rfl)
      refine ⟨.ref ap, rfl, ap, [.ref x, .ref y], _, .ref x, rfl, rfl, SqL.of (f2.up _ _ hap), rfl, .str al, rfl, .ref pl, rfl, .ref pr, rfl, .ref pn, rfl, fun x1 d1 hx1 hd1 hn1 => ?_⟩
      refine init_mk (K := K) kN hx1 hd1 hn1 (rl.same f2.up) (rr.same f2.up) rn fun H3 s3 PA3 PO3 => ⟨rfl, ?_⟩
      have f3 := f2.trans (Fra.same f2.src s3)
      have e1 : eqP ⟨al, ixF al, ls, rs, trs⟩ ⟨al, ixF al, ls, rs, N⟩ = false := by
        rw [eqP_same PO PO3, decide_eq_false (Ne.symm hne), Bool.and_false, Bool.and_false]
      have e2 : eqP ⟨al, ixF al, ls, rs, N⟩ ⟨al, ixF al, ls, rs, trs⟩ = false := by
        rw [eqP_same PO3 PO, decide_eq_false hne, Bool.and_false, Bool.and_false]
      refine ⟨x, _, rfl, PA.same f3.up, PO, .inl ⟨x1, _, rfl, PA3, PO3, ?_⟩⟩
      refine ⟨_, rfl, ?_⟩
      rw [e1]
      refine iteF ?_
      refine ⟨.str al, rfl, .ref pl, rfl, .ref pr, rfl, .ref pn, rfl, fun x2 d2 hx2 hd2 hn2 => ?_⟩
      refine init_mk (K := K) kN hx2 hd2 hn2 (rl.same f3.up) (rr.same f3.up) (rn.same s3) fun H4 s4 PA4 PO4 => ⟨rfl, ?_⟩
      have f4 := f3.trans (Fra.same f3.src s4)
      refine ⟨.ref ap, rfl, ap, [.ref x, .ref y], _, .ref x, rfl, rfl, SqL.of (f4.up _ _ hap), rfl, x2, _, rfl, PA4, PO4, .inl ⟨x, _, rfl, PA.same f4.up, PO, _, rfl, ?_⟩⟩
      rw [e2]
      exact iteF (hq2 _ _ _ _ _ _ _ o p c k j f4 (s4 _ _ (s3 _ _ ho)) hoa hk hj)
    obtain ⟨tl0, htl0, hq0⟩ : ∃ tl : TS, PSs (cxOf CX0 P w K mg base N__law_equals_right "_law_equals_right" (defScope s__law_equals_right) (He.ga K "_law_equals_right") cdv A outer s H E).nox ((defBody s__law_equals_right).drop 4) tl ∧
        ∀ (H2 : Hp) (v8 v9 v10 v11 v12 v13 v14 : Option V), Fra a H H2 → tl { nx := fun _ H' => Q .non H', rt := Q } [some (.ref a), some (.str al), some (.ref tt), some vo, some (.ref ap), some (.ref pl), some (.ref pr), some (.ref pm), v8, v9, v10, v11, v12, v13, v14] H2 := by
      refine ⟨_, (pss_cons (ps_set (i := 9) sc__law_equals_right.nd rfl (Or.inr rfl) (pe_tup (pa_cons (pe_cal (ok_law_pick T) (hr.mono (by decide)) pass0 (pa_cons (pv 0) (pa_cons (pe_callB call_len (by rfl) (fr_len T) boot_len (pa_cons (pv 5) pa_nil)) pa_nil))) (pa_cons (pe_ix ix_seq (pv 1) (pe_cal (ok_law_pick T) (hr.mono (by decide)) pass0 (pa_cons (pv 0) (pa_cons (pe_callB call_len (by rfl) (fr_len T) boot_len (pa_cons (pv 1) pa_nil)) pa_nil))) (fun _ _ => rfl)) (pa_cons (pe_cal (ok_law_pick T) (hr.mono (by decide)) pass0 (pa_cons (pv 0) (pa_cons (pe_callB call_len (by rfl) (fr_len T) boot_len (pa_cons (pv 6) pa_nil)) pa_nil))) pa_nil)))))
        (pss_cons (ps_set (i := 10) sc__law_equals_right.nd rfl (Or.inl rfl) (pe_ifExp (pt_cmpR (op_notInD (hu65 hr)) (pv 9) (pv 7) rfl) (pe_callB (cr_sortedTri (hu64 hr)) (by rfl) (fr_sorted T) (by decide +kernel) (pa_cons (pe_op op_cat (pe_lst (pa_cons (pv 9) pa_nil)) (pv 7)) pa_nil)) (pe_lc (own := [("_law_triple", 14)]) (g := (gName 14)) (tt := tTest (tOp (rNeD K) (tVar 14) (tVar 9))) rfl sc__law_equals_right.nd  (pi_list (pv 7)) (blkOk_by (N := N__law_equals_right) (sc := defScope s__law_equals_right) (by decide +kernel)) (fun _ _ _ _ _ => (pg_name (i := 14) sc__law_equals_right.nd rfl (Or.inl rfl))) (fun _ _ _ _ _ => (pts_one (pt_cmpR (op_neD (hu64 hr)) (pv 14) (pv 9) (nomark _)))) (fun _ _ _ _ _ => (pv 14)))))
        htl1)), ?_⟩
      intro H2 v8 v9 v10 v11 v12 v13 v14 f2
      have hlm := TO.l.le
      have hrm := TO.r.le
      have hl1 := TO.l.ne
      have hr1 := TO.r.ne
      refine ⟨.ref a, rfl, .ref pl, rfl, _, _, rfl, lenV_sq (.inl (f2.up _ _ hpl)) rfl, a, _, rfl, by omega, by omega, f2.src, fun A3 S3 C3 p hp0 hp1 => ?_⟩
      have f3 := f2.trans (Fra.drawn A3 S3 C3)
      refine ⟨.str al, rfl, .ref a, rfl, .str al, rfl, _, _, rfl, lenV_str hal8, a, _, rfl, by omega, by omega, f3.src, fun A4 S4 C4 j hj0 hj1 => ?_⟩
      have f4 := f3.trans (Fra.drawn A4 S4 C4)
      obtain ⟨p, rfl⟩ := Int.eq_ofNat_of_zero_le hp0
      obtain ⟨j, rfl⟩ := Int.eq_ofNat_of_zero_le hj0
      have hcl : al.cps.toList.length = al.length := Array.length_toList
      have hjl : j < al.cps.toList.length := by omega
      have hjc : al.cps.toList[j]? = some al.cps.toList[j] := List.getElem?_eq_getElem hjl
      generalize al.cps.toList[j] = c at hjc
      refine .inr (.inr ⟨al, _, c, rfl, rfl, hz8, atI_nat hjc, .ref a, rfl, .ref pr, rfl, _, _, rfl, lenV_sq (.inl (f4.up _ _ hpr)) rfl, a, _, rfl, by omega, by omega, f4.src, fun A5 S5 C5 k hk0 hk1 => ⟨(by show 3 ≤ sizeLine; decide), fun o ho => ?_⟩⟩)
      obtain ⟨k, rfl⟩ := Int.eq_ofNat_of_zero_le hk0
      have f5 := f4.trans (Fra.drawn A5 S5 C5)
      revert ho f5
      generalize upd _ a (three A5 S5 C5) = H5
      intro ho f5
      have hoa := f5.src.ne ho
      have so := same_upd (o := .tup [.int (p : Nat), .str ⟨#[c]⟩, .int (k : Nat)]) ho
      have f6 := f5.trans (Fra.same f5.src so)
      have eo : upd H5 o (.tup [.int (p : Nat), .str ⟨#[c]⟩, .int (k : Nat)]) o = some (.tup [.int (p : Nat), .str ⟨#[c]⟩, .int (k : Nat)]) := upd_same
      clear so
      revert f6 eo
      generalize upd H5 o (.tup [.int (p : Nat), .str ⟨#[c]⟩, .int (k : Nat)]) = H6
      intro f6 eo
      have habc : ∀ d ∈ al.cps.toList, d < 0x110000 := PO.abc
      have hc11 : c < 0x110000 := habc c (List.mem_of_getElem? hjc)
      have hpl' : p < ls.length := by omega
      have hkr : k < rs.length := by omega
      have ht1 : (p, c, k).1 < ls.length ∧ (p, c, k).2.1 ∈ al.cps.toList ∧ (p, c, k).2.2 < rs.length := ⟨hpl', List.mem_of_getElem? hjc, hkr⟩
      have rone : Rt H6 (.ref o) (encTri (p, c, k)) := .tup eo (.cons (.int _) (.cons (.str _) (.cons (.int _) .nil)))
      have hpm6 := f6.up _ _ hpm
      have rm6 := rm.same f6.up
      have rx6 : RtL H6 xm (trs.map encTri) := by
        cases rm6 with
        | lst e h =>
          have e2 := Option.some.inj (e.symm.trans hpm6)
          cases e2
          exact rtL_tris h
      have shM : SeqAt.shaped (.list (trs.map encTri)) = true := shaped_lst PO.sm
      refine ⟨.ref o, rfl, .ref pm, rfl, encTri (p, c, k), trs.map encTri, rone.dp, .lst (SqL.of hpm6) rx6.dp, shaped_tri hc11, shM, _, rfl, ?_⟩
      rw [any_tri hc11 PO.ch]
      dsimp only
      by_cases hin : (p, c, k) ∈ trs
      · rw [decide_eq_true hin]
        refine iteF ?_
        refine ⟨.ref pm, rfl, pm, rfl, ⟨xm, SqL.of hpm6⟩, fun D hD => ?_⟩
        have hD6 : D ≠ o := fun z => by rw [z, eo] at hD; cases hD
        refine lc_it (walk_list (xs := xm)) (tt := tTest (tOp (rNeD K) (tVar 14) (tVar 9))) (fun i H7 => ∃ acc, H7 D = some (.lst acc) ∧ RtL H7 acc (((trs.take i).filter fun t => !decide (t = (p, c, k))).map encTri) ∧ acc.length ≤ i ∧ Same H6 H7) ⟨[], upd_same, .nil, Nat.le_refl _, same_upd hD⟩ (fun i H7 _ ⟨_, _, _, _, s⟩ => SqL.of (s _ _ hpm6)) ?_ ?_
        · rintro i x H7 H8 hi ⟨acc, h7, r7, l7, s7⟩ ⟨eH, hxi⟩
          replace eH := eH.symm
          subst eH
          have hit : i < trs.length := by rw [← hxm]; exact hi
          obtain ⟨d, hd, rd⟩ := rx6.get hxi
          rw [List.getElem?_map, List.getElem?_eq_getElem hit] at hd
          cases hd
          have hsi : (trs[i]).2.1 < 0x110000 := PO.ch _ (List.getElem_mem hit)
          have htk : trs.take (i + 1) = trs.take i ++ [trs[i]] := by rw [List.take_succ, List.getElem?_eq_getElem hit]; rfl
          have hm128 := trs_len TO hal1.2
          refine ⟨rfl, x, rfl, .ref o, rfl, encTri trs[i], encTri (p, c, k), (rd.tups (Same.tups s7)).dp, (rone.tups (Same.tups s7)).dp, shaped_tri hsi, shaped_tri hc11, _, rfl, ?_⟩
          rw [eqv_tri hsi hc11]
          by_cases e1 : trs[i] = (p, c, k)
          · rw [decide_eq_true e1]
            refine iteF ⟨acc, h7, ?_, by omega, s7⟩
            rw [htk, List.filter_append, List.filter_cons_of_neg (by rw [decide_eq_true e1]; exact Bool.noConfusion), List.filter_nil, List.append_nil]
            exact r7
          · rw [decide_eq_false e1]
            refine iteT ⟨x, rfl, acc, h7, Nat.lt_of_le_of_lt (by omega : acc.length ≤ 200) (by decide), acc ++ [x], upd_same, ?_, ?_, ?_⟩
            · have tu := tups_upd (o' := .lst (acc ++ [x])) h7 fun xs z => by cases z
              rw [htk, List.filter_append, List.filter_cons_of_pos (by rw [decide_eq_false e1]; rfl), List.filter_nil, List.map_append]
              exact RtL.append ((rd.tups (Same.tups s7)).tups tu) (r7.tups tu)
            · rw [List.length_append]; show acc.length + 1 ≤ i + 1; omega
            · intro b u e
              rw [upd_ne (ne_of_none e hD)]
              exact s7 b u e
        · rintro H7 ⟨acc, h7, r7, _, s7⟩
          rw [hxm, List.take_length] at r7
          refine hq1 H7 _ _ _ _ _ o D p c k j (trs.filter fun t => !decide (t = (p, c, k))) (f6.trans (Fra.same f6.src s7)) (s7 _ _ eo) hoa hkr hjc (.lst h7 r7.rp) ⟨haT, TO.l, TO.r, GM.p.sublist List.filter_sublist, fun t ht => GM.m t (List.mem_filter.mp ht).1, Nat.le_trans (List.length_filter_le _ _) GM.le⟩ fun z => ?_
          rw [← z] at hin
          have h1 := (List.mem_filter.mp hin).2
          simp at h1
      · rw [decide_eq_false hin]
        refine iteT ?_
        have hm128 := trs_len TO hal1.2
        refine ⟨.ref o, rfl, (by show 1 ≤ sizeLine; decide), fun L hL => ⟨.ref pm, rfl, L, pm, [.ref o], xm, rfl, rfl, upd_same, same_upd hL _ _ hpm6, Nat.le_trans (by show 1 + xm.length ≤ 200; omega) (by decide), fun pc hpc => ⟨pc, .ref o :: xm, (p, c, k) :: trs, rfl, SqL.of upd_same, ?_, fun ys pn hyl hys hpn => ?_⟩⟩⟩
        · have s8 := (same_upd (o := .lst [.ref o]) hL).trans (same_upd (o := .lst ([.ref o] ++ xm)) hpc)
          exact .cons (rone.tups (Same.tups s8)) (rx6.tups (Same.tups s8))
        · have s8 := (same_upd (o := .lst [.ref o]) hL).trans (same_upd (o := .lst ([.ref o] ++ xm)) hpc)
          have s9 := same_upd (o := .lst ys) hpn
          have hnd : ((p, c, k) :: trs).Nodup := List.nodup_cons.mpr ⟨hin, GM.p.imp fun h z => by rw [z] at h; exact ltT_irr _ h⟩
          have hpm' := List.mergeSort_perm ((p, c, k) :: trs) leTB
          refine hq1 _ _ _ _ _ _ o pn p c k j (((p, c, k) :: trs).mergeSort leTB) (f6.trans (Fra.same f6.src (s8.trans s9))) (s9 _ _ (s8 _ _ eo)) hoa hkr hjc (.lst upd_same (hys.tups (Same.tups s9)).rp) ⟨haT, TO.l, TO.r, sort_asc _ hnd, fun t ht => ?_, ?_⟩ fun z => ?_
          · rcases List.mem_cons.mp (hpm'.mem_iff.mp ht) with e | e
            · rw [e]; exact ht1
            · exact GM.m t e
          · rw [hpm'.length_eq]
            show trs.length + 1 ≤ 12800
            omega
          · exact hin (by rw [← z]; exact hpm'.mem_iff.mpr (List.mem_cons_self ..))
    obtain ⟨tt', pl', xl', pr', xr', pm', xm', rfl, htt', rl', rr', rm', hpl', hxl', hpr', hxr', hpm', hxm', sl', sr', sm'⟩ := tabs_at ro
    have f0 := Fra.refl hs
    refine ⟨_, PSs.nox (pss_cons (ps_asg (pv 2) (pg_tup rfl (pgs_cons (pg_name (i := 5) sc__law_equals_right.nd rfl (Or.inl rfl)) (pgs_cons (pg_name (i := 6) sc__law_equals_right.nd rfl (Or.inl rfl)) (pgs_cons (pg_name (i := 7) sc__law_equals_right.nd rfl (Or.inl rfl)) pgs_nil)))))
        (pss_cons (ps_set (i := 8) sc__law_equals_right.nd rfl (Or.inl rfl) (pe_makeS (E := fun _ => E0) (mkr_Pair T) (ok_Pair_init T FI (ok_masks_of_triples T)) (hr.mono (by decide)) (by rfl) (g_Pair T) bI passAt0 (pa_cons (pv 1) (pa_cons (pe_lc (te := tCB (rTupO K) (tCons (tVar 13) tNil)) (own := [("_law_move", 13)]) (g := (gName 13)) (tt := tYes) rfl sc__law_equals_right.nd  (pi_list (pv 5)) (blkOk_by (N := N__law_equals_right) (sc := defScope s__law_equals_right) (by decide +kernel)) (fun _ _ _ _ _ => (pg_name (i := 13) sc__law_equals_right.nd rfl (Or.inl rfl))) (fun _ _ _ _ _ => pts_nil) (fun _ _ _ _ _ => by refine pe_callTy (r := rTupO K) (t := tCons (tVar 13) tNil) ?_ (by rfl) (fr_tuple T) b_tuple (pa_cons (pv 13) pa_nil); exact call_tuple_of)) (pa_cons (pv 6) (pa_cons (pe_callTy call_tuple_of (by rfl) (fr_tuple T) b_tuple (pa_cons (pv 7) pa_nil)) pa_nil))))))
        (pss_cons (ps_if (PW.pt (pw_or (pt_not (pt_cmpR (op_eqP T FQ bQ (hr.mono (by decide))) (pe_ix ix_list (pv 4) pe_int (fun _ _ => rfl)) (pv 8) (nomark _))) (pw_or (pt_cmpR (op_neP T FQ bQ (hr.mono (by decide))) (pe_ix ix_list (pv 4) pe_int (fun _ _ => rfl)) (pv 8) (nomark _)) (pw_or1 (pt_cmpR (op_eqP T FQ bQ (hr.mono (by decide))) (pe_ix ix_list (pv 4) pe_int (fun _ _ => rfl)) (pe_tup (pa_cons (pv 1) (pa_cons (pe_cal (ok_law_deep T) (hr.mono (by decide)) pass0 (pa_cons (pv 5) pa_nil)) (pa_cons (pe_cal (ok_law_deep T) (hr.mono (by decide)) pass0 (pa_cons (pv 6) pa_nil)) (pa_cons (pe_callTy call_tuple_of (by rfl) (fr_tuple T) b_tuple (pa_cons (pv 7) pa_nil)) pa_nil))))) (nomark _)))))) (pss_one (ps_ret pe_bl)) pss_nil)
        (pss_cons (ps_if (pt_cmpR op_ne (pe_cmpR (op_eqP T FQ bQ (hr.mono (by decide))) (pe_ix ix_list (pv 4) pe_int (fun _ _ => rfl)) (pe_ix ix_list (pv 4) pe_int (fun _ _ => rfl)) (nomark _)) (pe_cmpR (op_eqD (hu64 hr)) (pe_lst (pa_cons (pv 5) (pa_cons (pv 6) (pa_cons (pv 7) pa_nil)))) (pe_lst (pa_cons (pe_ix ix_tup (pv 3) pe_int (fun _ _ => rfl)) (pa_cons (pe_ix ix_tup (pv 3) pe_int (fun _ _ => rfl)) (pa_cons (pe_ix ix_tup (pv 3) pe_int (fun _ _ => rfl)) pa_nil)))) (nomark _)) (nomark _)) (pss_one (ps_ret pe_bl)) pss_nil)
        htl0)))), ?_⟩
    refine ⟨.ref tt, rfl, tt, _, rfl, SqT.of (f0.up _ _ htt), rfl, _, _, rfl, _, _, rfl, _, _, rfl, rfl, ?_⟩
    have hpl0 := f0.up _ _ hpl
    have hpm0 := f0.up _ _ hpm
    have hlm := TO.l.le
    refine ⟨.str al, rfl, .ref pl, rfl, pl, rfl, ⟨xl, SqL.of hpl0⟩, fun D hD => ?_⟩
    refine lc_new (walk_list (xs := xl)) hD (Nat.le_trans (by rw [hxl]; exact hlm) (by decide)) (fun (i : Nat) H' v => ∀ r, ls[i]? = some r → Rt H' v (encM r)) (fun i H1 H2 v s h r hr => (h r hr).tups s) (fun H' s => SqL.of (s _ _ hpl0))
      (fun i x H2 H3 Qk hi s2 hy hk => ?_) (fun H2 acc s2 hD2 hla hv => ?_)
    · obtain ⟨eH, hxi⟩ := hy
      replace eH := eH.symm
      subst eH
      have hil : i < ls.length := by rw [← hxl]; exact hi
      obtain ⟨c, hc1, hc2⟩ := sl i (intsV ls[i]) (by rw [List.getElem?_map, List.getElem?_eq_getElem hil]; rfl)
      have : x = .ref c := Option.some.inj (hxi.symm.trans hc1)
      subst this
      have hc3 := sq_same s2 (sq_same f0.up hc2)
      refine ⟨rfl, .ref c, rfl, c, intsV ls[i], rfl, ?_⟩
      rcases hc3 with e | e
      · refine .inl ⟨SqL.of e, fun l hl => hk _ _ (same_upd hl) fun r hr => ?_⟩
        rw [List.getElem?_eq_getElem hil] at hr
        cases hr
        exact .tup upd_same (rtL_ints id _)
      · refine .inr ⟨SqT.of e, hk _ _ (Same.refl _) fun r hr => ?_⟩
        rw [List.getElem?_eq_getElem hil] at hr
        cases hr
        exact .tup e (rtL_ints id _)
    have hla : acc.length = xl.length := hla
    have rL : Rp H2 (.ref D) (rowsT ls) := .lst hD2 (RtL.rp (rtL_by (by rw [hla, hxl, List.length_map]) fun i v d hi hd => by
      rw [List.getElem?_map] at hd
      cases hr : ls[i]? with
      | none => rw [hr] at hd; cases hd
      | some r => rw [hr] at hd; cases hd; exact hv i v hi r hr))
    refine ⟨.ref pr, rfl, .ref pm, rfl, pm, xm, rfl, .inl ⟨SqL.of (s2 _ _ hpm0), fun t ht => ?_⟩⟩
    intro x1 d1 hx1 hd1 hn1
    have s3 := s2.trans (same_upd (o := .tup xm) ht)
    have f3 := f0.trans (Fra.same f0.src s3)
    have hpm3 := f3.up _ _ hpm
    have rm3 := rm.same f3.up
    have rx3 : RtL (upd H2 t (.tup xm)) xm (trs.map encTri) := by
      cases rm3 with
      | lst e h =>
        have e2 := Option.some.inj (e.symm.trans hpm3)
        cases e2
        exact rtL_tris h
    refine init_mk (K := K) (mk_of GM (.inr rfl) rfl (.inr rfl)) hx1 hd1 hn1 (rL.same (same_upd ht)) (rr.same f3.up) (Rt.rp (.tup upd_same rx3)) fun H4 s4 PA4 PO4 => ⟨rfl, ?_⟩
    have f4 := f3.trans (Fra.same f3.src s4)
    have e1 : eqP ⟨al, ixF al, ls, rs, trs⟩ ⟨al, ixF al, ls, rs, trs⟩ = true := eqP_self PO
    refine ⟨.ref ap, rfl, ap, [.ref x, .ref y], _, .ref x, rfl, rfl, SqL.of (f4.up _ _ hap), rfl, .ref x1, rfl, x, _, rfl, PA.same f4.up, PO, .inl ⟨x1, _, rfl, PA4, PO4, _, rfl, ?_⟩⟩
    rw [e1]
    refine iteF ⟨.ref ap, rfl, ap, [.ref x, .ref y], _, .ref x, rfl, rfl, SqL.of (f4.up _ _ hap), rfl, .ref x1, rfl, x, _, rfl, PA.same f4.up, PO, .inl ⟨x1, _, rfl, PA4, PO4, _, rfl, ?_⟩⟩
    rw [e1]
    refine iteF ⟨.ref ap, rfl, ap, [.ref x, .ref y], _, .ref x, rfl, rfl, SqL.of (f4.up _ _ hap), rfl, .str al, rfl, .ref pl, rfl, .ref pl, rowsD ls, rfl, rl.same f4.up, deep_rows _ TO.l.le, fun H5 u5 s5 ru5 => ?_⟩
    have f5 := f4.trans (Fra.same f4.src s5)
    refine ⟨.ref pr, rfl, .ref pr, rowsD rs, rfl, rr.same f5.up, deep_rows _ TO.r.le, fun H6 u6 s6 ru6 => ?_⟩
    have f6 := f5.trans (Fra.same f5.src s6)
    have hpm6 := f6.up _ _ hpm
    have rx6 : RtL H6 xm (trs.map encTri) := rtL_at (rm.same f6.up) hpm6
    refine ⟨.ref pm, rfl, pm, xm, rfl, .inl ⟨SqL.of hpm6, fun t7 ht7 => ⟨(by show 4 ≤ sizeLine; decide), fun t8 ht8 => ?_⟩⟩⟩
    have s7 := same_upd (o := .tup xm) ht7
    have s8 := same_upd (o := .tup [.str al, u5, u6, .ref t7]) ht8
    have f8 := f6.trans (Fra.same f6.src (s7.trans s8))
    have r8 : Rp (upd (upd H6 t7 (.tup xm)) t8 (.tup [.str al, u5, u6, .ref t7])) (.ref t8) (.tuple [.str al, keptD (rowsD ls), keptD (rowsD rs), encT trs]) :=
      .tup upd_same (.cons (.str al) (.cons ((ru5.tups (Same.tups (s6.trans (s7.trans s8)))).rp) (.cons ((ru6.tups (Same.tups (s7.trans s8))).rp) (.cons (Rt.rp (.tup (s8 _ _ upd_same) (rx6.tups (Same.tups (s7.trans s8))))) .nil))))
    refine ⟨x, _, rfl, PA.same f8.up, PO, .inr (.inr ⟨⟨_, r8⟩, _, rfl, ?_⟩)⟩
    refine iteF ?_
    clear s7 s8 r8
    revert f8
    generalize upd (upd H6 t7 (.tup xm)) t8 (.tup [.str al, u5, u6, .ref t7]) = H8
    intro f8
    refine ⟨.ref ap, rfl, ap, [.ref x, .ref y], _, .ref x, rfl, rfl, SqL.of (f8.up _ _ hap), rfl, .ref ap, rfl, ap, [.ref x, .ref y], _, .ref y, rfl, rfl, SqL.of (f8.up _ _ hap), rfl, x, _, rfl, PA.same f8.up, PO, .inl ⟨y, _, rfl, PB.same f8.up, PO', ?_⟩⟩
    refine ⟨.ref pl, rfl, .ref pr, rfl, .ref pm, rfl, (by show 3 ≤ sizeLine; decide), fun L1 hL1 => ?_⟩
    have s9 := same_upd (o := .lst [.ref pl, .ref pr, .ref pm]) hL1
    have f9 := f8.trans (Fra.same f8.src s9)
    have e9 : upd H8 L1 (.lst [.ref pl, .ref pr, .ref pm]) L1 = some (.lst [.ref pl, .ref pr, .ref pm]) := upd_same
    clear s9
    revert f9 e9
    generalize upd H8 L1 (.lst [.ref pl, .ref pr, .ref pm]) = H9
    intro f9 e9
    have htt9 := f9.up _ _ htt'
    refine ⟨.ref tt', rfl, tt', _, _, .ref pl', rfl, rfl, SqT.of htt9, rfl, .ref tt', rfl, tt', _, _, .ref pr', rfl, rfl, SqT.of htt9, rfl, .ref tt', rfl, tt', _, _, .ref pm', rfl, rfl, SqT.of htt9, rfl, (by show 3 ≤ sizeLine; decide), fun L2 hL2 => ?_⟩
    have s10 := same_upd (o := .lst [.ref pl', .ref pr', .ref pm']) hL2
    have f10 := f9.trans (Fra.same f9.src s10)
    have d1 : Rp (upd H9 L2 (.lst [.ref pl', .ref pr', .ref pm'])) (.ref L1) (.list [rowsD ls, rowsD rs, .list (trs.map encTri)]) := .lst (s10 _ _ e9) (.cons (rl.same f10.up) (.cons (rr.same f10.up) (.cons (rm.same f10.up) .nil)))
    have d2 : Rp (upd H9 L2 (.lst [.ref pl', .ref pr', .ref pm'])) (.ref L2) (.list [rowsD ls', rowsD rs', .list (trs'.map encTri)]) := .lst upd_same (.cons (rl'.same f10.up) (.cons (rr'.same f10.up) (.cons (rm'.same f10.up) .nil)))
    obtain ⟨n1, g1⟩ := tabs_eqok ls rs PO.ch
    obtain ⟨n2, g2⟩ := tabs_eqok ls' rs' PO'.ch
    refine ⟨_, _, d1.dp n1, d2.dp n2, g1, g2, rfl, _, rfl, ?_⟩
    have e3 : (!decide (V.bl (eqP ⟨al, ixF al, ls, rs, trs⟩ ⟨al, ixF al, ls', rs', trs'⟩) = V.bl (PyData.eqv (.list [rowsD ls, rowsD rs, .list (trs.map encTri)]) (.list [rowsD ls', rowsD rs', .list (trs'.map encTri)])))) = false := by
      rw [eqP_same PO PO', eqv_tabs PO.ch PO'.ch]
      simp
    refine (fun (z : (if (!decide (V.bl (eqP ⟨al, ixF al, ls, rs, trs⟩ ⟨al, ixF al, ls', rs', trs'⟩) = V.bl (PyData.eqv (.list [rowsD ls, rowsD rs, .list (trs.map encTri)]) (.list [rowsD ls', rowsD rs', .list (trs'.map encTri)])))) = true then _ else _)) => z) ?_
    rw [e3]
    exact iteF (hq0 _ _ _ _ _ _ _ _ f10)
end
end Kx
set_option Elab.async false
set_option linter.all false
set_option maxRecDepth 100000
set_option maxHeartbeats 4000000
namespace Kx
open PySem PySem.Spec PyProof.Rows L2
theorem same_src {H H' : Hp} {a : Addr} (s : Same H H') (h : H a = none) : Same H (del H' a) := fun b o e => by
  rw [del_ne (ne_of_none e h)]
  exact s b o e
theorem src_at {H H' : Hp} {a p : Addr} {bs : List Bool} (h : SrcAt H a) (s : Same H H') (e : H' p = some (.lst (bs.map V.bl))) : p ≠ a := fun z => by
  obtain ⟨A, S, C, h⟩ := h
  have h2 := s _ _ h
  rw [← z, e] at h2
  cases bs with
  | nil => cases h2
  | cons b bs => cases h2
theorem sql_same {K : PySem.W.Frag} {H H' : Hp} {a : Addr} {xs : List V} (s : Same H H') (h : SqL K H a xs) : SqL K H' a xs := by
  rcases h with h | h
  · refine .inl ?_
    rcases h with h | ⟨o, h⟩
    · exact .inl (s _ _ h)
    · exact .inr ⟨o, s _ _ h⟩
  · exact .inr h
theorem none_of {H H' : Hp} {a : Addr} (s : Same H H') (h : H' a = none) : H a = none := by
  cases e : H a with
  | none => rfl
  | some o => rw [s _ _ e] at h; cases h
def triLD (t : Tri) : PyData := .list [.int (t.1 : Nat), .str ⟨#[t.2.1]⟩, .int (t.2.2 : Nat)]
theorem copied_rows {H1 H2 : Hp} {D : Addr} {ls : List (List Nat)} (h : CopyP H1 D (ls.map intsV) ls.length H2) (hD : H1 D = none) : Rp H2 (.ref D) (rowsD ls) := by
  have := copy_data (G := H2) (dss := ls.map fun r => r.map fun k => PyData.int (k : Nat)) (by rw [List.length_map]; exact h) (by rw [List.length_map, List.length_map]) (fun i vs ds h1 h2 => by
    rw [List.getElem?_map] at h1 h2
    cases hr : ls[i]? with
    | none => rw [hr] at h1; cases h1
    | some r =>
      rw [hr] at h1 h2
      cases h1
      cases h2
      exact fun _ => rpL_nats r) (fun _ _ _ e => e) hD
  rw [List.map_map] at this
  exact this
theorem copied_tris {H1 H2 : Hp} {D : Addr} {trs : List Tri} (h : CopyP H1 D (trs.map triV) trs.length H2) (hD : H1 D = none) : Rp H2 (.ref D) (.list (trs.map triLD)) := by
  have := copy_data (G := H2) (dss := trs.map fun t => [PyData.int (t.1 : Nat), .str ⟨#[t.2.1]⟩, .int (t.2.2 : Nat)]) (by rw [List.length_map]; exact h) (by rw [List.length_map, List.length_map]) (fun i vs ds h1 h2 => by
    rw [List.getElem?_map] at h1 h2
    cases hr : trs[i]? with
    | none => rw [hr] at h1; cases h1
    | some t =>
      rw [hr] at h1 h2
      cases h1
      cases h2
      exact fun _ => .cons (.int _) (.cons (.str _) (.cons (.int _) .nil))) (fun _ _ _ e => e) hD
  rw [List.map_map] at this
  exact this
theorem goMarked_L {al : List Nat} {nl nr : Int} : ∀ (trs : List Tri) (prev : Option PyData) (k : Int), goMarked al nl nr prev (trs.map triLD) k = goMarked al nl nr prev (trs.map encTri) k
  | [], _, _ => rfl
  | t :: trs, prev, k => by
    rw [List.map_cons, List.map_cons, goMarked_cons, goMarked_cons, show tripleD al nl nr (triLD t) = tripleD al nl nr (encTri t) from rfl, show tupOf (triLD t) = tupOf (encTri t) from rfl, goMarked_L trs]
theorem mk_lists {al : Str} {ls rs : List (List Nat)} {trs : List Tri} (g : GoodM al ls rs trs) : MkD al ls rs trs (rowsD ls) (rowsD rs) (.list (trs.map triLD)) := by
  obtain ⟨k1, k2, k3⟩ := mk_of g (.inl rfl) rfl (.inl rfl)
  refine ⟨?_, ⟨k2.1, k2.2.1, k2.2.2.1, ?_⟩, ?_⟩
  · rw [pairDue_ok g.ab] at k1 ⊢
    have e : markedDue al.cps.toList (lenD (rowsD ls)) (lenD (rowsD rs)) (.list (trs.map triLD)) = markedDue al.cps.toList (lenD (rowsD ls)) (lenD (rowsD rs)) (.list (trs.map encTri)) := by
      unfold markedDue
      exact goMarked_L trs none 0
    rw [e]
    exact k1
  · intro ds hds
    cases hds
    refine ⟨by rw [List.length_map]; have := g.le; omega, fun x hx es hes => ?_⟩
    obtain ⟨t, ht, rfl⟩ := List.mem_map.mp hx
    cases hes
    refine ⟨by simp, fun y hy z hz => ?_⟩
    simp only [List.mem_cons, List.not_mem_nil, or_false] at hy
    rcases hy with rfl | rfl | rfl
    · cases hz
    · cases hz
      show 1 ≤ 100000
      decide
    · cases hz
  · rw [← k3]
    unfold pairD
    have e : trisD (.list (trs.map triLD)) = trisD (.list (trs.map encTri)) := by
      unfold trisD itemsD
      rw [Option.getD_some, Option.getD_some, List.map_map, List.map_map]
      rfl
    rw [e]
theorem PairAt.upd_lst {K : PySem.W.Frag} {H : Hp} {x L : Addr} {D : PairD} {xs ys : List V} (h : PairAt K H x D) (e : H L = some (.lst xs)) : PairAt K (upd H L (.lst ys)) x D := by
  obtain ⟨dx, vl, vr, vm, vk, h1, h2, h3, h4, h5, h6⟩ := h
  have tu := tups_upd (o' := .lst ys) e fun zs z => by cases z
  exact ⟨dx, vl, vr, vm, vk, by rw [upd_ne (fun z => by rw [z, e] at h1; cases h1)]; exact h1, by rw [upd_ne (fun z => by rw [z, e] at h2; cases h2)]; exact h2, h3.tups tu, h4.tups tu, h5.tups tu, h6.tups tu⟩
theorem PairAt.del_lst {K : PySem.W.Frag} {H : Hp} {x L : Addr} {D : PairD} {xs : List V} (h : PairAt K H x D) (e : H L = some (.lst xs)) : PairAt K (del H L) x D := by
  obtain ⟨dx, vl, vr, vm, vk, h1, h2, h3, h4, h5, h6⟩ := h
  have tu : Tups H (del H L) := fun b xs e2 => by rw [del_ne (fun z => by rw [z, e] at e2; cases e2)]; exact e2
  exact ⟨dx, vl, vr, vm, vk, by rw [del_ne (fun z => by rw [z, e] at h1; cases h1)]; exact h1, by rw [del_ne (fun z => by rw [z, e] at h2; cases h2)]; exact h2, h3.tups tu, h4.tups tu, h5.tups tu, h6.tups tu⟩
theorem same_over {H H' : Hp} {D : Addr} {o : HO} (s : Same H H') (hD : H D = none) : Same H (upd H' D o) := fun b u e => by rw [upd_ne (ne_of_none e hD)]; exact s b u e
theorem refs_ints {bs : List Addr} {r : List Nat} (h : 0 < r.length) (e : bs.map V.ref = intsV r) : False := by
  cases r with
  | nil => cases h
  | cons k r =>
    cases bs with
    | nil => cases e
    | cons b bs =>
      have e1 : V.ref b = V.int k := (List.cons.inj e).1
      cases e1
theorem kept_rows (ls : List (List Nat)) : keptD (rowsD ls) = encR ls := by
  show PyData.tuple ((ls.map rowD).map tupOf) = .tuple (ls.map encM)
  rw [List.map_map]
  rfl
theorem eqok_four {al : Str} {ls rs : List (List Nat)} {trs : List Tri} (ha : ∀ c ∈ al.cps.toList, c < 0x110000) (ht : ∀ t ∈ trs, t.2.1 < 0x110000) : EqOk (.tuple [.str al, encR ls, encR rs, encT trs]) := by
  have hal : PyData.strOk al = true := by
    unfold PyData.strOk
    rw [← Array.all_toList, List.all_eq_true]
    exact fun c hc => decide_eq_true (ha c hc)
  have d1 := depth_encR ls
  have d2 := depth_encR rs
  have d3 := depth_encT trs
  have hp : pureD (.tuple [.str al, encR ls, encR rs, encT trs]) = true := by
    simp only [pureD, pureL, hal, pure_encR, pure_encT ht, Bool.and_true]
  exact eqok_of (lay_pure hp) (by simp only [PyData.depth, PyData.depthAll]; omega)
theorem word_ok (cs : List Nat) : (Txt.join "" (cs.map one1)).length = cs.length ∧ ∀ c ∈ (Txt.join "" (cs.map one1)).cps.toList, c ∈ cs := by
  have e : (Txt.join "" (cs.map one1)).cps.toList = cs := by
    show (Builtin.Str.glued "" (cs.map one1)).cps.toList = cs
    rw [StrLaws.glued_eq_join]
    induction cs with
    | nil => rfl
    | cons c cs ih =>
      cases cs with
      | nil => rfl
      | cons d cs =>
        show (one1 c ++ "" ++ Str.join "" ((d :: cs).map one1)).cps.toList = _
        rw [PySem.Str.cps_append, PySem.Str.cps_append, Array.toList_append, Array.toList_append, ih]
        rfl
  refine ⟨?_, fun c hc => by rw [e] at hc; exact hc⟩
  rw [show (Txt.join "" (cs.map one1)).length = (Txt.join "" (cs.map one1)).cps.toList.length from rfl, e]
section
variable {P : Program} {w : World} {K : PySem.W.Frag} {mg : Str → Option Value} {base : Heap}
structure TwoP (K : PySem.W.Frag) (B : Hp) (al : Str) (T Pa : Addr) (t1 t2 : V) (x y : Addr) (ls rs ls' rs' : List (List Nat)) (trs trs' : List Tri) : Prop where
  r1 : Rp B t1 (tabsD ls rs trs)
  r2 : Rp B t2 (tabsD ls' rs' trs')
  t : B T = some (.lst [t1, t2])
  p : B Pa = some (.lst [.ref x, .ref y])
  px : PairAt K B x ⟨al, ixF al, ls, rs, trs⟩
  py : PairAt K B y ⟨al, ixF al, ls', rs', trs'⟩
theorem TwoP.same {B B' : Hp} {al : Str} {T Pa : Addr} {t1 t2 : V} {x y : Addr} {ls rs ls' rs' : List (List Nat)} {trs trs' : List Tri} (h : TwoP K B al T Pa t1 t2 x y ls rs ls' rs' trs trs') (s : Same B B') : TwoP K B' al T Pa t1 t2 x y ls rs ls' rs' trs trs' :=
  ⟨h.r1.same s, h.r2.same s, s _ _ h.t, s _ _ h.p, h.px.same s, h.py.same s⟩
def sp_law (K : PySem.W.Frag) : Sp := fun vs H Q _ => ∃ (b : Addr) (ns : List Int), vs = [.ref b] ∧ SqL K H b (ns.map V.int) ∧ ns.length ≤ 1000 ∧ (∀ n ∈ ns, Builtin.Int.intBits n ≤ 1048576) ∧ ∀ H', Q (.bl true) H'
theorem ok_law (T : Txt K mg) : CalG P w K mg base CX0 11 "law" ["_law_script"] (sp_law K) := by
  obtain ⟨fd, F⟩ := F_law T
  obtain ⟨fdI, FI⟩ := F_Pair___init__ T
  have bI : Binds K fdI ["self", "alphabet", "left", "right", "marked"] [] := FI.bindsN fun _ _ _ _ _ _ us hl => match us, hl with | [_, _, _, _, _], _ => rfl
  refine calG_mk F (g_law T) sc_law (fun _ _ _ _ _ _ us hl => match us, hl with | [_], _ => rfl) (fun vs H Q E h => ?_) (fun cdv A outer s H vs Q E hG hr h => ?_)
  · obtain ⟨b, ns, rfl, _⟩ := h; rfl
  · obtain ⟨b, ns, rfl, hb, hn, hbits, q⟩ := h
    obtain ⟨tlF, htlF, hqF⟩ : ∃ tl : TS, PSs (cxOf CX0 P w K mg base N_law "law" (defScope s_law) (He.ga K "law") cdv A outer s H E).nox ((defBody s_law).drop 9) tl ∧
        ∀ (H2 : Hp) (al : Str) (t1 t2 : V) (Ta Pa Ra x y : Addr) (ls rs ls' rs' : List (List Nat)) (trs trs' : List Tri) (zs : List Str) (v1 v5 v6 v7 v8 v9 v10 v11 v12 v14 v15 v16 v17 : Option V), al ∈ menuA → TwoP K H2 al Ta Pa t1 t2 x y ls rs ls' rs' trs trs' → TabsOk al 4 ls rs trs → TabsOk al 4 ls' rs' trs' → PairOk ⟨al, ixF al, ls, rs, trs⟩ → PairOk ⟨al, ixF al, ls', rs', trs'⟩ →
          SqL K H2 b (ns.map V.int) → H2 Ra = some (.lst (zs.map V.str)) → 5 ≤ zs.length → (∀ (i : Nat) z, 2 ≤ i → i < 4 → zs[i]? = some z → z.length ≤ 8 ∧ ∀ c ∈ z.cps.toList, c ∈ al.cps.toList) →
          tl { nx := fun _ H' => Q .non H', rt := Q } [some (.ref b), v1, some (.str al), some (.ref Ta), some (.ref Pa), v5, v6, v7, v8, v9, v10, v11, v12, some (.ref Ra), v14, v15, v16, v17] H2 := by
      refine ⟨_, (pss_cons (ps_set (i := 15) sc_law.nd rfl (Or.inr rfl) (pe_cal (ok_law_source T) (hr.mono (by decide)) pass0 (pa_cons (pv 0) (pa_cons pe_int pa_nil))))
        (pss_cons (ps_if (pt_not (pt_val (pe_cal (ok_law_equals_right T) (hr.mono (by decide)) pass0 (pa_cons (pv 15) (pa_cons (pv 2) (pa_cons (pe_ix ix_list (pv 3) pe_int (fun _ _ => rfl)) (pa_cons (pe_ix ix_list (pv 3) pe_int (fun _ _ => rfl)) (pa_cons (pv 4) pa_nil)))))))) (pss_one (ps_ret pe_bl)) pss_nil)
        (pss_cons (ps_if (PW.pt (pw_or (pt_not (pt_val (pe_calG (ok_law_makes_right T) hG (hr.mono (by decide)) pass0 (pa_cons (pv 15) (pa_cons (pv 2) (pa_cons (pe_ix ix_list (pv 3) pe_int (fun _ _ => rfl)) pa_nil)))))) (pw_or1 (pt_not (pt_val (pe_calG (ok_law_letters_right T) hG (hr.mono (by decide)) pass0 (pa_cons (pv 15) (pa_cons (pv 2) pa_nil)))))))) (pss_one (ps_ret pe_bl)) pss_nil)
        (pss_one (ps_ret (pe_callB (cr_all rfl) (by rfl) (fr_all T) b_all (pa_cons (pe_lc (te := tCall (sp_law_rows_right K) [] E0 (tCons (tVar 15) (tCons (tVar 2) (tCons (tOp (rIxL K) (tVar 3) (tVar 12)) (tCons (tOp (rIxL K) (tVar 4) (tVar 12)) (tCons (tOp (rIxL K) (tVar 13) (tOp (rI0 fun i j => V.int (i + j)) (tC (.int 2)) (tVar 12))) tNil)))))) (own := [("_law_k", 12)]) (g := (gName 12)) (tt := tYes) rfl sc_law.nd  (pi_range1 (by rfl) (fr_range T) (pa_cons pe_int pa_nil)) (blkOk_by (N := N_law) (sc := defScope s_law) (by decide +kernel)) (fun _ _ _ _ _ => (pg_name (i := 12) sc_law.nd rfl (Or.inl rfl))) (fun _ _ _ _ _ => pts_nil) (fun _ _ _ _ _ => by refine pe_calG (sp := sp_law_rows_right K) (ok_law_rows_right T) hG (hr.mono (by decide)) pass0 (pa_cons (pv 15) (pa_cons (pv 2) (pa_cons ?_ (pa_cons ?_ (pa_cons ?_ pa_nil))))); refine pe_ix (ta := tVar 3) (tb := tVar 12) (r := rIxL K) ?_ (pv 3) (pv 12) (fun _ _ => rfl); exact ix_list; refine pe_ix (ta := tVar 4) (tb := tVar 12) (r := rIxL K) ?_ (pv 4) (pv 12) (fun _ _ => rfl); exact ix_list; refine pe_ix (ta := tVar 13) (tb := (tOp (rI0 fun i j => V.int (i + j)) (tC (.int 2)) (tVar 12))) (r := rIxL K) ?_ (pv 13) (pe_op op_add pe_int (pv 12)) (fun _ _ => rfl); exact ix_list)) pa_nil))))))), ?_⟩
      intro H2 al t1 t2 Ta Pa Ra x y ls rs ls' rs' trs trs' zs v1 v5 v6 v7 v8 v9 v10 v11 v12 v14 v15 v16 v17 hal W TO TO' PO PO' hb2 hR hzl hz
      refine ⟨.ref b, rfl, b, ns, 3, rfl, hb2, hn, hbits, by decide, fun H3 a s3 hs3 ha => ?_⟩
      have s23 := same_src s3 ha
      have W3 := W.same s23
      have hR3 := s23 _ _ hR
      have t3 := s3 _ _ W.t
      refine ⟨.ref a, rfl, .str al, rfl, .ref Ta, rfl, Ta, _, _, t1, rfl, rfl, SqL.of t3, rfl, .ref Ta, rfl, Ta, _, _, t2, rfl, rfl, SqL.of t3, rfl, .ref Pa, rfl, a, x, y, Pa, al, t1, t2, ls, rs, ls', rs', trs, trs', rfl, hal, W3.r1, TO, W3.r2, TO', W3.p, W3.px, PO, W3.py, PO', hs3, fun H4 f4 => ⟨_, rfl, iteF ?_⟩⟩
      have W4 := W3.same f4.sm
      refine ⟨.ref a, rfl, .str al, rfl, .ref Ta, rfl, Ta, _, _, t1, rfl, rfl, SqL.of (f4.up _ _ W3.t), rfl, a, al, t1, ls, rs, trs, rfl, hal, W4.r1, TO, f4.src, fun H5 f5 => ⟨_, rfl, iteF ?_⟩⟩
      refine ⟨.ref a, rfl, .str al, rfl, a, al, rfl, hal, f5.src, fun H6 f6 => ⟨_, rfl, iteF ?_⟩⟩
      have f36 := f4.trans (f5.trans f6)
      have hD0 : ∀ D, H6 D = none → D ≠ a ∧ H3 D = none := fun D h => ⟨f36.src.ne h, f36.none (f36.src.ne h) h⟩
      refine ⟨2, rfl, by decide, by decide, fun D hD => ?_⟩
      obtain ⟨hDa, hD3⟩ := hD0 D hD
      refine lc_it (walk_range (n := 2)) (tt := tYes) (fun i H7 => H7 D = some (.lst ((List.replicate i true).map V.bl)) ∧ Fra a H3 H7) ⟨upd_same, f36.over hD3 hDa⟩ (fun _ _ _ _ => trivial) ?_ ?_
      · rintro i xx H7 H8 hi ⟨h7, f7⟩ ⟨eH, ex0⟩
        replace eH := eH.symm
        subst eH
        replace ex0 : xx = .int (i : Nat) := ex0.trans (congrArg V.int (Int.zero_add _))
        subst ex0
        have W7 := W3.same f7.sm
        have t7 := f7.up _ _ W3.t
        have p7 := f7.up _ _ W3.p
        have R7 := f7.up _ _ hR3
        have hzi : 2 + i < zs.length := by omega
        obtain ⟨hz8, hzin⟩ := hz (2 + i) zs[2 + i] (by omega) (by omega) (List.getElem?_eq_getElem hzi)
        have hRi : (zs.map V.str)[2 + i]? = some (.str zs[2 + i]) := by rw [List.getElem?_map, List.getElem?_eq_getElem hzi]; rfl
        have fin : ∀ H9, Fra a H7 H9 → ∃ acc, H9 D = some (.lst acc) ∧ acc.length < sizeLine ∧ (upd H9 D (.lst (acc ++ [.bl true]))) D = some (.lst ((List.replicate (i + 1) true).map V.bl)) ∧ Fra a H3 (upd H9 D (.lst (acc ++ [.bl true]))) := fun H9 f9 => by
          refine ⟨_, f9.up _ _ (by rw [del_ne hDa]; exact h7), ?_, ?_, (f7.trans f9).over hD3 hDa⟩
          · rw [List.length_map, List.length_replicate]
            exact Nat.lt_of_lt_of_le hi (by decide)
          · rw [upd_same, List.replicate_succ', List.map_append]
            rfl
        have e2 : ((2 : Int) + ((i : Nat) : Int)) = ((2 + i : Nat) : Int) := by omega
        have hi2 : i = 0 ∨ i = 1 := by omega
        rcases hi2 with rfl | rfl
        · exact ⟨rfl, .ref a, rfl, .str al, rfl, .ref Ta, rfl, .int ((0 : Nat) : Int), rfl, Ta, _, _, t1, rfl, rfl, SqL.of t7, rfl, .ref Pa, rfl, .int ((0 : Nat) : Int), rfl, Pa, _, _, .ref x, rfl, rfl, SqL.of p7, rfl, .ref Ra, rfl, .int ((0 : Nat) : Int), rfl, _, _, rfl, rfl, Ra, _, _, _, rfl, rfl, SqL.of R7, (by exact atI_nat hRi),
            a, x, al, t1, ls, rs, trs, _, rfl, hal, W7.r1, TO, W7.px, PO, hz8, hzin, f7.src, fin⟩
        · exact ⟨rfl, .ref a, rfl, .str al, rfl, .ref Ta, rfl, .int ((1 : Nat) : Int), rfl, Ta, _, _, t2, rfl, rfl, SqL.of t7, rfl, .ref Pa, rfl, .int ((1 : Nat) : Int), rfl, Pa, _, _, .ref y, rfl, rfl, SqL.of p7, rfl, .ref Ra, rfl, .int ((1 : Nat) : Int), rfl, _, _, rfl, rfl, Ra, _, _, _, rfl, rfl, SqL.of R7, (by exact atI_nat hRi),
            a, y, al, t2, ls', rs', trs', _, rfl, hal, W7.r2, TO', W7.py, PO', hz8, hzin, f7.src, fin⟩
      · rintro H7 ⟨h7, f7⟩
        exact ⟨D, _, rfl, SqL.of h7, q H7⟩
    obtain ⟨tlL, htlL, hqL⟩ : ∃ tl : TS, PSs (cxOf CX0 P w K mg base N_law "law" (defScope s_law) (He.ga K "law") cdv A outer s H E).nox ((defBody s_law).drop 8) tl ∧
        ∀ (H2 : Hp) (a : Addr) (al : Str) (t1 t2 : V) (Ta Pa Ra x y : Addr) (ls rs ls' rs' : List (List Nat)) (trs trs' : List Tri) (zs : List Str) (v1 v5 v6 v7 v8 v9 v10 v12 v14 v15 v16 v17 : Option V), al ∈ menuA → TwoP K (del H2 a) al Ta Pa t1 t2 x y ls rs ls' rs' trs trs' → TabsOk al 4 ls rs trs → TabsOk al 4 ls' rs' trs' → PairOk ⟨al, ixF al, ls, rs, trs⟩ → PairOk ⟨al, ixF al, ls', rs', trs'⟩ →
          SqL K (del H2 a) b (ns.map V.int) → del H2 a Ra = some (.lst (zs.map V.str)) → 5 ≤ zs.length → zs.length ≤ 6 → (∀ (i : Nat) z, 2 ≤ i → i < 4 → zs[i]? = some z → z.length ≤ 8 ∧ ∀ c ∈ z.cps.toList, c ∈ al.cps.toList) → (∀ z ∈ zs, z.length ≤ 200 ∧ ∀ c ∈ z.cps.toList, c ∈ al.cps.toList) → SrcAt H2 a →
          tl { nx := fun _ H' => Q .non H', rt := Q } [some (.ref b), v1, some (.str al), some (.ref Ta), some (.ref Pa), v5, v6, v7, v8, v9, v10, some (.ref a), v12, some (.ref Ra), v14, v15, v16, v17] H2 := by
      refine ⟨_, (pss_cons (ps_for PassesOwn.never rfl (pi_list (pv 13)) (pg_name (i := 14) sc_law.nd rfl (Or.inl rfl)) (pss_one (ps_for PassesOwn.never rfl (pi_range1 (by rfl) (fr_range T) (pa_cons pe_int pa_nil)) (pg_name (i := 12) sc_law.nd rfl (Or.inl rfl)) (pss_one (ps_if (pt_not (pt_val (pe_cal (ok_law_tells T) (hr.mono (by decide)) pass0 (pa_cons (pe_ix ix_list (pv 4) (pv 12) (fun _ _ => rfl)) (pa_cons (pv 14) (pa_cons (pe_cal (ok_law_read T) (hr.mono (by decide)) pass0 (pa_cons (pv 2) (pa_cons (pe_ix ix_list (pv 3) (pv 12) (fun _ _ => rfl)) (pa_cons (pv 14) pa_nil)))) (pa_cons (pv 11) pa_nil))))))) (pss_one (ps_ret pe_bl)) pss_nil)))))
        htlF), ?_⟩
      intro H2 a al t1 t2 Ta Pa Ra x y ls rs ls' rs' trs trs' zs v1 v5 v6 v7 v8 v9 v10 v12 v14 v15 v16 v17 hal W TO TO' PO PO' hb2 hR hzl hzl6 hz hzs hs
      have hnd := menu_nodup al hal
      have R0 := del_le a _ _ hR
      refine ⟨.ref Ra, rfl, Ra, rfl, ⟨_, SqL.of R0⟩, ?_⟩
      refine for_it (walk_list (xs := zs.map V.str)) (fun i σ H3 => ∃ w12 w14 : Option V, σ = [some (.ref b), v1, some (.str al), some (.ref Ta), some (.ref Pa), v5, v6, v7, v8, v9, v10, some (.ref a), w12, some (.ref Ra), w14, v15, v16, v17] ∧ Fra a H2 H3)
        ⟨v12, v14, rfl, Fra.refl hs⟩ (fun i σ H3 _ ⟨_, _, _, f⟩ => SqL.of (f.up _ _ hR)) ?_ ?_
      · rintro i xx σ H3 H4 hi ⟨w12, w14, rfl, f3⟩ ⟨eH, hxx⟩
        replace eH := eH.symm
        subst eH
        rw [List.getElem?_map] at hxx
        obtain ⟨z, hz1, rfl⟩ : ∃ z, zs[i]? = some z ∧ xx = .str z := by
          cases h : zs[i]? with
          | none => rw [h] at hxx; cases hxx
          | some z => rw [h] at hxx; cases hxx; exact ⟨z, rfl, rfl⟩
        obtain ⟨hz200, hzin⟩ := hzs z (List.mem_of_getElem? hz1)
        refine ⟨2, rfl, by decide, by decide, ?_⟩
        refine for_it (walk_range (n := 2)) (fun j σ H4 => ∃ w12 : Option V, σ = [some (.ref b), v1, some (.str al), some (.ref Ta), some (.ref Pa), v5, v6, v7, v8, v9, v10, some (.ref a), w12, some (.ref Ra), some (.str z), v15, v16, v17] ∧ Fra a H2 H4)
          ⟨w12, rfl, f3⟩ (fun _ _ _ _ _ => trivial) ?_ ?_
        · rintro j yy σ H4 H5 hj ⟨w12, rfl, f4⟩ ⟨eH, rfl⟩
          replace eH := eH.symm
          subst eH
          have t4 := f4.up _ _ W.t
          have p4 := f4.up _ _ W.p
          have W4 := W.same f4.sm
          have hj2 : j = 0 ∨ j = 1 := by have : j < 2 := hj; omega
          have trl := TO.le
          have trl' := TO'.le
          rcases hj2 with rfl | rfl
          · refine ⟨.ref Pa, rfl, .int ((0 : Nat) : Int), rfl, Pa, _, _, .ref x, rfl, rfl, SqL.of p4, rfl, .str z, rfl, .str al, rfl, .ref Ta, rfl, .int ((0 : Nat) : Int), rfl, Ta, _, _, t1, rfl, rfl, SqL.of t4, rfl, .str z, rfl, al, t1, z, ls, rs, trs, rfl, W4.r1.same (del_le a), PO.l, PO.r, hnd, fun t ht => (PO.m t ht).2.1, Nat.le_trans trl (by decide), hzin, Nat.le_trans hz200 (by decide), fun H5 pl s5 hpl => ?_⟩
            refine ⟨.ref a, rfl, x, pl, a, _, z, rfl, W4.px.same (same_del a s5), PO, ?_, hzin, hz200, f4.src.same s5, fun H6 f6 => ⟨_, rfl, iteF ⟨_, rfl, (f4.trans (Fra.same f4.src s5)).trans f6⟩⟩⟩
            rw [del_ne (src_at f4.src s5 hpl)]
            exact hpl
          · refine ⟨.ref Pa, rfl, .int ((1 : Nat) : Int), rfl, Pa, _, _, .ref y, rfl, rfl, SqL.of p4, rfl, .str z, rfl, .str al, rfl, .ref Ta, rfl, .int ((1 : Nat) : Int), rfl, Ta, _, _, t2, rfl, rfl, SqL.of t4, rfl, .str z, rfl, al, t2, z, ls', rs', trs', rfl, W4.r2.same (del_le a), PO'.l, PO'.r, hnd, fun t ht => (PO'.m t ht).2.1, Nat.le_trans trl' (by decide), hzin, Nat.le_trans hz200 (by decide), fun H5 pl s5 hpl => ?_⟩
            refine ⟨.ref a, rfl, y, pl, a, _, z, rfl, W4.py.same (same_del a s5), PO', ?_, hzin, hz200, f4.src.same s5, fun H6 f6 => ⟨_, rfl, iteF ⟨_, rfl, (f4.trans (Fra.same f4.src s5)).trans f6⟩⟩⟩
            rw [del_ne (src_at f4.src s5 hpl)]
            exact hpl
        · rintro σ H4 ⟨w12, rfl, f4⟩
          exact ⟨_, _, rfl, f4⟩
      · rintro σ H3 ⟨w12, w14, rfl, f3⟩
        have W3 := (W.same f3.sm).same (del_le a)
        exact hqF H3 al t1 t2 Ta Pa Ra x y ls rs ls' rs' trs trs' zs _ _ _ _ _ _ _ _ _ _ _ _ _ hal W3 TO TO' PO PO' (sql_same f3.up hb2) (f3.up _ _ hR) hzl hz
    obtain ⟨tlR, htlR, hqR⟩ : ∃ tl : TS, PSs (cxOf CX0 P w K mg base N_law "law" (defScope s_law) (He.ga K "law") cdv A outer s H E).nox ((defBody s_law).drop 5) tl ∧
        ∀ (H2 : Hp) (al : Str) (t1 t2 : V) (Ta Pa x y : Addr) (ls rs ls' rs' : List (List Nat)) (trs trs' : List Tri) (v1 v5 v6 v7 v8 v9 v10 v11 v12 v13 v14 v15 v16 v17 : Option V), al ∈ menuA → TwoP K H2 al Ta Pa t1 t2 x y ls rs ls' rs' trs trs' → TabsOk al 4 ls rs trs → TabsOk al 4 ls' rs' trs' → PairOk ⟨al, ixF al, ls, rs, trs⟩ → PairOk ⟨al, ixF al, ls', rs', trs'⟩ →
          SqL K H2 b (ns.map V.int) →
          tl { nx := fun _ H' => Q .non H', rt := Q } [some (.ref b), v1, some (.str al), some (.ref Ta), some (.ref Pa), v5, v6, v7, v8, v9, v10, v11, v12, v13, v14, v15, v16, v17] H2 := by
      refine ⟨_, (pss_cons (ps_set (i := 11) sc_law.nd rfl (Or.inr rfl) (pe_cal (ok_law_source T) (hr.mono (by decide)) pass0 (pa_cons (pv 0) (pa_cons pe_int pa_nil))))
        (pss_cons (ps_set (i := 13) sc_law.nd rfl (Or.inr rfl) (pe_op op_cat (pe_lst (pa_cons pe_str (pa_cons (pe_ix ix_seq (pv 2) (pe_un un_neg pe_int) (fun _ _ => rfl)) pa_nil))) (pe_lc (own := [("_law_k", 12)]) (g := (gName 12)) (tt := tYes) rfl sc_law.nd  (pi_range1 (by rfl) (fr_range T) (pa_cons pe_int pa_nil)) (blkOk_by (N := N_law) (sc := defScope s_law) (by decide +kernel)) (fun _ _ _ _ _ => (pg_name (i := 12) sc_law.nd rfl (Or.inl rfl))) (fun _ _ _ _ _ => pts_nil) (fun _ _ _ _ _ => (pe_cal (ok_law_word T) (hr.mono (by decide)) pass0 (pa_cons (pv 11) (pa_cons (pv 2) (pa_cons pe_int pa_nil))))))))
        (pss_cons (ps_if (pt_cmpR op_eq (pe_cal (ok_law_pick T) (hr.mono (by decide)) pass0 (pa_cons (pv 11) (pa_cons pe_int pa_nil))) pe_int (nomark _)) (pss_one (ps_expr (pe_bm PySem.F.plainAttrs_list PySem.F.slot_list_append PySem.F.type_list_append mt_append (pv 13) (pa_cons (pe_cal (ok_law_word T) (hr.mono (by decide)) pass0 (pa_cons (pv 11) (pa_cons (pv 2) (pa_cons pe_int pa_nil)))) pa_nil)))) pss_nil)
        htlL))), ?_⟩
      intro H2 al t1 t2 Ta Pa x y ls rs ls' rs' trs trs' v1 v5 v6 v7 v8 v9 v10 v11 v12 v13 v14 v15 v16 v17 hal W TO TO' PO PO' hb2
      have hal1 := menu_len al hal
      have hz8 : al.length ≤ sizeLine := Nat.le_trans hal1.2 (by decide)
      have hcl : al.cps.toList.length = al.length := Array.length_toList
      obtain ⟨cz, hcz⟩ : ∃ cz, atI al.cps.toList (-1) = some cz := atI_last (by omega)
      have hczin : cz ∈ al.cps.toList := by
        obtain ⟨j, _, hj, _⟩ := atI_get hcz
        exact List.mem_of_getElem? hj
      refine ⟨.ref b, rfl, b, ns, 2, rfl, hb2, hn, hbits, by decide, fun H3 a s3 hs3 ha => ?_⟩
      have s23 := same_src s3 ha
      have W3 := W.same s23
      have hb3 := sql_same s23 hb2
      refine ⟨.str al, rfl, 1, rfl, .inr (.inr ⟨al, _, cz, rfl, rfl, hz8, hcz, (by show 2 ≤ sizeLine; decide), fun L1 hL1 => ?_⟩)⟩
      have hL1a := hs3.ne hL1
      have g1 := same_upd (o := .lst [.str "", .str ⟨#[cz]⟩]) hL1
      have f4 := Fra.same hs3 g1
      have eL1 : upd H3 L1 (.lst [.str "", .str ⟨#[cz]⟩]) L1 = some (.lst [.str "", .str ⟨#[cz]⟩]) := upd_same
      clear g1
      revert f4 eL1
      generalize upd H3 L1 (.lst [.str "", .str ⟨#[cz]⟩]) = H4
      intro f4 eL1
      refine ⟨3, rfl, by decide, by decide, fun D hD => ?_⟩
      have hDa := f4.src.ne hD
      have hDL : D ≠ L1 := fun z => by rw [z, eL1] at hD; cases hD
      have hD3 := f4.none hDa hD
      refine lc_it (walk_range (n := 3)) (tt := tYes) (fun i H5 => ∃ zs : List Str, H5 D = some (.lst (zs.map V.str)) ∧ zs.length = i ∧ (∀ z ∈ zs, z.length ≤ 8 ∧ ∀ c ∈ z.cps.toList, c ∈ al.cps.toList) ∧ Fra a H4 H5)
        ⟨[], upd_same, rfl, fun z hz => (by cases hz), Fra.same f4.src (same_upd hD)⟩ (fun _ _ _ _ => trivial) ?_ ?_
      · rintro i xx H5 H6 hi ⟨zs, hz1, hz2, hz3, f5⟩ ⟨eH, ex0⟩
        replace eH := eH.symm
        subst eH
        refine ⟨rfl, .ref a, rfl, .str al, rfl, a, al, 8, rfl, hal1.1, hal1.2, by decide, f5.src, fun H7 cs f7 hcs hcl8 => ?_⟩
        obtain ⟨hw1, hw2⟩ := word_ok cs
        refine ⟨_, f7.up _ _ (by rw [del_ne hDa]; exact hz1), ?_, zs ++ [Txt.join "" (cs.map one1)], ?_, ?_, ?_, (f5.trans f7).over hD hDa⟩
        · rw [List.length_map, hz2]
          exact Nat.lt_of_lt_of_le hi (by decide)
        · rw [upd_same, List.map_append]
          rfl
        · rw [List.length_append, hz2]; rfl
        · intro z hz
          rcases List.mem_append.mp hz with h | h
          · exact hz3 z h
          · rw [List.mem_singleton.mp h]
            exact ⟨by rw [hw1]; exact hcl8, fun c hc => hcs c (hw2 c hc)⟩
      rintro H5 ⟨zs, hz1, hz2, hz3, f5⟩
      have eL5 := f5.up _ _ (by rw [del_ne hL1a]; exact eL1)
      refine ⟨L1, D, _, _, rfl, rfl, eL5, hz1, Nat.le_trans (by rw [List.length_map, hz2]; show 2 + 3 ≤ 5; decide) (by decide), fun R hR => ?_⟩
      have hRa := f5.src.ne hR
      have f35 := f4.trans f5
      have hR3 := f35.none hRa hR
      obtain ⟨rows, hrows⟩ : ∃ rows : List Str, rows = ("" : Str) :: (⟨#[cz]⟩ : Str) :: zs := ⟨_, rfl⟩
      have eR : upd H5 R (.lst ([.str "", .str ⟨#[cz]⟩] ++ zs.map V.str)) R = some (.lst (rows.map V.str)) := by rw [hrows]; exact upd_same
      have f6 := f35.over (o := .lst ([.str "", .str ⟨#[cz]⟩] ++ zs.map V.str)) hR3 hRa
      revert f6 eR
      generalize upd H5 R (.lst ([.str "", .str ⟨#[cz]⟩] ++ zs.map V.str)) = H6
      intro eR f6
      have hrl : rows.length = 5 := by rw [hrows]; show zs.length + 2 = 5; omega
      have hr24 : ∀ (i : Nat) z, 2 ≤ i → i < 4 → rows[i]? = some z → z.length ≤ 8 ∧ ∀ c ∈ z.cps.toList, c ∈ al.cps.toList := by
        intro i z h1 h2 h3
        rw [hrows] at h3
        obtain ⟨i, rfl⟩ : ∃ k, i = k + 2 := ⟨i - 2, by omega⟩
        exact hz3 z (List.mem_of_getElem? h3)
      have hrall : ∀ z ∈ rows, z.length ≤ 200 ∧ ∀ c ∈ z.cps.toList, c ∈ al.cps.toList := by
        intro z hz
        rw [hrows] at hz
        rcases List.mem_cons.mp hz with h | h
        · rw [h]
          exact ⟨by decide, fun c hc => by cases hc⟩
        · rcases List.mem_cons.mp h with h | h
          · rw [h]
            refine ⟨by show 1 ≤ 200; decide, fun c hc => ?_⟩
            have : c ∈ [cz] := hc
            rw [List.mem_singleton.mp this]
            exact hczin
          · obtain ⟨h1, h2⟩ := hz3 z h
            exact ⟨Nat.le_trans h1 (by decide), h2⟩
      refine ⟨.ref a, rfl, a, _, rfl, by omega, by omega, f6.src, fun A7 S7 C7 wy hw0 hw1 => ⟨rfl, _, rfl, ?_⟩⟩
      have f7 := f6.trans (Fra.drawn A7 S7 C7)
      have eR7 := drawn_keep eR hRa A7 S7 C7
      revert f7 eR7
      generalize upd H6 a (three A7 S7 C7) = H7
      intro f7 eR7
      cases hw : decide (V.int wy = V.int 7) with
      | false =>
        refine iteF ?_
        exact hqL H7 a al t1 t2 Ta Pa R x y ls rs ls' rs' trs trs' rows _ _ _ _ _ _ _ _ _ _ _ _ hal (W3.same f7.sm) TO TO' PO PO' (sql_same f7.sm hb3) (by rw [del_ne hRa]; exact eR7) (by omega) (by omega) hr24 hrall f7.src
      | true =>
        refine iteT ⟨.ref R, rfl, .inl ⟨rfl, _, SqL.of eR7⟩, .ref a, rfl, .str al, rfl, a, al, 200, rfl, hal1.1, hal1.2, by decide, f7.src, fun H8 cs f8 hcs hcl8 => ?_⟩
        obtain ⟨hw1', hw2'⟩ := word_ok cs
        have eR8 := f8.up _ _ (by rw [del_ne hRa]; exact eR7)
        refine ⟨R, _, _, rfl, rfl, eR8, by rw [List.length_map, hrl]; decide, ?_⟩
        have f9 := (f7.trans f8).over (o := .lst (rows.map V.str ++ [.str (Txt.join "" (cs.map one1))])) hR3 hRa
        have eR9 : upd H8 R (.lst (rows.map V.str ++ [.str (Txt.join "" (cs.map one1))])) R = some (.lst ((rows ++ [Txt.join "" (cs.map one1)]).map V.str)) := by rw [upd_same, List.map_append]; rfl
        refine hqL _ a al t1 t2 Ta Pa R x y ls rs ls' rs' trs trs' (rows ++ [Txt.join "" (cs.map one1)]) _ _ _ _ _ _ _ _ _ _ _ _ hal (W3.same f9.sm) TO TO' PO PO' (sql_same f9.sm hb3) (by rw [del_ne hRa]; exact eR9) (by rw [List.length_append]; show 5 ≤ rows.length + 1; omega) (by rw [List.length_append]; show rows.length + 1 ≤ 6; omega) (fun i z h1 h2 h3 => hr24 i z h1 h2 (by rw [List.getElem?_append_left (by omega)] at h3; exact h3)) (fun z hz => ?_) f9.src
        rcases List.mem_append.mp hz with h | h
        · exact hrall z h
        · rw [List.mem_singleton.mp h]
          exact ⟨by rw [hw1']; exact hcl8, fun c hc => hcs c (hw2' c hc)⟩
    obtain ⟨tlP, htlP, hqP⟩ : ∃ tl : TS, PSs (cxOf CX0 P w K mg base N_law "law" (defScope s_law) (He.ga K "law") cdv A outer s H E).nox ((defBody s_law).drop 3) tl ∧
        ∀ (H2 : Hp) (al : Str) (t1 t2 : V) (Ta : Addr) (ls rs ls' rs' : List (List Nat)) (trs trs' : List Tri) (v1 v4 v5 v6 v7 v8 v9 v10 v11 v12 v13 v14 v15 v16 v17 : Option V), al ∈ menuA → Rp H2 t1 (tabsD ls rs trs) → Rp H2 t2 (tabsD ls' rs' trs') → H2 Ta = some (.lst [t1, t2]) → TabsOk al 4 ls rs trs → TabsOk al 4 ls' rs' trs' →
          SqL K H2 b (ns.map V.int) →
          tl { nx := fun _ H' => Q .non H', rt := Q } [some (.ref b), v1, some (.str al), some (.ref Ta), v4, v5, v6, v7, v8, v9, v10, v11, v12, v13, v14, v15, v16, v17] H2 := by
      refine ⟨_, (pss_cons (ps_set (i := 4) sc_law.nd rfl (Or.inr rfl) (pe_lst pa_nil))
        (pss_cons (ps_for PassesOwn.never rfl (pi_list (pv 3)) (pg_tup rfl (pgs_cons (pg_name (i := 5) sc_law.nd rfl (Or.inl rfl)) (pgs_cons (pg_name (i := 6) sc_law.nd rfl (Or.inl rfl)) (pgs_cons (pg_name (i := 7) sc_law.nd rfl (Or.inl rfl)) pgs_nil)))) (pss_cons (ps_set (i := 8) sc_law.nd rfl (Or.inl rfl) (pe_lst (pa_cons (pe_lc (te := tCB (rLstO K) (tCons (tVar 16) tNil)) (own := [("_law_move", 16)]) (g := (gName 16)) (tt := tYes) rfl sc_law.nd  (pi_list (pv 5)) (blkOk_by (N := N_law) (sc := defScope s_law) (by decide +kernel)) (fun _ _ _ _ _ => (pg_name (i := 16) sc_law.nd rfl (Or.inl rfl))) (fun _ _ _ _ _ => pts_nil) (fun _ _ _ _ _ => by refine pe_callTy (r := rLstO K) (t := tCons (tVar 16) tNil) ?_ (by rfl) (fr_list T) b_list (pa_cons (pv 16) pa_nil); exact call_list_of)) (pa_cons (pe_lc (te := tCB (rLstO K) (tCons (tVar 16) tNil)) (own := [("_law_move", 16)]) (g := (gName 16)) (tt := tYes) rfl sc_law.nd  (pi_list (pv 6)) (blkOk_by (N := N_law) (sc := defScope s_law) (by decide +kernel)) (fun _ _ _ _ _ => (pg_name (i := 16) sc_law.nd rfl (Or.inl rfl))) (fun _ _ _ _ _ => pts_nil) (fun _ _ _ _ _ => by refine pe_callTy (r := rLstO K) (t := tCons (tVar 16) tNil) ?_ (by rfl) (fr_list T) b_list (pa_cons (pv 16) pa_nil); exact call_list_of)) (pa_cons (pe_lc (te := tCB (rLstO K) (tCons (tVar 17) tNil)) (own := [("_law_triple", 17)]) (g := (gName 17)) (tt := tYes) rfl sc_law.nd  (pi_list (pv 7)) (blkOk_by (N := N_law) (sc := defScope s_law) (by decide +kernel)) (fun _ _ _ _ _ => (pg_name (i := 17) sc_law.nd rfl (Or.inl rfl))) (fun _ _ _ _ _ => pts_nil) (fun _ _ _ _ _ => by refine pe_callTy (r := rLstO K) (t := tCons (tVar 17) tNil) ?_ (by rfl) (fr_list T) b_list (pa_cons (pv 17) pa_nil); exact call_list_of)) pa_nil)))))
        (pss_cons (ps_set (i := 9) sc_law.nd rfl (Or.inl rfl) (pe_makeS (E := fun _ => E0) (mkr_Pair T) (ok_Pair_init T FI (ok_masks_of_triples T)) (hr.mono (by decide)) (by rfl) (g_Pair T) bI passAt0 (pa_cons (pv 2) (pa_cons (pe_ix ix_list (pv 8) pe_int (fun _ _ => rfl)) (pa_cons (pe_ix ix_list (pv 8) pe_int (fun _ _ => rfl)) (pa_cons (pe_ix ix_list (pv 8) pe_int (fun _ _ => rfl)) pa_nil))))))
        (pss_cons (ps_asg pe_int (pg_sub (pe_ix ix_list (pe_ix ix_list (pv 8) pe_int (fun _ _ => rfl)) pe_int (fun _ _ => rfl)) pe_int set_list))
        (pss_cons (ps_expr (pe_bm PySem.F.plainAttrs_list PySem.F.slot_list_append PySem.F.type_list_append mt_append (pe_ix ix_list (pv 8) pe_int (fun _ _ => rfl)) (pa_cons pe_non pa_nil)))
        (pss_cons (ps_expr (pe_bm PySem.F.plainAttrs_list PySem.F.slot_list_append PySem.F.type_list_append mt_append (pe_ix ix_list (pv 8) pe_int (fun _ _ => rfl)) (pa_cons (pe_lst (pa_cons pe_int pa_nil)) pa_nil)))
        (pss_cons (ps_set (i := 10) sc_law.nd rfl (Or.inl rfl) (pe_tup (pa_cons (pv 2) (pa_cons (pe_cal (ok_law_deep T) (hr.mono (by decide)) pass0 (pa_cons (pv 5) pa_nil)) (pa_cons (pe_cal (ok_law_deep T) (hr.mono (by decide)) pass0 (pa_cons (pv 6) pa_nil)) (pa_cons (pe_callTy call_tuple_of (by rfl) (fr_tuple T) b_tuple (pa_cons (pv 7) pa_nil)) pa_nil))))))
        (pss_cons (ps_if (pt_cmpR (op_neD (hu64 hr)) (pe_tup (pa_cons (pe_fld (pv 9) rfl) (pa_cons (pe_fld (pv 9) rfl) (pa_cons (pe_fld (pv 9) rfl) (pa_cons (pe_fld (pv 9) rfl) pa_nil))))) (pv 10) (nomark _)) (pss_one (ps_ret pe_bl)) pss_nil)
        (pss_one (ps_expr (pe_bm PySem.F.plainAttrs_list PySem.F.slot_list_append PySem.F.type_list_append mt_append (pv 4) (pa_cons (pv 9) pa_nil))))))))))))
        htlR)), ?_⟩
      intro H2 al t1 t2 Ta ls rs ls' rs' trs trs' v1 v4 v5 v6 v7 v8 v9 v10 v11 v12 v13 v14 v15 v16 v17 hal r1 r2 hTa TO TO' hb2
      have haT := menu_right al hal
      have hal1 := menu_len al hal
      obtain ⟨lsF, e10, e11⟩ : ∃ f : Nat → List (List Nat), f 0 = ls ∧ f 1 = ls' := ⟨fun j => if j = 0 then ls else ls', rfl, rfl⟩
      obtain ⟨rsF, e20, e21⟩ : ∃ f : Nat → List (List Nat), f 0 = rs ∧ f 1 = rs' := ⟨fun j => if j = 0 then rs else rs', rfl, rfl⟩
      obtain ⟨tsF, e30, e31⟩ : ∃ f : Nat → List Tri, f 0 = trs ∧ f 1 = trs' := ⟨fun j => if j = 0 then trs else trs', rfl, rfl⟩
      refine ⟨(by show 0 ≤ sizeLine; decide), fun Pa hP => ?_⟩
      have hTaP : Ta ≠ Pa := ne_of_none hTa hP
      have sP := same_upd (o := .lst []) hP
      refine ⟨.ref Ta, rfl, Ta, rfl, ⟨_, SqL.of (sP _ _ hTa)⟩, ?_⟩
      refine for_it (walk_list (xs := [t1, t2])) (fun i σ H3 => ∃ (w5 w6 w7 w8 w9 w10 w16 w17 : Option V) (xs : List Addr), σ = [some (.ref b), v1, some (.str al), some (.ref Ta), some (.ref Pa), w5, w6, w7, w8, w9, w10, v11, v12, v13, v14, v15, w16, w17] ∧ H3 Pa = some (.lst (xs.map V.ref)) ∧ xs.length = i ∧ Same H2 (del H3 Pa) ∧
          (∀ (j : Nat) (x : Addr), xs[j]? = some x → PairAt K (del H3 Pa) x ⟨al, ixF al, lsF j, rsF j, tsF j⟩ ∧ PairOk ⟨al, ixF al, lsF j, rsF j, tsF j⟩))
        ⟨v5, v6, v7, v8, v9, v10, v16, v17, [], rfl, upd_same, rfl, same_src sP hP, fun j x h => by simp at h⟩ (fun i σ H3 _ ⟨_, _, _, _, _, _, _, _, _, _, _, _, s, _⟩ => SqL.of (del_le Pa _ _ (s _ _ hTa))) ?_ ?_
      · rintro i xx σ H3 H4 hi ⟨w5, w6, w7, w8, w9, w10, w16, w17, xs, rfl, hPa, hxl, s3, hps⟩ ⟨eH, hxx⟩
        replace eH := eH.symm
        subst eH
        obtain ⟨ri, TOi⟩ : Rp H2 xx (tabsD (lsF i) (rsF i) (tsF i)) ∧ TabsOk al 4 (lsF i) (rsF i) (tsF i) := by
          have hi2 : i = 0 ∨ i = 1 := by have : i < 2 := hi; omega
          rcases hi2 with rfl | rfl
          · rw [e10, e20, e30]; cases hxx; exact ⟨r1, TO⟩
          · rw [e11, e21, e31]; cases hxx; exact ⟨r2, TO'⟩
        clear hxx
        have GM := good_tabs haT TOi
        obtain ⟨tt, pl, xl, pr, xr, pm, xm, rfl, htt, rl, rr, rm, hpl, hxl', hpr, hxr, hpm, hxm, sl, sr, sm⟩ := tabs_at (ri.same s3)
        have u3 := del_le (H := H3) Pa
        have hlm := TOi.l.le
        have hrm := TOi.r.le
        have hmm := trs_len TOi hal1.2
        refine ⟨tt, _, rfl, SqT.of (u3 _ _ htt), rfl, _, _, rfl, _, _, rfl, _, _, rfl, rfl, ?_⟩
        refine ⟨.ref pl, rfl, pl, rfl, ⟨xl, SqL.of (u3 _ _ hpl)⟩, fun D1 hD1 => ?_⟩
        refine copy_lc (vss := (lsF i).map intsV) (u3 _ _ hpl) (by rw [List.length_map]; exact hxl') (fun i vs hi => by obtain ⟨c, h1, h2⟩ := sl i vs hi; exact ⟨c, h1, sq_same u3 h2⟩) (by omega) hD1 (by show 16 < 18; decide) (fun _ => rfl) fun H4 hc1 => ?_
        obtain ⟨_, _, _, _, _, _, _, n4⟩ := id hc1
        have u4 := u3.trans n4
        refine ⟨.ref pr, rfl, pr, rfl, ⟨xr, SqL.of (u4 _ _ hpr)⟩, fun D2 hD2 => ?_⟩
        refine copy_lc (vss := (rsF i).map intsV) (u4 _ _ hpr) (by rw [List.length_map]; exact hxr) (fun i vs hi => by obtain ⟨c, h1, h2⟩ := sr i vs hi; exact ⟨c, h1, sq_same u4 h2⟩) (by omega) hD2 (by show 16 < 18; decide) (fun _ => rfl) fun H5 hc2 => ?_
        obtain ⟨_, _, _, _, _, _, _, n5⟩ := id hc2
        have u5 := u4.trans n5
        refine ⟨.ref pm, rfl, pm, rfl, ⟨xm, SqL.of (u5 _ _ hpm)⟩, fun D3 hD3 => ?_⟩
        refine copy_lc (vss := (tsF i).map triV) (u5 _ _ hpm) (by rw [List.length_map]; exact hxm) (fun i vs hi => by obtain ⟨c, h1, h2⟩ := sm i vs hi; exact ⟨c, h1, sq_same u5 h2⟩) (by omega) hD3 (by show 17 < 18; decide) (fun _ => rfl) fun H6 hc3 => ⟨(by show 3 ≤ sizeLine; decide), fun M hM => ?_⟩
        obtain ⟨_, _, _, _, _, _, _, n6⟩ := id hc3
        have n7 := same_upd (o := .lst [.ref D1, .ref D2, .ref D3]) hM
        have eM : upd H6 M (.lst [.ref D1, .ref D2, .ref D3]) M = some (.lst [.ref D1, .ref D2, .ref D3]) := upd_same
        rw [hxl'] at hc1
        rw [hxr] at hc2
        rw [hxm] at hc3
        have m2 := hc2
        have m3 := hc3
        have c1 := copyP_same (n5.trans (n6.trans n7)) hc1
        have c2 := copyP_same (n6.trans n7) hc2
        have c3 := copyP_same n7 hc3
        clear hc1 hc2 hc3
        have d1 := copied_rows c1 hD1
        have d2 := copied_rows c2 hD2
        have d3 := copied_tris c3 hD3
        have n37 := n4.trans (n5.trans (n6.trans n7))
        have hD2' : H3 D2 = none := none_of n4 hD2
        have hD3' : H3 D3 = none := none_of (n4.trans n5) hD3
        have hMD : M ≠ D2 ∧ M ≠ D3 ∧ D3 ≠ D2 := by
          obtain ⟨q2, q21, _⟩ := m2
          obtain ⟨q3, q31, _⟩ := m3
          exact ⟨fun z => (by rw [z, n6 _ _ q21] at hM; cases hM), fun z => (by rw [z, q31] at hM; cases hM), fun z => (by rw [z, q21] at hD3; cases hD3)⟩
        obtain ⟨hMD2, hMD3, hD32⟩ := hMD
        clear n7 m2 m3
        revert eM c1 c2 c3 d1 d2 d3 n37
        generalize upd H6 M (.lst [.ref D1, .ref D2, .ref D3]) = H7
        intro eM c1 c2 c3 d1 d2 d3 n37
        refine ⟨.str al, rfl, .ref M, rfl, M, _, _, .ref D1, rfl, rfl, SqL.of eM, rfl, .ref M, rfl, M, _, _, .ref D2, rfl, rfl, SqL.of eM, rfl, .ref M, rfl, M, _, _, .ref D3, rfl, rfl, SqL.of eM, rfl, fun x1 dx1 hx1 hd1 hn1 => ?_⟩
        refine init_mk (K := K) (mk_lists GM) hx1 hd1 hn1 d1 d2 d3 fun H8 n8 PA PO => ⟨rfl, ?_⟩
        have n38 := n37.trans n8
        have eM8 := n8 _ _ eM
        obtain ⟨bs, b1, b2, b3, b4, b5, b6, _⟩ := copyP_same n8 c1
        obtain ⟨bs2, q1, q2, _⟩ := copyP_same n8 c2
        obtain ⟨bs3, p1, p2, _⟩ := copyP_same n8 c3
        have hl0 : 0 < (lsF i).length := TOi.l.ne
        have hb0l : 0 < bs.length := by omega
        obtain ⟨hr0, _⟩ := TOi.l.ok (lsF i)[0] (List.getElem_mem hl0)
        have hb0 := b5 0 bs[0] (intsV (lsF i)[0]) (List.getElem?_eq_getElem hb0l) (by rw [List.getElem?_map, List.getElem?_eq_getElem hl0]; rfl)
        have hb0n := b6 bs[0] (List.getElem_mem hb0l)
        have hB0 : (bs.map V.ref)[0]? = some (.ref bs[0]) := by rw [List.getElem?_map, List.getElem?_eq_getElem hb0l]; rfl
        have hrne : 0 < ((lsF i)[0]).length := by rw [hr0]; exact hal1.1
        have hi0 : ixN (intsV (lsF i)[0]).length ((0 : Nat) : Int) = some 0 := by
          have h1 : (intsV (lsF i)[0]).length = ((lsF i)[0]).length := List.length_map ..
          unfold ixN
          rw [if_pos (by omega), if_pos (by omega)]
          rfl
        refine ⟨.ref M, rfl, M, _, _, .ref D1, rfl, rfl, SqL.of eM8, rfl, D1, bs.map V.ref, _, .ref bs[0], rfl, rfl, SqL.of b1, atI_nat (j := 0) hB0, bs[0], intsV (lsF i)[0], _, 0, rfl, rfl, hb0, hi0, ?_⟩
        have x0 : ∀ (L : Addr) (zs : List Addr), H8 L = some (.lst (zs.map V.ref)) → L ≠ bs[0] := fun L zs e z => by
          rw [z, hb0] at e
          exact refs_ints hrne (HO.lst.inj (Option.some.inj e)).symm
        have hM0 := x0 M [D1, D2, D3] eM8
        have n39 := same_over (o := .lst ((intsV (lsF i)[0]).set 0 (.int 39))) n38 hb0n
        have PA9 := PA.upd_lst (ys := (intsV (lsF i)[0]).set 0 (.int 39)) hb0
        have eM9 : upd H8 bs[0] (.lst ((intsV (lsF i)[0]).set 0 (.int 39))) M = some (.lst [.ref D1, .ref D2, .ref D3]) := by rw [upd_ne hM0]; exact eM8
        have e29 : upd H8 bs[0] (.lst ((intsV (lsF i)[0]).set 0 (.int 39))) D2 = some (.lst (bs2.map V.ref)) := by rw [upd_ne (x0 D2 bs2 q1)]; exact q1
        have e39 : upd H8 bs[0] (.lst ((intsV (lsF i)[0]).set 0 (.int 39))) D3 = some (.lst (bs3.map V.ref)) := by rw [upd_ne (x0 D3 bs3 p1)]; exact p1
        revert n39 PA9 eM9 e29 e39
        generalize upd H8 bs[0] (.lst ((intsV (lsF i)[0]).set 0 (.int 39))) = H9
        intro n39 PA9 eM9 e29 e39
        have hb2l : bs2.length ≤ 100 := by omega
        have hb3l : bs3.length ≤ 200 := by omega
        refine ⟨.ref M, rfl, M, _, _, .ref D2, rfl, rfl, SqL.of eM9, rfl, .inl ⟨rfl, _, SqL.of e29⟩, D2, _, _, rfl, rfl, e29, Nat.lt_of_le_of_lt (by rw [List.length_map]; exact hb2l) (by decide), ?_⟩
        have n40 := same_over (o := .lst (bs2.map V.ref ++ [.non])) n39 hD2'
        have PA10 := PA9.upd_lst (ys := bs2.map V.ref ++ [.non]) e29
        have eM10 : upd H9 D2 (.lst (bs2.map V.ref ++ [.non])) M = some (.lst [.ref D1, .ref D2, .ref D3]) := by rw [upd_ne hMD2]; exact eM9
        have e310 : upd H9 D2 (.lst (bs2.map V.ref ++ [.non])) D3 = some (.lst (bs3.map V.ref)) := by rw [upd_ne hD32]; exact e39
        revert n40 PA10 eM10 e310
        generalize upd H9 D2 (.lst (bs2.map V.ref ++ [.non])) = H10
        intro n40 PA10 eM10 e310
        refine ⟨.ref M, rfl, M, _, _, .ref D3, rfl, rfl, SqL.of eM10, rfl, .inl ⟨rfl, _, SqL.of e310⟩, (by show 1 ≤ sizeLine; decide), fun L0 hL0 => ?_⟩
        have sL := same_upd (o := .lst [.int 0]) hL0
        refine ⟨D3, _, _, rfl, rfl, sL _ _ e310, Nat.lt_of_le_of_lt (by rw [List.length_map]; exact hb3l) (by decide), ?_⟩
        have n41 := same_over (o := .lst (bs3.map V.ref ++ [.ref L0])) (n40.trans sL) hD3'
        have PA11 := (PA10.same sL).upd_lst (ys := bs3.map V.ref ++ [.ref L0]) (sL _ _ e310)
        clear sL
        revert n41 PA11
        generalize upd (upd H10 L0 (.lst [.int 0])) D3 (.lst (bs3.map V.ref ++ [.ref L0])) = H11
        intro n41 PA11
        have u11 := u3.trans n41
        refine ⟨.str al, rfl, .ref pl, rfl, .ref pl, rowsD (lsF i), rfl, rl.same u11, deep_rows _ hlm, fun H12 w1 n12 rw1 => ?_⟩
        refine ⟨.ref pr, rfl, .ref pr, rowsD (rsF i), rfl, rr.same (u11.trans n12), deep_rows _ hrm, fun H13 w2 n13 rw2 => ?_⟩
        have u13 := u11.trans (n12.trans n13)
        have hpm13 := u13 _ _ hpm
        have rx13 : RtL H13 xm ((tsF i).map encTri) := rtL_at (rm.same u13) hpm13
        refine ⟨.ref pm, rfl, pm, xm, rfl, .inl ⟨SqL.of hpm13, fun t1' ht1 => ⟨(by show 4 ≤ sizeLine; decide), fun t2' ht2 => ?_⟩⟩⟩
        have n14 := same_upd (o := .tup xm) ht1
        have n15 := same_upd (o := .tup [.str al, w1, w2, .ref t1']) ht2
        rw [kept_rows] at rw1 rw2
        have rdue : Rt (upd (upd H13 t1' (.tup xm)) t2' (.tup [.str al, w1, w2, .ref t1'])) (.ref t2') (.tuple [.str al, encR (lsF i), encR (rsF i), encT (tsF i)]) :=
          .tup upd_same (.cons (.str _) (.cons (rw1.tups (Same.tups (n13.trans (n14.trans n15)))) (.cons (rw2.tups (Same.tups (n14.trans n15))) (.cons (.tup (n15 _ _ upd_same) (rx13.tups (Same.tups (n14.trans n15)))) .nil))))
        have n315 := n41.trans (n12.trans (n13.trans (n14.trans n15)))
        have PA15 := PA11.same (n12.trans (n13.trans (n14.trans n15)))
        clear n14 n15
        revert rdue n315 PA15
        generalize upd (upd H13 t1' (.tup xm)) t2' (.tup [.str al, w1, w2, .ref t1']) = H15
        intro rdue n315 PA15
        have E4 := eqok_four (al := al) (ls := lsF i) (rs := rsF i) PO.abc PO.ch
        obtain ⟨dy, vl, vr, vm, vk, h1, h2, h3, h4, h5, h6⟩ := id PA15
        have Cp := cls_Pair T
        refine ⟨.ref x1, rfl, x1, _, dy, _, _, rfl, h1, Cp, noat_alphabet T, rfl, .ref x1, rfl, x1, _, dy, _, vl, rfl, h1, Cp, noat_left T, rfl, .ref x1, rfl, x1, _, dy, _, vr, rfl, h1, Cp, noat_right T, rfl, .ref x1, rfl, x1, _, dy, _, vm, rfl, h1, Cp, noat_marked T, rfl, (by show 4 ≤ sizeLine; decide), fun t3 ht3 => ?_⟩
        have n16 := same_upd (o := .tup [.str al, vl, vr, vm]) ht3
        have r16 : Rt (upd H15 t3 (.tup [.str al, vl, vr, vm])) (.ref t3) (.tuple [.str al, encR (lsF i), encR (rsF i), encT (tsF i)]) :=
          .tup upd_same (.cons (.str _) (.cons (h3.tups (Same.tups n16)) (.cons (h4.tups (Same.tups n16)) (.cons (h5.tups (Same.tups n16)) .nil))))
        refine ⟨.ref t2', rfl, _, _, r16.dp, (rdue.tups (Same.tups n16)).dp, E4.sh, E4.sh, _, rfl, ?_⟩
        rw [E4.eq]
        refine iteF ?_
        have n316 := n315.trans n16
        have PA16 := PA15.same n16
        revert n316 PA16
        generalize upd H15 t3 (.tup [.str al, vl, vr, vm]) = H16
        intro n316 PA16
        have hPa16 := n316 _ _ hPa
        refine ⟨.ref Pa, rfl, .inl ⟨rfl, _, SqL.of hPa16⟩, .ref x1, rfl, Pa, _, _, rfl, rfl, hPa16, ?_, ?_⟩
        · rw [List.length_map, hxl]
          exact Nat.lt_of_lt_of_le hi (by show 2 ≤ sizeLine; decide)
        · refine ⟨_, _, _, _, _, _, _, _, xs ++ [x1], rfl, ?_, ?_, ?_, ?_⟩
          · rw [upd_same, List.map_append]; rfl
          · rw [List.length_append, hxl]; rfl
          · rw [del_upd]
            exact s3.trans (same_del Pa n316)
          · intro j x hx
            rw [del_upd]
            by_cases hj : j < xs.length
            · rw [List.getElem?_append_left hj] at hx
              obtain ⟨g1, g2⟩ := hps j x hx
              exact ⟨g1.same (same_del Pa n316), g2⟩
            · have hj2 : j = i := by
                have := (List.getElem?_eq_some_iff.mp hx).1
                rw [List.length_append] at this
                have e1 : [x1].length = 1 := rfl
                omega
              subst hj2
              rw [List.getElem?_append_right (by omega), show j - xs.length = 0 from by omega] at hx
              cases hx
              exact ⟨PA16.del_lst hPa16, PO⟩
      · rintro σ H3 ⟨w5, w6, w7, w8, w9, w10, w16, w17, xs, rfl, hPa, hxl, s3, hps⟩
        obtain ⟨x, y, rfl⟩ : ∃ x y, xs = [x, y] := by
          match xs, hxl with
          | [x, y], _ => exact ⟨x, y, rfl⟩
        obtain ⟨p1, o1⟩ := hps 0 x rfl
        obtain ⟨p2, o2⟩ := hps 1 y rfl
        rw [e10, e20, e30] at p1 o1
        rw [e11, e21, e31] at p2 o2
        have s4 : Same H2 H3 := s3.trans (del_le Pa)
        exact hqR H3 al t1 t2 Ta Pa x y ls rs ls' rs' trs trs' _ _ _ _ _ _ _ _ _ _ _ _ _ _ hal ⟨r1.same s4, r2.same s4, s4 _ _ hTa, hPa, p1.same (del_le Pa), p2.same (del_le Pa)⟩ TO TO' o1 o2 (sql_same s4 hb2)
    refine ⟨_, PSs.nox (pss_cons (ps_set (i := 1) sc_law.nd rfl (Or.inl rfl) (pe_cal (ok_law_source T) (hr.mono (by decide)) pass0 (pa_cons (pv 0) (pa_cons pe_int pa_nil))))
        (pss_cons (ps_set (i := 2) sc_law.nd rfl (Or.inr rfl) (pe_cal (ok_law_alphabet T) (hr.mono (by decide)) pass0 (pa_cons (pv 1) pa_nil)))
        (pss_cons (ps_set (i := 3) sc_law.nd rfl (Or.inr rfl) (pe_lst (pa_cons (pe_cal (ok_law_tables T) (hr.mono (by decide)) pass0 (pa_cons (pv 1) (pa_cons (pv 2) (pa_cons pe_int (pa_cons pe_bl pa_nil))))) (pa_cons (pe_cal (ok_law_tables T) (hr.mono (by decide)) pass0 (pa_cons (pe_cal (ok_law_source T) (hr.mono (by decide)) pass0 (pa_cons (pv 0) (pa_cons pe_int pa_nil))) (pa_cons (pv 2) (pa_cons pe_int (pa_cons pe_bl pa_nil))))) pa_nil))))
        htlP))), ?_⟩
    refine ⟨.ref b, rfl, b, ns, 0, rfl, hb, hn, hbits, by decide, fun H1 a1 s1 hs1 ha1 => ?_⟩
    refine ⟨.ref a1, rfl, a1, rfl, hs1, fun H2 al hal f2 => ?_⟩
    have hal1 := menu_len al hal
    refine ⟨.ref a1, rfl, .str al, rfl, a1, al, 4, rfl, f2.src, hal1.1, hal1.2, by decide, by decide, fun H3 t1 ls rs trs f3 r1 TO => ?_⟩
    have sH3 : Same H H3 := ((same_src s1 ha1).trans (f2.sm.trans f3.sm)).trans (del_le a1)
    refine ⟨.ref b, rfl, b, ns, 1, rfl, sql_same sH3 hb, hn, hbits, by decide, fun H4 a2 s4 hs4 ha2 => ?_⟩
    refine ⟨.str al, rfl, a2, al, 4, rfl, hs4, hal1.1, hal1.2, by decide, by decide, fun H5 t2 ls' rs' trs' f5 r2 TO' => ⟨(by show 2 ≤ sizeLine; decide), fun Ta hTa => ?_⟩⟩
    have s35 : Same H3 H5 := ((same_src s4 ha2).trans f5.sm).trans (del_le a2)
    have s6 := same_upd (o := .lst [t1, t2]) hTa
    exact hqP _ al t1 t2 Ta ls rs ls' rs' trs trs' _ _ _ _ _ _ _ _ _ _ _ _ _ _ _ hal (r1.same ((del_le a1).trans (s35.trans s6))) (r2.same ((del_le a2).trans s6)) upd_same TO TO' (sql_same (sH3.trans (s35.trans s6)) hb)
end
end Kx
set_option Elab.async false
set_option linter.all false
set_option maxRecDepth 100000
set_option maxHeartbeats 4000000
namespace Kx
open PySem PySem.Spec PyProof.Rows L2
/-! ### the law, called from outside, where no repr is under way -/
section
variable {P : Program} {w : World} {K : PySem.W.Frag} {mg mb : Str → Option Value} {k : Nat} {fa a : Addr} {x : Str} {sp : Sp} {s : Shared} {vs : List Value} {ns : List Int}
def Told3 (s : Shared) (r : Result) (s' : Shared) : Prop := r = .ok (.ret (.bool true)) ∧ OldK s.heap s'.heap ∧ s'.os = s.os ∧ AllBare s'.gens
theorem told_from (H : Hp) (KX : K.In s.heap) (hns : s.heap.Ns mainGlobals mg) (hb : s.heap.Ns builtinsNs mb) (hbb : ∀ x : Str, x ≠ "__name__" → mb x = bootBuiltins x) (hlim : s.heap.NoLimit) (hg : s.gens = #[])
    (ha : s.heap.get? a = some { cls := .type "list", data := .seq vs.toArray }) (hr : Room k callerA)
    (F : ∀ base : Heap, ∃ fd : FuncData, FnOkG P w K mg base CX0 k fa fd [x] sp ∧ Binds K fd [x] [])
    (hsp : sp [.ref a] H (fun v _ => v = .bl true) fun _ _ _ => False) (hok : HOk P w H s.heap) (hH : ∀ b u, H b = some u → b = a ∧ K.lookup a = none ∧ ∃ o xs, u = .frz o (.lst xs)) :
    codeAny (model P w) callerA (.call (.ref fa) ⟨[.ref a], []⟩) (Told3 s) s := by
  -- where H is silent the base keeps the heap
  have kept : ∀ {b : Addr} {o : Obj}, s.heap.get? b = some o → (b = a → False) ∨ H b = none → (hidT s.heap H).get? b = some o := fun {b o} e h => hidT_get e (by
    cases q : H b with
    | none => rfl
    | some u => rcases h with h | h
                · exact (h (hH b u q).1).elim
                · rw [q] at h; cases h)
  have dicts : ∀ {b : Addr} {m : Str → Option Value}, s.heap.Ns b m → (hidT s.heap H).Ns b m := fun {b m} ⟨o, es, ep, e, d, r⟩ => ⟨o, es, ep, kept e (.inl fun z => by
    subst z
    rw [ha] at e
    cases e
    cases d), d, r⟩
  have hK : K.In (hidT s.heap H) := fun b o e => kept (KX b o e) (by
    cases q : H b with
    | none => exact .inr rfl
    | some u =>
      obtain ⟨z, n, _⟩ := hH b u q
      subst z
      rw [n] at e
      cases e)
  obtain ⟨mc, l1, l2⟩ := hlim
  have e0 : Env0 P w K mg (hidT s.heap H) callerA [] s H := ⟨rfl, ⟨hK, dicts hns, ⟨mb, dicts hb, hbb⟩, mc, dicts l1, l2⟩, fun b o e => of_hidT e, Nat.le_of_eq (hidT_size _ _), trivial, fun b h => (by cases h), hok, .of_eq hg⟩
  obtain ⟨fd, F, hbind⟩ := F (hidT s.heap H)
  have bt := hbind s [.ref a] KX rfl
  rw [List.append_nil] at bt
  refine codeAny_mono (F.run callerA [] s H ⟨[.ref a], []⟩ [.ref a] [.ref a] _ _ rfl hr e0 bt (.cons rfl .nil) hsp) fun r s' h => ?_
  match r, h with
  | .ok (.ret u), ⟨v, H', os, bare, un, hok', ru, q⟩ =>
    have q' : v = .bl true := q
    subst q'
    obtain rfl : u = Value.bool true := ru
    refine ⟨rfl, OldK.of_keep fun b o e => ?_, os, bare⟩
    cases z : H b with
    | none => exact un.keep b o e z (fun h => (by cases h)) (by simp)
    | some u =>
      obtain ⟨_, _, ob, xs, rfl⟩ := hH b u z
      obtain ⟨e1, _⟩ := hok b _ z
      obtain ⟨e2, _⟩ := hok' b _ (un.frzs b ob _ z)
      rw [e] at e1
      cases e1
      exact e2
theorem told_law (KX : K.In s.heap) (hns : s.heap.Ns mainGlobals mg) (hb : s.heap.Ns builtinsNs mb) (hbb : ∀ x : Str, x ≠ "__name__" → mb x = bootBuiltins x) (hlim : s.heap.NoLimit) (hg : s.gens = #[])
    (ha : s.heap.get? a = some { cls := .type "list", data := .seq vs.toArray }) (hi : IntsAre vs ns) (hl : ns.length ≤ sizeLine) (hr : Room k callerA)
    (F : ∀ base : Heap, ∃ fd : FuncData, FnOkG P w K mg base CX0 k fa fd [x] sp ∧ Binds K fd [x] [])
    (hsp : ∀ H : Hp, SqL K H a (ns.map V.int) → sp [.ref a] H (fun v _ => v = .bl true) fun _ _ _ => False) :
    codeAny (model P w) callerA (.call (.ref fa) ⟨[.ref a], []⟩) (Told3 s) s := by
  have rv := vals_ints hi
  cases hk : K.lookup a with
  | some o =>
    have e := KX a o hk
    rw [ha] at e
    cases e
    exact told_from (fun _ => none) KX hns hb hbb hlim hg ha hr F (hsp _ (.inr ⟨_, vs.toArray, _, hk, rfl, rfl, rfl, by rw [List.size_toArray, hi.length]; exact hl, by simpa using rv⟩)) (fun b u z => by cases (show (none : Option HO) = some u from z)) (fun b u z => by cases (show (none : Option HO) = some u from z))
  | none =>
    have at_ : ∀ b u, (fun b => if b = a then some (HO.frz { cls := .type "list", data := .seq vs.toArray } (.lst (ns.map V.int))) else none) b = some u → b = a ∧ u = .frz { cls := .type "list", data := .seq vs.toArray } (.lst (ns.map V.int)) := fun b u z => by
      by_cases h : b = a
      · exact ⟨h, by have z' := (if_pos h).symm.trans z; cases z'; rfl⟩
      · have z' := (if_neg h).symm.trans z
        cases z'
    refine told_from (fun b => if b = a then some (.frz { cls := .type "list", data := .seq vs.toArray } (.lst (ns.map V.int))) else none) KX hns hb hbb hlim hg ha hr F (hsp _ (.inl (.inr ⟨_, if_pos rfl⟩))) (fun b u z => ?_) (fun b u z => ?_)
    · obtain ⟨rfl, rfl⟩ := at_ b u z
      exact ⟨ha, by rw [List.length_map]; exact hl, vs, _, rv, ha⟩
    · obtain ⟨rfl, rfl⟩ := at_ b u z
      exact ⟨rfl, hk, _, _, rfl⟩
end
/-- what the head says makes all that is known of the written part -/
theorem txt_of {K : PySem.W.Frag} {h : Heap} {mg : Str → Option Value} (X : K.In h) (G : h.Ns mainGlobals mg) (c : He.SaysD fa fn K) (e : extra K = true) (o : He5.fnA K (dOf.at_ K) = dOf.val) : Txt K mg := by
  have in3 : ∀ (i : Nat) {f : He.Fa}, fa3[i]? = some f → f ∈ fa := fun i f hf => by
    unfold fa
    exact List.mem_append_right _ (List.mem_of_getElem? hf)
  have facts : ∀ {f : He.Fa}, f ∈ fa → f.ok K = true := fun {f} h => by
    obtain ⟨i, hi⟩ := List.mem_iff_getElem?.mp h
    exact He.SaysD.fact c i hi
  exact ⟨c, fun x hx => He.glo_ok X G (facts hx), fun x hx => He.free_ok X G (facts hx), e, o, He.int_ok X G (facts (in3 0 rfl)), He.int_ok X G (facts (in3 1 rfl)), He.str_ok X G (facts (in3 2 rfl))⟩
end Kx
open PySem PySem.W PySem.Calls PyProof.Rows
theorem PySem.Challenge.cw_saidhere_k08_pairs_mark_holds : PySem.Challenge.rw_saidhere_k08_pairs_mark.Holds := by
  w_on; o_law
  refine HandSHeadRun.head_any (r := OpenLaw.row PySem.Challenge.rw_saidhere_k08_pairs_mark) (q := view (OpenLaw.row PySem.Challenge.rw_saidhere_k08_pairs_mark).prog [91]) (H := Kx.look Kx.fAll Kx.vAll) (ob := Kx.lookT Kx.fAll) (M := 20000) (loose := Kx.nms) (d := HandSHeadRun.topDef (OpenLaw.row PySem.Challenge.rw_saidhere_k08_pairs_mark).prog 91) (kwd := []) (Kx.lookT_eq Kx.fAll Kx.vAll)
    (by kernel_rfl) (fun s => by kernel_rfl) Kx.runAll (by kernel_rfl) (by kernel_rfl) (by kernel_rfl) (by rfl) (by first | assumption | decide +kernel) (by decide +kernel) ⟨rfl, rfl, rfl, rfl, rfl, by decide +kernel⟩ ?hw ?hc
  case hw => w_witness2
  case hc =>
    refine Att.attach_callB (l := PySem.Challenge.rw_saidhere_k08_pairs_mark) (n := 63) rfl (by kernel_rfl) fun w s₀ s₁ mg mb fa o pm cd doc a vs ns G Y ho hd hcd hmg hobj hints hlen hbits hg => ?_
    obtain ⟨K, KX, hall⟩ := Y
    obtain ⟨c, e, oo⟩ := Kx.all_of hall
    have T := Kx.txt_of KX G.T.g c e oo
    have hfa : fa = He.ga K ("law" : PySem.Str) := by
      have e1 : (HandSHeadRun.topDef (OpenLaw.row PySem.Challenge.rw_saidhere_k08_pairs_mark).prog 91).name = ("law" : PySem.Str) := by kernel_rfl
      have e2 := (Kx.ok_law (P := (PySem.Challenge.rw_saidhere_k08_pairs_mark).prog) (w := w) (base := s₁.heap) T).g
      rw [e1, e2] at hmg
      exact (Value.ref.inj (Option.some.inj hmg)).symm
    subst hfa
    exact Kx.told_law (sp := Kx.sp_law K) (k := 11) (x := ("_law_script" : PySem.Str)) KX G.T.g G.T.b G.T.builtins G.T.nolimit hg hobj hints (Nat.le_trans hlen (by decide)) ⟨rfl, by decide, by decide⟩ (fun base => (Kx.ok_law T).ok) fun H hS => ⟨a, ns, rfl, hS, Nat.le_trans hlen (by decide), hbits, fun _ => rfl⟩
