import PyProof.Rows.All
import HandS.ForMost
import HandS.Exc
import HandS.ExcOwn
import HandS.Head2
import HandS.HeadHook4
import HandS.Style
import HandS.ExcInit
import HandS.ExcValue
import HandS.ExcIs
import HandS.IsInst
import HandS.Wide
import HandS.WideBits
import HandS.Defaults
import HandS.MakeKw
import HandS.EndBits
import HandS.HeadEnd
import HandS.TupAny
import HandS.Zip
import HandS.Text
import HandS.List
import HandS.ExcField
import HandS.WordsExc
import HandS.StrMore
import HandS.Iter
import HandS.Conv
import HandS.Gcd
import HandS.TupMul
import KE.KIsAll
import KE.KExcIs
import KE.GoesEnumKw
import KE.GoesEnum
import KE.GoesMore
import OpenK.AllK
import PyProof.NoPylong
import PyProof.EnumMake
import PyProof.LongRange
import PyProof.ListRange
import PyProof.CallFns
import PyProof.StrLawsRepr
import Wide.All
import Wide.FinOn
import PySem.Challenge.RW_soundlooks_k42_whole_guarded_and_unlike
set_option Elab.async false
set_option linter.all false
set_option maxRecDepth 100000
set_option maxHeartbeats 8000000
namespace Lw
open PySem PySem.Spec L2
def top (i : Nat) : Stmt := PySem.Challenge.pw_soundlooks_k42_whole_guarded_and_unlike.main.body.getD i (.Pass ⟨0, 0, 0, 0⟩)
abbrev cLookError : Stmt := top 4
abbrev cInvalidNumber : Stmt := top 5
abbrev sInvalidNumber_init : Stmt := inClass cInvalidNumber 0
abbrev NInvalidNumber_init : List Str := ["self", "given"]
theorem scInvalidNumber_init : FnScope NInvalidNumber_init ["self", "given"] (defScope sInvalidNumber_init) := ⟨rfl, rfl, rfl, by decide +kernel, rfl, by decide +kernel, by decide +kernel⟩
def dInvalidNumber_init : He.DefD := ⟨("InvalidNumber", some "__init__"), "__init__", "InvalidNumber.__init__", defArgs sInvalidNumber_init, defBody sInvalidNumber_init, defScope sInvalidNumber_init, [], []⟩
abbrev cInvalidSize : Stmt := top 6
abbrev sInvalidSize_init : Stmt := inClass cInvalidSize 0
abbrev NInvalidSize_init : List Str := ["self", "given"]
theorem scInvalidSize_init : FnScope NInvalidSize_init ["self", "given"] (defScope sInvalidSize_init) := ⟨rfl, rfl, rfl, by decide +kernel, rfl, by decide +kernel, by decide +kernel⟩
def dInvalidSize_init : He.DefD := ⟨("InvalidSize", some "__init__"), "__init__", "InvalidSize.__init__", defArgs sInvalidSize_init, defBody sInvalidSize_init, defScope sInvalidSize_init, [], []⟩
abbrev cInvalidSlot : Stmt := top 7
abbrev sInvalidSlot_init : Stmt := inClass cInvalidSlot 0
abbrev NInvalidSlot_init : List Str := ["self", "given"]
theorem scInvalidSlot_init : FnScope NInvalidSlot_init ["self", "given"] (defScope sInvalidSlot_init) := ⟨rfl, rfl, rfl, by decide +kernel, rfl, by decide +kernel, by decide +kernel⟩
def dInvalidSlot_init : He.DefD := ⟨("InvalidSlot", some "__init__"), "__init__", "InvalidSlot.__init__", defArgs sInvalidSlot_init, defBody sInvalidSlot_init, defScope sInvalidSlot_init, [], []⟩
abbrev cInvalidDifferences : Stmt := top 8
abbrev sInvalidDifferences_init : Stmt := inClass cInvalidDifferences 0
abbrev NInvalidDifferences_init : List Str := ["self", "given"]
theorem scInvalidDifferences_init : FnScope NInvalidDifferences_init ["self", "given"] (defScope sInvalidDifferences_init) := ⟨rfl, rfl, rfl, by decide +kernel, rfl, by decide +kernel, by decide +kernel⟩
def dInvalidDifferences_init : He.DefD := ⟨("InvalidDifferences", some "__init__"), "__init__", "InvalidDifferences.__init__", defArgs sInvalidDifferences_init, defBody sInvalidDifferences_init, defScope sInvalidDifferences_init, [], []⟩
abbrev cInvalidValues : Stmt := top 9
abbrev sInvalidValues_init : Stmt := inClass cInvalidValues 0
abbrev NInvalidValues_init : List Str := ["self", "index"]
theorem scInvalidValues_init : FnScope NInvalidValues_init ["self", "index"] (defScope sInvalidValues_init) := ⟨rfl, rfl, rfl, by decide +kernel, rfl, by decide +kernel, by decide +kernel⟩
def dInvalidValues_init : He.DefD := ⟨("InvalidValues", some "__init__"), "__init__", "InvalidValues.__init__", defArgs sInvalidValues_init, defBody sInvalidValues_init, defScope sInvalidValues_init, [], []⟩
abbrev sis_whole : Stmt := top 1
abbrev Nis_whole : List Str := ["value"]
theorem scis_whole : FnScope Nis_whole ["value"] (defScope sis_whole) := ⟨rfl, rfl, rfl, by decide +kernel, rfl, by decide +kernel, by decide +kernel⟩
def dis_whole : He.DefD := ⟨("is_whole", none), "is_whole", "is_whole", defArgs sis_whole, defBody sis_whole, defScope sis_whole, [], []⟩
abbrev sis_index : Stmt := top 2
abbrev Nis_index : List Str := ["value", "size"]
theorem scis_index : FnScope Nis_index ["value", "size"] (defScope sis_index) := ⟨rfl, rfl, rfl, by decide +kernel, rfl, by decide +kernel, by decide +kernel⟩
def dis_index : He.DefD := ⟨("is_index", none), "is_index", "is_index", defArgs sis_index, defBody sis_index, defScope sis_index, [], []⟩
abbrev sis_gaps : Stmt := top 11
abbrev Nis_gaps : List Str := ["many", "value", "at", "row"]
theorem scis_gaps : FnScope Nis_gaps ["many", "value"] (defScope sis_gaps) := ⟨rfl, rfl, rfl, by decide +kernel, rfl, by decide +kernel, by decide +kernel⟩
def dis_gaps : He.DefD := ⟨("is_gaps", none), "is_gaps", "is_gaps", defArgs sis_gaps, defBody sis_gaps, defScope sis_gaps, [], []⟩
abbrev sis_gap_row : Stmt := top 12
abbrev Nis_gap_row : List Str := ["many", "at", "value", "bound"]
theorem scis_gap_row : FnScope Nis_gap_row ["many", "at", "value"] (defScope sis_gap_row) := ⟨rfl, rfl, rfl, by decide +kernel, rfl, by decide +kernel, by decide +kernel⟩
def dis_gap_row : He.DefD := ⟨("is_gap_row", none), "is_gap_row", "is_gap_row", defArgs sis_gap_row, defBody sis_gap_row, defScope sis_gap_row, [], []⟩
abbrev sis_above : Stmt := top 13
abbrev Nis_above : List Str := ["bound", "other"]
theorem scis_above : FnScope Nis_above ["bound", "other"] (defScope sis_above) := ⟨rfl, rfl, rfl, by decide +kernel, rfl, by decide +kernel, by decide +kernel⟩
def dis_above : He.DefD := ⟨("is_above", none), "is_above", "is_above", defArgs sis_above, defBody sis_above, defScope sis_above, [], []⟩
abbrev slesser : Stmt := top 14
abbrev Nlesser : List Str := ["bound", "other"]
theorem sclesser : FnScope Nlesser ["bound", "other"] (defScope slesser) := ⟨rfl, rfl, rfl, by decide +kernel, rfl, by decide +kernel, by decide +kernel⟩
def dlesser : He.DefD := ⟨("lesser", none), "lesser", "lesser", defArgs slesser, defBody slesser, defScope slesser, [], []⟩
abbrev sgreater : Stmt := top 15
abbrev Ngreater : List Str := ["bound", "other"]
theorem scgreater : FnScope Ngreater ["bound", "other"] (defScope sgreater) := ⟨rfl, rfl, rfl, by decide +kernel, rfl, by decide +kernel, by decide +kernel⟩
def dgreater : He.DefD := ⟨("greater", none), "greater", "greater", defArgs sgreater, defBody sgreater, defScope sgreater, [], []⟩
abbrev sgaps_hold : Stmt := top 16
abbrev Ngaps_hold : List Str := ["gaps", "numbers", "told", "i", "row", "j", "bound"]
theorem scgaps_hold : FnScope Ngaps_hold ["gaps", "numbers"] (defScope sgaps_hold) := ⟨rfl, rfl, rfl, by decide +kernel, rfl, by decide +kernel, by decide +kernel⟩
def dgaps_hold : He.DefD := ⟨("gaps_hold", none), "gaps_hold", "gaps_hold", defArgs sgaps_hold, defBody sgaps_hold, defScope sgaps_hold, [], []⟩
abbrev srow_by_way : Stmt := top 17
abbrev Nrow_by_way : List Str := ["row", "begun", "through", "bound", "way"]
theorem scrow_by_way : FnScope Nrow_by_way ["row", "begun", "through"] (defScope srow_by_way) := ⟨rfl, rfl, rfl, by decide +kernel, rfl, by decide +kernel, by decide +kernel⟩
def drow_by_way : He.DefD := ⟨("row_by_way", none), "row_by_way", "row_by_way", defArgs srow_by_way, defBody srow_by_way, defScope srow_by_way, [], []⟩
abbrev sclosing : Stmt := top 18
abbrev Nclosing : List Str := ["gaps", "rows", "k", "through", "row", "i"]
theorem scclosing : FnScope Nclosing ["gaps"] (defScope sclosing) := ⟨rfl, rfl, rfl, by decide +kernel, rfl, by decide +kernel, by decide +kernel⟩
def dclosing : He.DefD := ⟨("closing", none), "closing", "closing", defArgs sclosing, defBody sclosing, defScope sclosing, [], []⟩
abbrev sgaps_joined : Stmt := top 19
abbrev Ngaps_joined : List Str := ["gaps", "other", "closed", "beside", "one", "two", "row", "rest"]
theorem scgaps_joined : FnScope Ngaps_joined ["gaps", "other"] (defScope sgaps_joined) := ⟨rfl, rfl, rfl, by decide +kernel, rfl, by decide +kernel, by decide +kernel⟩
def dgaps_joined : He.DefD := ⟨("gaps_joined", none), "gaps_joined", "gaps_joined", defArgs sgaps_joined, defBody sgaps_joined, defScope sgaps_joined, [], []⟩
abbrev sgaps_guarded : Stmt := top 20
abbrev Ngaps_guarded : List Str := ["gaps", "bounds", "rows", "i", "j", "bound", "row"]
theorem scgaps_guarded : FnScope Ngaps_guarded ["gaps", "bounds"] (defScope sgaps_guarded) := ⟨rfl, rfl, rfl, by decide +kernel, rfl, by decide +kernel, by decide +kernel⟩
def dgaps_guarded : He.DefD := ⟨("gaps_guarded", none), "gaps_guarded", "gaps_guarded", defArgs sgaps_guarded, defBody sgaps_guarded, defScope sgaps_guarded, [], []⟩
abbrev sgaps_unlike : Stmt := top 21
abbrev Ngaps_unlike : List Str := ["gaps", "first", "second", "number", "below", "above"]
theorem scgaps_unlike : FnScope Ngaps_unlike ["gaps", "first", "second", "number"] (defScope sgaps_unlike) := ⟨rfl, rfl, rfl, by decide +kernel, rfl, by decide +kernel, by decide +kernel⟩
def dgaps_unlike : He.DefD := ⟨("gaps_unlike", none), "gaps_unlike", "gaps_unlike", defArgs sgaps_unlike, defBody sgaps_unlike, defScope sgaps_unlike, [], []⟩
abbrev srefuse_wrong_number : Stmt := top 24
abbrev Nrefuse_wrong_number : List Str := ["number"]
theorem screfuse_wrong_number : FnScope Nrefuse_wrong_number ["number"] (defScope srefuse_wrong_number) := ⟨rfl, rfl, rfl, by decide +kernel, rfl, by decide +kernel, by decide +kernel⟩
def drefuse_wrong_number : He.DefD := ⟨("refuse_wrong_number", none), "refuse_wrong_number", "refuse_wrong_number", defArgs srefuse_wrong_number, defBody srefuse_wrong_number, defScope srefuse_wrong_number, [], []⟩
abbrev srefuse_wrong_many : Stmt := top 25
abbrev Nrefuse_wrong_many : List Str := ["many"]
theorem screfuse_wrong_many : FnScope Nrefuse_wrong_many ["many"] (defScope srefuse_wrong_many) := ⟨rfl, rfl, rfl, by decide +kernel, rfl, by decide +kernel, by decide +kernel⟩
def drefuse_wrong_many : He.DefD := ⟨("refuse_wrong_many", none), "refuse_wrong_many", "refuse_wrong_many", defArgs srefuse_wrong_many, defBody srefuse_wrong_many, defScope srefuse_wrong_many, [], []⟩
abbrev srefuse_wrong_differences : Stmt := top 26
abbrev Nrefuse_wrong_differences : List Str := ["many", "one"]
theorem screfuse_wrong_differences : FnScope Nrefuse_wrong_differences ["many", "one"] (defScope srefuse_wrong_differences) := ⟨rfl, rfl, rfl, by decide +kernel, rfl, by decide +kernel, by decide +kernel⟩
def drefuse_wrong_differences : He.DefD := ⟨("refuse_wrong_differences", none), "refuse_wrong_differences", "refuse_wrong_differences", defArgs srefuse_wrong_differences, defBody srefuse_wrong_differences, defScope srefuse_wrong_differences, [], []⟩
abbrev srefuse_wrong_indexes : Stmt := top 27
abbrev Nrefuse_wrong_indexes : List Str := ["many", "indexes", "index"]
theorem screfuse_wrong_indexes : FnScope Nrefuse_wrong_indexes ["many", "indexes"] (defScope srefuse_wrong_indexes) := ⟨rfl, rfl, rfl, by decide +kernel, rfl, by decide +kernel, by decide +kernel⟩
def drefuse_wrong_indexes : He.DefD := ⟨("refuse_wrong_indexes", none), "refuse_wrong_indexes", "refuse_wrong_indexes", defArgs srefuse_wrong_indexes, defBody srefuse_wrong_indexes, defScope srefuse_wrong_indexes, [], []⟩
abbrev srefuse_wrong_values : Stmt := top 28
abbrev Nrefuse_wrong_values : List Str := ["many", "values", "index", "number"]
theorem screfuse_wrong_values : FnScope Nrefuse_wrong_values ["many", "values"] (defScope srefuse_wrong_values) := ⟨rfl, rfl, rfl, by decide +kernel, rfl, by decide +kernel, by decide +kernel⟩
def drefuse_wrong_values : He.DefD := ⟨("refuse_wrong_values", none), "refuse_wrong_values", "refuse_wrong_values", defArgs srefuse_wrong_values, defBody srefuse_wrong_values, defScope srefuse_wrong_values, [], []⟩
abbrev sdifferences_hold : Stmt := top 30
abbrev Ndifferences_hold : List Str := ["many", "one", "values"]
theorem scdifferences_hold : FnScope Ndifferences_hold ["many", "one", "values"] (defScope sdifferences_hold) := ⟨rfl, rfl, rfl, by decide +kernel, rfl, by decide +kernel, by decide +kernel⟩
def ddifferences_hold : He.DefD := ⟨("differences_hold", none), "differences_hold", "differences_hold", defArgs sdifferences_hold, defBody sdifferences_hold, defScope sdifferences_hold, [], []⟩
abbrev sdifferences_guarded : Stmt := top 31
abbrev Ndifferences_guarded : List Str := ["many", "one", "first", "second", "number"]
theorem scdifferences_guarded : FnScope Ndifferences_guarded ["many", "one", "first", "second", "number"] (defScope sdifferences_guarded) := ⟨rfl, rfl, rfl, by decide +kernel, rfl, by decide +kernel, by decide +kernel⟩
def ddifferences_guarded : He.DefD := ⟨("differences_guarded", none), "differences_guarded", "differences_guarded", defArgs sdifferences_guarded, defBody sdifferences_guarded, defScope sdifferences_guarded, [], []⟩
abbrev sdifferences_unlike : Stmt := top 32
abbrev Ndifferences_unlike : List Str := ["many", "one", "first", "second", "number"]
theorem scdifferences_unlike : FnScope Ndifferences_unlike ["many", "one", "first", "second", "number"] (defScope sdifferences_unlike) := ⟨rfl, rfl, rfl, by decide +kernel, rfl, by decide +kernel, by decide +kernel⟩
def ddifferences_unlike : He.DefD := ⟨("differences_unlike", none), "differences_unlike", "differences_unlike", defArgs sdifferences_unlike, defBody sdifferences_unlike, defScope sdifferences_unlike, [], []⟩
abbrev srefuse_wrong_pair : Stmt := top 33
abbrev Nrefuse_wrong_pair : List Str := ["many", "one", "first", "second", "number"]
theorem screfuse_wrong_pair : FnScope Nrefuse_wrong_pair ["many", "one", "first", "second", "number"] (defScope srefuse_wrong_pair) := ⟨rfl, rfl, rfl, by decide +kernel, rfl, by decide +kernel, by decide +kernel⟩
def drefuse_wrong_pair : He.DefD := ⟨("refuse_wrong_pair", none), "refuse_wrong_pair", "refuse_wrong_pair", defArgs srefuse_wrong_pair, defBody srefuse_wrong_pair, defScope srefuse_wrong_pair, [], []⟩
abbrev sl_spring : Stmt := top 35
abbrev Nl_spring : List Str := ["_law_script", "_law_turn", "_law_mixed", "_law_cell", "_law_own"]
theorem scl_spring : FnScope Nl_spring ["_law_script", "_law_turn"] (defScope sl_spring) := ⟨rfl, rfl, rfl, by decide +kernel, rfl, by decide +kernel, by decide +kernel⟩
def dl_spring : He.DefD := ⟨("_law_spring", none), "_law_spring", "_law_spring", defArgs sl_spring, defBody sl_spring, defScope sl_spring, [], []⟩
abbrev sl_draw : Stmt := top 36
abbrev Nl_draw : List Str := ["_law_spring_here", "_law_high", "_law_figure", "_law_seed"]
theorem scl_draw : FnScope Nl_draw ["_law_spring_here", "_law_high"] (defScope sl_draw) := ⟨rfl, rfl, rfl, by decide +kernel, rfl, by decide +kernel, by decide +kernel⟩
def dl_draw : He.DefD := ⟨("_law_draw", none), "_law_draw", "_law_draw", defArgs sl_draw, defBody sl_draw, defScope sl_draw, [], []⟩
abbrev sl_pick : Stmt := top 37
abbrev Nl_pick : List Str := ["_law_spring_here", "_law_some"]
theorem scl_pick : FnScope Nl_pick ["_law_spring_here", "_law_some"] (defScope sl_pick) := ⟨rfl, rfl, rfl, by decide +kernel, rfl, by decide +kernel, by decide +kernel⟩
def dl_pick : He.DefD := ⟨("_law_pick", none), "_law_pick", "_law_pick", defArgs sl_pick, defBody sl_pick, defScope sl_pick, [], []⟩
abbrev sl_size : Stmt := top 38
abbrev Nl_size : List Str := ["_law_spring_here"]
theorem scl_size : FnScope Nl_size ["_law_spring_here"] (defScope sl_size) := ⟨rfl, rfl, rfl, by decide +kernel, rfl, by decide +kernel, by decide +kernel⟩
def dl_size : He.DefD := ⟨("_law_size", none), "_law_size", "_law_size", defArgs sl_size, defBody sl_size, defScope sl_size, [], []⟩
abbrev sl_spots : Stmt := top 39
abbrev Nl_spots : List Str := ["_law_spring_here", "_law_size_here", "_law_made", "_law_turn", "_law_is_great"]
theorem scl_spots : FnScope Nl_spots ["_law_spring_here", "_law_size_here"] (defScope sl_spots) := ⟨rfl, rfl, rfl, by decide +kernel, rfl, by decide +kernel, by decide +kernel⟩
def dl_spots : He.DefD := ⟨("_law_spots", none), "_law_spots", "_law_spots", defArgs sl_spots, defBody sl_spots, defScope sl_spots, [], []⟩
abbrev sl_bound : Stmt := top 40
abbrev Nl_bound : List Str := ["_law_spring_here", "_law_way", "_law_share", "_law_gap_here"]
theorem scl_bound : FnScope Nl_bound ["_law_spring_here", "_law_way", "_law_share", "_law_gap_here"] (defScope sl_bound) := ⟨rfl, rfl, rfl, by decide +kernel, rfl, by decide +kernel, by decide +kernel⟩
def dl_bound : He.DefD := ⟨("_law_bound", none), "_law_bound", "_law_bound", defArgs sl_bound, defBody sl_bound, defScope sl_bound, [], []⟩
abbrev sl_about : Stmt := top 41
abbrev Nl_about : List Str := ["_law_spring_here", "_law_size_here", "_law_base", "_law_way", "_law_share", "_law_full", "_law_lines", "_law_here", "_law_line", "_law_there"]
theorem scl_about : FnScope Nl_about ["_law_spring_here", "_law_size_here", "_law_base"] (defScope sl_about) := ⟨rfl, rfl, rfl, by decide +kernel, rfl, by decide +kernel, by decide +kernel⟩
def dl_about : He.DefD := ⟨("_law_about", none), "_law_about", "_law_about", defArgs sl_about, defBody sl_about, defScope sl_about, [], []⟩
abbrev sl_near_spots : Stmt := top 42
abbrev Nl_near_spots : List Str := ["_law_spring_here", "_law_spots_here", "_law_spot"]
theorem scl_near_spots : FnScope Nl_near_spots ["_law_spring_here", "_law_spots_here"] (defScope sl_near_spots) := ⟨rfl, rfl, rfl, by decide +kernel, rfl, by decide +kernel, by decide +kernel⟩
def dl_near_spots : He.DefD := ⟨("_law_near_spots", none), "_law_near_spots", "_law_near_spots", defArgs sl_near_spots, defBody sl_near_spots, defScope sl_near_spots, [], []⟩
abbrev sl_holds : Stmt := top 43
abbrev Nl_holds : List Str := ["_law_wide", "_law_spots_here", "_law_full", "_law_here", "_law_there", "_law_bound_here"]
theorem scl_holds : FnScope Nl_holds ["_law_wide", "_law_spots_here"] (defScope sl_holds) := ⟨rfl, rfl, rfl, by decide +kernel, rfl, by decide +kernel, by decide +kernel⟩
def dl_holds : He.DefD := ⟨("_law_holds", none), "_law_holds", "_law_holds", defArgs sl_holds, defBody sl_holds, defScope sl_holds, [], []⟩
abbrev sl_closing : Stmt := top 44
abbrev Nl_closing : List Str := ["_law_size_here", "_law_wide", "_law_sums", "_law_between", "_law_here", "_law_ahead", "_law_there", "_law_behind", "_law_line"]
theorem scl_closing : FnScope Nl_closing ["_law_size_here", "_law_wide"] (defScope sl_closing) := ⟨rfl, rfl, rfl, by decide +kernel, rfl, by decide +kernel, by decide +kernel⟩
def dl_closing : He.DefD := ⟨("_law_closing", none), "_law_closing", "_law_closing", defArgs sl_closing, defBody sl_closing, defScope sl_closing, [], []⟩
abbrev sl_with : Stmt := top 45
abbrev Nl_with : List Str := ["_law_grid", "_law_here", "_law_there", "_law_bound_here", "_law_line"]
theorem scl_with : FnScope Nl_with ["_law_grid", "_law_here", "_law_there", "_law_bound_here"] (defScope sl_with) := ⟨rfl, rfl, rfl, by decide +kernel, rfl, by decide +kernel, by decide +kernel⟩
def dl_with : He.DefD := ⟨("_law_with", none), "_law_with", "_law_with", defArgs sl_with, defBody sl_with, defScope sl_with, [], []⟩
abbrev sl_lesser : Stmt := top 46
abbrev Nl_lesser : List Str := ["_law_bound_here", "_law_other_bound"]
theorem scl_lesser : FnScope Nl_lesser ["_law_bound_here", "_law_other_bound"] (defScope sl_lesser) := ⟨rfl, rfl, rfl, by decide +kernel, rfl, by decide +kernel, by decide +kernel⟩
def dl_lesser : He.DefD := ⟨("_law_lesser", none), "_law_lesser", "_law_lesser", defArgs sl_lesser, defBody sl_lesser, defScope sl_lesser, [], []⟩
abbrev sl_greater : Stmt := top 47
abbrev Nl_greater : List Str := ["_law_bound_here", "_law_other_bound"]
theorem scl_greater : FnScope Nl_greater ["_law_bound_here", "_law_other_bound"] (defScope sl_greater) := ⟨rfl, rfl, rfl, by decide +kernel, rfl, by decide +kernel, by decide +kernel⟩
def dl_greater : He.DefD := ⟨("_law_greater", none), "_law_greater", "_law_greater", defArgs sl_greater, defBody sl_greater, defScope sl_greater, [], []⟩
abbrev sl_joined : Stmt := top 48
abbrev Nl_joined : List Str := ["_law_close", "_law_near", "_law_x", "_law_y", "_law_line", "_law_side"]
theorem scl_joined : FnScope Nl_joined ["_law_close", "_law_near"] (defScope sl_joined) := ⟨rfl, rfl, rfl, by decide +kernel, rfl, by decide +kernel, by decide +kernel⟩
def dl_joined : He.DefD := ⟨("_law_joined", none), "_law_joined", "_law_joined", defArgs sl_joined, defBody sl_joined, defScope sl_joined, [], []⟩
abbrev sl_guarded : Stmt := top 49
abbrev Nl_guarded : List Str := ["_law_size_here", "_law_wide", "_law_here", "_law_there", "_law_gap_here"]
theorem scl_guarded : FnScope Nl_guarded ["_law_size_here", "_law_wide", "_law_here", "_law_there", "_law_gap_here"] (defScope sl_guarded) := ⟨rfl, rfl, rfl, by decide +kernel, rfl, by decide +kernel, by decide +kernel⟩
def dl_guarded : He.DefD := ⟨("_law_guarded", none), "_law_guarded", "_law_guarded", defArgs sl_guarded, defBody sl_guarded, defScope sl_guarded, [], []⟩
abbrev sl_gap : Stmt := top 50
abbrev Nl_gap : List Str := ["_law_spring_here", "_law_close", "_law_here", "_law_there", "_law_way", "_law_low", "_law_high"]
theorem scl_gap : FnScope Nl_gap ["_law_spring_here", "_law_close", "_law_here", "_law_there"] (defScope sl_gap) := ⟨rfl, rfl, rfl, by decide +kernel, rfl, by decide +kernel, by decide +kernel⟩
def dl_gap : He.DefD := ⟨("_law_gap", none), "_law_gap", "_law_gap", defArgs sl_gap, defBody sl_gap, defScope sl_gap, [], []⟩
abbrev sl_deed_right : Stmt := top 51
abbrev Nl_deed_right : List Str := ["_law_spring_here", "_law_size_here", "_law_wide", "_law_close", "_law_points", "_law_here", "_law_there", "_law_gap_here", "_law_low", "_law_above", "_law_apart", "_law_told", "_law_spots_here", "_law_full", "_law_is_held"]
theorem scl_deed_right : FnScope Nl_deed_right ["_law_spring_here", "_law_size_here", "_law_wide", "_law_close", "_law_points"] (defScope sl_deed_right) := ⟨rfl, rfl, rfl, by decide +kernel, rfl, by decide +kernel, by decide +kernel⟩
def dl_deed_right : He.DefD := ⟨("_law_deed_right", none), "_law_deed_right", "_law_deed_right", defArgs sl_deed_right, defBody sl_deed_right, defScope sl_deed_right, [], []⟩
abbrev sl_right : Stmt := top 52
abbrev Nl_right : List Str := ["_law_spring_here", "_law_size_here", "_law_base", "_law_wide", "_law_close", "_law_points", "_law_turn"]
theorem scl_right : FnScope Nl_right ["_law_spring_here"] (defScope sl_right) := ⟨rfl, rfl, rfl, by decide +kernel, rfl, by decide +kernel, by decide +kernel⟩
def dl_right : He.DefD := ⟨("_law_right", none), "_law_right", "_law_right", defArgs sl_right, defBody sl_right, defScope sl_right, [], []⟩
abbrev sl_law : Stmt := top 53
abbrev Nl_law : List Str := ["_law_script", "_law_turn"]
theorem scl_law : FnScope Nl_law ["_law_script"] (defScope sl_law) := ⟨rfl, rfl, rfl, by decide +kernel, rfl, by decide +kernel, by decide +kernel⟩
def dl_law : He.DefD := ⟨("law", none), "law", "law", defArgs sl_law, defBody sl_law, defScope sl_law, [], []⟩
def fnL0 : List He.DefD := [dInvalidNumber_init, dInvalidSize_init, dInvalidSlot_init, dInvalidDifferences_init, dInvalidValues_init, dis_whole, dis_index, dis_gaps, dis_gap_row, dis_above, dlesser, dgreater, dgaps_hold, drow_by_way, dclosing, dgaps_joined, dgaps_guarded, dgaps_unlike, drefuse_wrong_number, drefuse_wrong_many, drefuse_wrong_differences, drefuse_wrong_indexes, drefuse_wrong_values, ddifferences_hold, ddifferences_guarded, ddifferences_unlike, drefuse_wrong_pair, dl_spring, dl_draw, dl_pick]
def fnL1 : List He.DefD := [dl_size, dl_spots, dl_bound, dl_about, dl_near_spots, dl_holds, dl_closing, dl_with, dl_lesser, dl_greater, dl_joined, dl_guarded, dl_gap, dl_deed_right, dl_right, dl_law]
def fnL : List He.DefD := fnL0 ++ fnL1
def faL0 : List He.Fa := [.glo "LookError", .glo "InvalidNumber", .glo "InvalidSize", .glo "InvalidSlot", .glo "InvalidDifferences", .glo "InvalidValues", .glo "is_whole", .glo "is_index", .glo "is_gaps", .glo "is_gap_row", .glo "is_above", .glo "lesser", .glo "greater", .glo "gaps_hold", .glo "row_by_way", .glo "closing", .glo "gaps_joined", .glo "gaps_guarded", .glo "gaps_unlike", .glo "refuse_wrong_number", .glo "refuse_wrong_many", .glo "refuse_wrong_differences", .glo "refuse_wrong_indexes", .glo "refuse_wrong_values", .glo "differences_hold", .glo "differences_guarded", .glo "differences_unlike", .glo "refuse_wrong_pair", .glo "_law_spring", .glo "_law_draw"]
def faL1 : List He.Fa := [.glo "_law_pick", .glo "_law_size", .glo "_law_spots", .glo "_law_bound", .glo "_law_about", .glo "_law_near_spots", .glo "_law_holds", .glo "_law_closing", .glo "_law_with", .glo "_law_lesser", .glo "_law_greater", .glo "_law_joined", .glo "_law_guarded", .glo "_law_gap", .glo "_law_deed_right", .glo "_law_right", .glo "law", .free "ValueError", .free "abs", .free "all", .free "any", .free "bool", .free "divmod", .free "enumerate", .free "int", .free "isinstance", .free "len", .free "list", .free "max", .free "min"]
def faL2 : List He.Fa := [.free "range", .free "repr", .free "tuple", .free "zip"]
def faX : List He.Fa := [.int "MOST_SLOTS" 20]
def faL : List He.Fa := faX ++ (faL0 ++ faL1 ++ faL2)
def looseL0 : List Str := ["LookError", "InvalidNumber", "InvalidSize", "InvalidSlot", "InvalidDifferences", "InvalidValues", "is_whole", "is_index", "is_gaps", "is_gap_row", "is_above", "lesser", "greater", "gaps_hold", "row_by_way", "closing", "gaps_joined", "gaps_guarded", "gaps_unlike", "refuse_wrong_number", "refuse_wrong_many", "refuse_wrong_differences", "refuse_wrong_indexes", "refuse_wrong_values", "differences_hold", "differences_guarded", "differences_unlike", "refuse_wrong_pair", "_law_spring", "_law_draw"]
def looseL1 : List Str := ["_law_pick", "_law_size", "_law_spots", "_law_bound", "_law_about", "_law_near_spots", "_law_holds", "_law_closing", "_law_with", "_law_lesser", "_law_greater", "_law_joined", "_law_guarded", "_law_gap", "_law_deed_right", "_law_right", "MOST_SLOTS"]
def looseL : List Str := looseL0 ++ looseL1
def lawAt : Nat := 53
def kB : Value → Option (Int ⊕ Str)
  | .int n _ => some (.inl n)
  | .str z _ => some (.inr z)
  | _ => none
def tupB (K : PySem.W.Frag) (x : Str) (zs : List (Int ⊕ Str)) : Bool := match K.lookup (He.ga K x) with
  | some ⟨.type "tuple", _, .seq its _, _⟩ => decide (its.toList.map kB = zs.map some)
  | _ => false
def exB (K : PySem.W.Frag) : Bool := true
abbrev R : PySem.W.OpenRow := PySem.W.OpenLaw.row PySem.Challenge.rw_soundlooks_k42_whole_guarded_and_unlike
abbrev hk : PySem.W.Hook := He.hookX 5 faL fnL [] [] exB
def ob (s : PySem.W.SharedT) : He.AlX := He.obsX 5 faL fnL [] [] exB (HandSHeadRun.getT s)
theorem ob_eq (s : PySem.W.SharedT) : ob s = hk.obs s.abs := He.obsX_eq (HandSHeadRun.getT_eq s)
theorem run (w : World) : HandSHeadRun.RunEq R (PySem.W.view R.prog [lawAt]) hk ob 60000 looseL w := by
  intro os
  kernel_rfl
end Lw

namespace Eg
open PySem PySem.Spec L2

/-! ### data -/
/-- a list of the written part -/
def WrL (K : PySem.W.Frag) (a : Addr) (xs : List V) : Prop := SqL K (fun _ => none) a xs
theorem WrL.sq {K : PySem.W.Frag} {H : Hp} {a : Addr} {xs : List V} (h : WrL K a xs) : SqL K H a xs := by
  rcases h with (h | ⟨o, h⟩) | h
  · cases h
  · cases h
  · exact .inr h
inductive DV where
  | non | bl (b : Bool) | int (i : Int) | str (x : Str)
  | tup (xs : List DV) | lst (xs : List DV) | dic (kvs : List (Key × DV))
  | exc (C : Addr) (fs : List (Str × DV))
  | mu (k : Nat)
/-- a mutable object -/
inductive MO where
  | dead | lst (xs : List DV) | dic (kvs : List (Key × DV)) | ins (C : Addr) (fs : List (Str × DV))
structure Wd where
  K : PySem.W.Frag
  α : List Addr
  μ : List MO
  H : Hp
def Wd.lv (w : Wd) (p : Addr) : Prop := ∃ (k : Nat) (o : MO), w.α[k]? = some p ∧ w.μ[k]? = some o ∧ o ≠ MO.dead
mutual
inductive Has (w : Wd) : V → DV → Prop
  | non : Has w .non .non
  | bl {b} : Has w (.bl b) (.bl b)
  | int {i} : Has w (.int i) (.int i)
  | str {x} : Has w (.str x) (.str x)
  | tup {p vs ds} : SqT w.K w.H p vs → HasL w vs ds → Has w (.ref p) (.tup ds)
  | lst {p vs ds} : (¬ w.lv p ∧ Rd w.H p (.lst vs)) ∨ WrL w.K p vs → HasL w vs ds → Has w (.ref p) (.lst ds)
  | dic {p kvs kds} : ¬ w.lv p → w.H p = some (.dK kvs) → HasK w kvs kds → Has w (.ref p) (.dic kds)
  | exc {p C d fs ds} : w.H p = some (exo p C (some d)) → w.H d = some (exd d fs) → HasF w fs ds → Has w (.ref p) (.exc C ds)
  | exc0 {p C} : w.H p = some (ExO (.ref C) p) → Has w (.ref p) (.exc C [])
  | mu {k a} : w.α[k]? = some a → Has w (.ref a) (.mu k)
inductive HasL (w : Wd) : List V → List DV → Prop
  | nil : HasL w [] []
  | cons {v d vs ds} : Has w v d → HasL w vs ds → HasL w (v :: vs) (d :: ds)
inductive HasK (w : Wd) : List (Key × V) → List (Key × DV) → Prop
  | nil : HasK w [] []
  | cons {k v d vs ds} : Has w v d → HasK w vs ds → HasK w ((k, v) :: vs) ((k, d) :: ds)
inductive HasF (w : Wd) : List (Str × V) → List (Str × DV) → Prop
  | nil : HasF w [] []
  | cons {k v d vs ds} : Has w v d → HasF w vs ds → HasF w ((k, v) :: vs) ((k, d) :: ds)
end
def MHas (w : Wd) (a : Addr) : MO → Prop
  | .dead => True
  | .lst ds => ∃ vs, w.H a = some (.lst vs) ∧ HasL w vs ds
  | .dic kds => ∃ kvs, w.H a = some (.dK kvs) ∧ HasK w kvs kds
  | .ins C fds => ∃ dx fs, w.H a = some (.ins C dx fs) ∧ HasF w fs fds
structure Live (w : Wd) : Prop where
  len : w.α.length = w.μ.length
  nd : w.α.Nodup
  tr : ∀ a ∈ w.α, w.H a ≠ none
  ob : ∀ (k : Nat) (a : Addr) (o : MO), w.α[k]? = some a → w.μ[k]? = some o → MHas w a o
abbrev RO := List (Option DV)
structure En (w : Wd) (σ : St) (ρ : RO) : Prop where
  live : Live w
  len : σ.length = ρ.length
  at_ : ∀ (i : Nat) (d : DV), ρ[i]? = some (some d) → ∃ v, σ[i]? = some (some v) ∧ Has w v d
/-- what a change of the world has to keep -/
structure Kp (w w' : Wd) : Prop where
  K : w'.K = w.K
  α : ∀ (k : Nat) (a : Addr), w.α[k]? = some a → w'.α[k]? = some a
  lv : ∀ p, w.H p ≠ none → w'.lv p → w.lv p
  H : ∀ p o, w.H p = some o → ¬ w.lv p → w'.H p = some o
  tu : ∀ p, w.lv p → Mut (w.H p)
  ex : ∀ p φ, w.H p = some (.ext φ) → ¬ w.lv p
mutual
theorem Kp.has {w w' : Wd} (k : Kp w w') : ∀ {v : V} {d : DV}, Has w v d → Has w' v d
  | _, _, .non => .non
  | _, _, .bl => .bl
  | _, _, .int => .int
  | _, _, .str => .str
  | _, _, .tup h t => .tup (by
      have nl : ∀ {p xs}, Rd w.H p (.tup xs) → ¬ w.lv p := fun {p xs} r z => by
        have m := k.tu p z
        rcases r with r | ⟨o, r⟩ <;> (rw [r] at m; exact m)
      rcases h with r | r
      · have n := nl r
        rcases r with r | ⟨o, r⟩
        · exact .inl (.inl (k.H _ _ r n))
        · exact .inl (.inr ⟨o, k.H _ _ r n⟩)
      · exact .inr (by rw [k.K]; exact r)) (Kp.hasL k t)
  | _, _, .lst r t => .lst (by
      rcases r with ⟨n, r⟩ | r
      · refine .inl ⟨fun z => n (k.lv _ (by rcases r with r | ⟨o, r⟩ <;> (rw [r]; exact fun z => nomatch z)) z), ?_⟩
        rcases r with r | ⟨o, r⟩
        · exact .inl (k.H _ _ r n)
        · exact .inr ⟨o, k.H _ _ r n⟩
      · exact .inr (by rw [k.K]; exact r)) (Kp.hasL k t)
  | _, _, .dic n r t => .dic (fun z => n (k.lv _ (by rw [r]; exact fun z => nomatch z) z)) (k.H _ _ r n) (Kp.hasK k t)
  | _, _, .exc h1 h2 t => .exc (k.H _ _ h1 (k.ex _ _ h1)) (k.H _ _ h2 (k.ex _ _ h2)) (Kp.hasF k t)
  | _, _, .exc0 h1 => .exc0 (k.H _ _ h1 (k.ex _ _ h1))
  | _, _, .mu h => .mu (k.α _ _ h)
theorem Kp.hasL {w w' : Wd} (k : Kp w w') : ∀ {vs : List V} {ds : List DV}, HasL w vs ds → HasL w' vs ds
  | _, _, .nil => .nil
  | _, _, .cons h t => .cons (Kp.has k h) (Kp.hasL k t)
theorem Kp.hasK {w w' : Wd} (k : Kp w w') : ∀ {vs : List (Key × V)} {ds : List (Key × DV)}, HasK w vs ds → HasK w' vs ds
  | _, _, .nil => .nil
  | _, _, .cons h t => .cons (Kp.has k h) (Kp.hasK k t)
theorem Kp.hasF {w w' : Wd} (k : Kp w w') : ∀ {vs : List (Str × V)} {ds : List (Str × DV)}, HasF w vs ds → HasF w' vs ds
  | _, _, .nil => .nil
  | _, _, .cons h t => .cons (Kp.has k h) (Kp.hasF k t)
end
theorem En.ext {w w' : Wd} {σ : L2.St} {ρ : RO} (E : En w σ ρ) (e : Kp w w') (l : Live w') : En w' σ ρ :=
  ⟨l, E.len, fun i d h => let ⟨v, h1, h2⟩ := E.at_ i d h; ⟨v, h1, e.has h2⟩⟩
theorem Kp.trans {a b c : Wd} (h : Kp a b) (k : Kp b c) : Kp a c where
  K := k.K.trans h.K
  α := fun i x e => k.α i x (h.α i x e)
  lv := fun p n z => by
    by_cases q : a.lv p
    · exact q
    · cases e : a.H p with
      | none => exact absurd e n
      | some o => exact h.lv p n (k.lv p (by rw [h.H p o e q]; exact fun z => nomatch z) z)
  H := fun p o e n => k.H p o (h.H p o e n) fun z => n (h.lv p (by rw [e]; exact fun z => nomatch z) z)
  tu := h.tu
  ex := h.ex
/-- a live object is one that may be changed -/
theorem Live.mut {w : Wd} (l : Live w) {p : Addr} (h : w.lv p) : (∃ xs, w.H p = some (.lst xs)) ∨ (∃ xs, w.H p = some (.dK xs)) ∨ ∃ C dx fs, w.H p = some (.ins C dx fs) := by
  obtain ⟨k, o, h1, h2, h3⟩ := h
  have q := l.ob k p o h1 h2
  cases o with
  | dead => exact absurd rfl h3
  | lst ds => obtain ⟨vs, e, _⟩ := q; exact .inl ⟨vs, e⟩
  | dic ds => obtain ⟨vs, e, _⟩ := q; exact .inr (.inl ⟨vs, e⟩)
  | ins C fs => obtain ⟨dx, vs, e, _⟩ := q; exact .inr (.inr ⟨C, dx, vs, e⟩)
theorem Kp.of {w w' : Wd} (l : Live w) (K : w'.K = w.K) (α : ∀ (k : Nat) (a : Addr), w.α[k]? = some a → w'.α[k]? = some a) (lv : ∀ p, w.H p ≠ none → w'.lv p → w.lv p)
    (H : ∀ p o, w.H p = some o → ¬ w.lv p → w'.H p = some o) : Kp w w' where
  K := K
  α := α
  lv := lv
  H := H
  tu := fun p z => by
    rcases l.mut z with ⟨xs, e⟩ | ⟨xs, e⟩ | ⟨C, dx, fs, e⟩ <;> (rw [e]; exact True.intro)
  ex := fun p φ e z => by
    rcases l.mut z with ⟨xs, q⟩ | ⟨xs, q⟩ | ⟨C, dx, fs, q⟩ <;> (rw [e] at q; cases q)
theorem Live.refl {w : Wd} (l : Live w) : Kp w w := Kp.of l rfl (fun _ _ e => e) (fun _ _ e => e) fun _ _ e _ => e
theorem Live.fresh {w : Wd} (l : Live w) {p : Addr} (n : w.H p = none) : ¬ w.lv p := fun z => by
  rcases l.mut z with ⟨xs, e⟩ | ⟨xs, e⟩ | ⟨C, dx, fs, e⟩ <;> (rw [n] at e; cases e)
theorem Live.nin {w : Wd} (l : Live w) {p : Addr} (n : w.H p = none) : p ∉ w.α := fun z => l.tr p z n
/-- the k-th objects' accounts behind a change that leaves the live ones -/
theorem MHas.ext {w w' : Wd} (e : Kp w w') {a : Addr} : ∀ {o : MO}, (o ≠ MO.dead → w'.H a = w.H a) → MHas w a o → MHas w' a o
  | .dead, _, _ => True.intro
  | .lst _, q, ⟨vs, h1, h2⟩ => ⟨vs, (q (fun z => nomatch z)).trans h1, e.hasL h2⟩
  | .dic _, q, ⟨vs, h1, h2⟩ => ⟨vs, (q (fun z => nomatch z)).trans h1, e.hasK h2⟩
  | .ins _ _, q, ⟨dx, vs, h1, h2⟩ => ⟨dx, vs, (q (fun z => nomatch z)).trans h1, e.hasF h2⟩
section
variable {K : PySem.W.Frag} {α : List Addr} {μ : List MO} {H : Hp} {p : Addr} {o : HO}
/-- a new object is laid that nobody may change -/
theorem Live.lay (l : Live ⟨K, α, μ, H⟩) (n : H p = none) : Kp ⟨K, α, μ, H⟩ ⟨K, α, μ, upd H p o⟩ ∧ Live ⟨K, α, μ, upd H p o⟩ := by
  have k : Kp ⟨K, α, μ, H⟩ ⟨K, α, μ, upd H p o⟩ := Kp.of l rfl (fun _ _ e => e) (fun _ _ e => e) fun q u e _ => by
    show upd H p o q = some u
    rw [upd_ne (ne_of_none e n)]
    exact e
  refine ⟨k, l.len, l.nd, fun a ha z => ?_, fun i a m h1 h2 => MHas.ext k (fun hm => ?_) (l.ob i a m h1 h2)⟩
  · have z' : upd H p o a = none := z
    by_cases e : a = p
    · rw [e, upd_same] at z'
      cases z'
    · rw [upd_ne e] at z'
      exact l.tr a ha z'
  · show upd H p o a = H a
    refine upd_ne fun e => l.fresh (p := p) n ?_
    rw [← e]
    exact ⟨i, m, h1, h2, hm⟩
/-- a new object is laid that may be changed -/
theorem Live.layM {m : MO} (l : Live ⟨K, α, μ, H⟩) (n : H p = none) (hm : Live ⟨K, α, μ, upd H p o⟩ → Kp ⟨K, α, μ, H⟩ ⟨K, α ++ [p], μ ++ [m], upd H p o⟩ → MHas ⟨K, α ++ [p], μ ++ [m], upd H p o⟩ p m) :
    Kp ⟨K, α, μ, H⟩ ⟨K, α ++ [p], μ ++ [m], upd H p o⟩ ∧ Live ⟨K, α ++ [p], μ ++ [m], upd H p o⟩ ∧ (α ++ [p])[μ.length]? = some p := by
  obtain ⟨_, l1⟩ := l.lay (o := o) n
  have hl : α.length = μ.length := l.len
  have np : p ∉ α := l.nin n
  have cases_ : ∀ {i : Nat} {a : Addr} {u : MO}, (α ++ [p])[i]? = some a → (μ ++ [m])[i]? = some u → (α[i]? = some a ∧ μ[i]? = some u) ∨ (a = p ∧ u = m) := fun {i a u} h1 h2 => by
    by_cases hi : i < α.length
    · rw [List.getElem?_append_left hi] at h1
      rw [List.getElem?_append_left (by omega)] at h2
      exact .inl ⟨h1, h2⟩
    · rw [List.getElem?_append_right (by omega)] at h1
      rw [List.getElem?_append_right (by omega)] at h2
      have hi1 : i - α.length = 0 := by
        cases e : i - α.length with
        | zero => rfl
        | succ j =>
          rw [e] at h1
          simp at h1
      have hi2 : i - μ.length = 0 := by omega
      rw [hi1] at h1
      rw [hi2] at h2
      simp at h1 h2
      exact .inr ⟨h1.symm, h2.symm⟩
  have k : Kp ⟨K, α, μ, H⟩ ⟨K, α ++ [p], μ ++ [m], upd H p o⟩ := Kp.of l rfl (fun i a e => by
      have e' : α[i]? = some a := e
      show (α ++ [p])[i]? = some a
      rw [List.getElem?_append_left (List.getElem?_eq_some_iff.mp e').1]
      exact e') (fun q nq ⟨i, u, h1, h2, h3⟩ => by
      rcases cases_ h1 h2 with ⟨q1, q2⟩ | ⟨q1, _⟩
      · exact ⟨i, u, q1, q2, h3⟩
      · exact absurd (show H q = none by rw [q1]; exact n) nq) fun q u e _ => by
    show upd H p o q = some u
    rw [upd_ne (ne_of_none e n)]
    exact e
  refine ⟨k, ⟨?_, ?_, ?_, ?_⟩, ?_⟩
  · show (α ++ [p]).length = (μ ++ [m]).length
    simp [hl]
  · show (α ++ [p]).Nodup
    refine List.nodup_append.mpr ⟨l.nd, by simp, ?_⟩
    intro a ha b hb
    rw [List.mem_singleton] at hb
    rw [hb]
    exact fun e => np (e ▸ ha)
  · intro a ha
    have ha' : a ∈ α ++ [p] := ha
    rcases List.mem_append.mp ha' with h | h
    · exact l1.tr a h
    · rw [List.mem_singleton] at h
      rw [h]
      show upd H p o p ≠ none
      rw [upd_same]
      exact fun z => nomatch z
  · intro i a u h1 h2
    rcases cases_ h1 h2 with ⟨q1, q2⟩ | ⟨q1, q2⟩
    · refine MHas.ext k (fun hu => ?_) (l.ob i a u q1 q2)
      show upd H p o a = H a
      exact upd_ne fun e => l.fresh (p := p) n (by rw [← e]; exact ⟨i, u, q1, q2, hu⟩)
    · rw [q1, q2]
      exact hm l1 k
  · rw [← hl]
    simp
/-- new objects are laid that nobody may change -/
theorem Live.lays {H' : Hp} (l : Live ⟨K, α, μ, H⟩) (h : ∀ p, H p ≠ none → H' p = H p) : Kp ⟨K, α, μ, H⟩ ⟨K, α, μ, H'⟩ ∧ Live ⟨K, α, μ, H'⟩ := by
  have k : Kp ⟨K, α, μ, H⟩ ⟨K, α, μ, H'⟩ := Kp.of l rfl (fun _ _ e => e) (fun _ _ e => e) fun q u e _ => (h q (by
    have e' : H q = some u := e
    rw [e']
    exact fun z => nomatch z)).trans e
  refine ⟨k, l.len, l.nd, fun a ha z => l.tr a ha ((h a (l.tr a ha)).symm.trans z), fun i a m h1 h2 => MHas.ext k (fun _ => ?_) (l.ob i a m h1 h2)⟩
  exact h a (l.tr a (List.mem_of_getElem? h1))
/-- the k-th object is changed -/
theorem Live.put {k : Nat} {a : Addr} {m0 m : MO} (l : Live ⟨K, α, μ, H⟩) (ha : α[k]? = some a) (hm0 : μ[k]? = some m0) (h0 : m0 ≠ MO.dead)
    (hm : Kp ⟨K, α, μ, H⟩ ⟨K, α, μ.set k m, upd H a o⟩ → MHas ⟨K, α, μ.set k m, upd H a o⟩ a m) : Kp ⟨K, α, μ, H⟩ ⟨K, α, μ.set k m, upd H a o⟩ ∧ Live ⟨K, α, μ.set k m, upd H a o⟩ := by
  have la : Wd.lv ⟨K, α, μ, H⟩ a := ⟨k, m0, ha, hm0, h0⟩
  have hk : k < μ.length := (List.getElem?_eq_some_iff.mp hm0).1
  have same : ∀ {i : Nat}, α[i]? = some a → i = k := fun {i} e => nd_ix l.nd e ha
  have kp : Kp ⟨K, α, μ, H⟩ ⟨K, α, μ.set k m, upd H a o⟩ := Kp.of l rfl (fun _ _ e => e) (fun q _ ⟨i, u, h1, h2, h3⟩ => by
      by_cases e : i = k
      · subst e
        have h1' : α[i]? = some q := h1
        rw [ha] at h1'
        cases h1'
        exact la
      · exact ⟨i, u, h1, by rw [← h2]; exact (List.getElem?_set_ne (Ne.symm e)).symm, h3⟩) fun q u e nl => by
    show upd H a o q = some u
    rw [upd_ne (fun z : q = a => nl (by rw [z]; exact la))]
    exact e
  refine ⟨kp, ⟨?_, l.nd, ?_, ?_⟩⟩
  · show α.length = (μ.set k m).length
    rw [List.length_set]
    exact l.len
  · intro b hb z
    have z' : upd H a o b = none := z
    by_cases e : b = a
    · rw [e, upd_same] at z'
      cases z'
    · rw [upd_ne e] at z'
      exact l.tr b hb z'
  · intro i b u h1 h2
    have h2' : (μ.set k m)[i]? = some u := h2
    have h1' : α[i]? = some b := h1
    by_cases e : i = k
    · subst e
      rw [List.getElem?_set_self hk] at h2'
      cases h2'
      rw [ha] at h1'
      cases h1'
      exact hm kp
    · rw [List.getElem?_set_ne (Ne.symm e)] at h2'
      refine MHas.ext kp (fun _ => ?_) (l.ob i b u h1 h2')
      show upd H a o b = H b
      exact upd_ne fun z : b = a => e (same (by rw [← z]; exact h1'))
/-- nobody will change the k-th object any more -/
theorem Live.freeze {k : Nat} (l : Live ⟨K, α, μ, H⟩) : Kp ⟨K, α, μ, H⟩ ⟨K, α, μ.set k MO.dead, H⟩ ∧ Live ⟨K, α, μ.set k MO.dead, H⟩ ∧ ∀ a, α[k]? = some a → ¬ Wd.lv ⟨K, α, μ.set k MO.dead, H⟩ a := by
  have at_ : ∀ {i : Nat} {u : MO}, (μ.set k MO.dead)[i]? = some u → u = MO.dead ∨ (i ≠ k ∧ μ[i]? = some u) := fun {i u} h => by
    by_cases e : i = k
    · subst e
      by_cases hi : i < μ.length
      · rw [List.getElem?_set_self hi] at h
        exact .inl (Option.some.inj h).symm
      · rw [List.getElem?_eq_none_iff.mpr (by rw [List.length_set]; omega)] at h
        cases h
    · rw [List.getElem?_set_ne (Ne.symm e)] at h
      exact .inr ⟨e, h⟩
  have kp : Kp ⟨K, α, μ, H⟩ ⟨K, α, μ.set k MO.dead, H⟩ := Kp.of l rfl (fun _ _ e => e) (fun q _ ⟨i, u, h1, h2, h3⟩ => by
      rcases at_ h2 with z | ⟨_, z⟩
      · exact absurd z h3
      · exact ⟨i, u, h1, z, h3⟩) fun q u e nl => e
  refine ⟨kp, ⟨?_, l.nd, l.tr, ?_⟩, ?_⟩
  · show α.length = (μ.set k MO.dead).length
    rw [List.length_set]
    exact l.len
  · intro i b u h1 h2
    rcases at_ h2 with z | ⟨_, z⟩
    · rw [z]
      exact True.intro
    · exact MHas.ext kp (fun _ => rfl) (l.ob i b u h1 z)
  · rintro a ha ⟨i, u, h1, h2, h3⟩
    rcases at_ h2 with z | ⟨ne, _⟩
    · exact h3 z
    · exact ne (nd_ix l.nd h1 ha)
end
mutual
/-- its mutable objects are among the first n -/
def DV.bel (n : Nat) : DV → Bool
  | .tup xs => DV.belL n xs
  | .lst xs => DV.belL n xs
  | .dic kvs => DV.belK n kvs
  | .exc _ fs => DV.belF n fs
  | .mu k => decide (k < n)
  | _ => true
def DV.belL (n : Nat) : List DV → Bool
  | [] => true
  | x :: r => DV.bel n x && DV.belL n r
def DV.belK (n : Nat) : List (Key × DV) → Bool
  | [] => true
  | (_, x) :: r => DV.bel n x && DV.belK n r
def DV.belF (n : Nat) : List (Str × DV) → Bool
  | [] => true
  | (_, x) :: r => DV.bel n x && DV.belF n r
end
def MO.bel (n : Nat) : MO → Bool
  | .dead => true
  | .lst xs => DV.belL n xs
  | .dic kvs => DV.belK n kvs
  | .ins _ fs => DV.belF n fs
section
variable {w w' : Wd} {n : Nat}
mutual
theorem Has.move (K : w'.K = w.K) (H : w'.H = w.H) (lv : ∀ p, w'.lv p → w.lv p) (α : ∀ (k : Nat) (a : Addr), k < n → w.α[k]? = some a → w'.α[k]? = some a) : ∀ {v : V} {d : DV}, Has w v d → DV.bel n d = true → Has w' v d
  | _, _, .non, _ => .non
  | _, _, .bl, _ => .bl
  | _, _, .int, _ => .int
  | _, _, .str, _ => .str
  | _, _, .tup h t, p => .tup (by rw [K, H]; exact h) (HasL.move K H lv α t p)
  | _, _, .lst r t, p => .lst (by
      rcases r with ⟨n, r⟩ | r
      · exact .inl ⟨fun z => n (lv _ z), by rw [H]; exact r⟩
      · exact .inr (by rw [K]; exact r)) (HasL.move K H lv α t p)
  | _, _, .dic n r t, p => .dic (fun z => n (lv _ z)) (by rw [H]; exact r) (HasK.move K H lv α t p)
  | _, _, .exc h1 h2 t, p => .exc (by rw [H]; exact h1) (by rw [H]; exact h2) (HasF.move K H lv α t p)
  | _, _, .exc0 h1, _ => .exc0 (by rw [H]; exact h1)
  | _, _, .mu h, p => .mu (α _ _ (of_decide_eq_true p) h)
theorem HasL.move (K : w'.K = w.K) (H : w'.H = w.H) (lv : ∀ p, w'.lv p → w.lv p) (α : ∀ (k : Nat) (a : Addr), k < n → w.α[k]? = some a → w'.α[k]? = some a) : ∀ {vs : List V} {ds : List DV}, HasL w vs ds → DV.belL n ds = true → HasL w' vs ds
  | _, _, .nil, _ => .nil
  | _, _, .cons h t, p => .cons (Has.move K H lv α h (Bool.and_eq_true_iff.mp p).1) (HasL.move K H lv α t (Bool.and_eq_true_iff.mp p).2)
theorem HasK.move (K : w'.K = w.K) (H : w'.H = w.H) (lv : ∀ p, w'.lv p → w.lv p) (α : ∀ (k : Nat) (a : Addr), k < n → w.α[k]? = some a → w'.α[k]? = some a) : ∀ {vs : List (Key × V)} {ds : List (Key × DV)}, HasK w vs ds → DV.belK n ds = true → HasK w' vs ds
  | _, _, .nil, _ => .nil
  | _, _, .cons h t, p => .cons (Has.move K H lv α h (Bool.and_eq_true_iff.mp p).1) (HasK.move K H lv α t (Bool.and_eq_true_iff.mp p).2)
theorem HasF.move (K : w'.K = w.K) (H : w'.H = w.H) (lv : ∀ p, w'.lv p → w.lv p) (α : ∀ (k : Nat) (a : Addr), k < n → w.α[k]? = some a → w'.α[k]? = some a) : ∀ {vs : List (Str × V)} {ds : List (Str × DV)}, HasF w vs ds → DV.belF n ds = true → HasF w' vs ds
  | _, _, .nil, _ => .nil
  | _, _, .cons h t, p => .cons (Has.move K H lv α h (Bool.and_eq_true_iff.mp p).1) (HasF.move K H lv α t (Bool.and_eq_true_iff.mp p).2)
end
end
/-- what was made beside is forgotten -/
def Wd.cut (w : Wd) (n : Nat) : Wd := ⟨w.K, w.α.take n, w.μ.take n, w.H⟩
theorem cut_lv {w : Wd} {n : Nat} {p : Addr} (h : (w.cut n).lv p) : w.lv p := by
  obtain ⟨i, u, h1, h2, h3⟩ := h
  have h1' : (w.α.take n)[i]? = some p := h1
  have h2' : (w.μ.take n)[i]? = some u := h2
  rw [List.getElem?_take] at h1' h2'
  split at h1'
  · rename_i hi
    rw [if_pos hi] at h2'
    exact ⟨i, u, h1', h2', h3⟩
  · cases h1'
theorem Live.cut {w w' : Wd} (l : Live w) (l' : Live w') (k : Kp w w') : Kp w (w'.cut w.μ.length) := Kp.of l k.K (fun i a e => by
    show (w'.α.take w.μ.length)[i]? = some a
    have hi : i < w.μ.length := by
      rw [← l.len]
      exact (List.getElem?_eq_some_iff.mp e).1
    rw [List.getElem?_take, if_pos hi]
    exact k.α i a e) (fun p n z => k.lv p n (cut_lv z)) k.H
theorem cut_α {w : Wd} {n : Nat} (k : Nat) (a : Addr) (h : k < n) (e : w.α[k]? = some a) : (w.cut n).α[k]? = some a := by
  show (w.α.take n)[k]? = some a
  rw [List.getElem?_take, if_pos h]
  exact e
theorem Live.cutL {w : Wd} (l : Live w) (n : Nat) (p : (w.μ.take n).all (MO.bel n) = true) : Live (w.cut n) where
  len := by
    show (w.α.take n).length = (w.μ.take n).length
    rw [List.length_take, List.length_take, l.len]
  nd := l.nd.sublist (List.take_sublist _ _)
  tr := fun a h => l.tr a (List.mem_of_mem_take h)
  ob := fun i a u h1 h2 => by
    have h1' : (w.α.take n)[i]? = some a := h1
    have h2' : (w.μ.take n)[i]? = some u := h2
    have pu : MO.bel n u = true := List.all_eq_true.mp p u (List.mem_of_getElem? h2')
    rw [List.getElem?_take] at h1' h2'
    split at h1'
    · rename_i hi
      rw [if_pos hi] at h2'
      have q := l.ob i a u h1' h2'
      cases u with
      | dead => exact True.intro
      | lst ds =>
        obtain ⟨vs, e, t⟩ := q
        exact ⟨vs, e, HasL.move (w := w) (w' := w.cut n) (n := n) rfl rfl (fun _ z => cut_lv z) cut_α t pu⟩
      | dic ds =>
        obtain ⟨vs, e, t⟩ := q
        exact ⟨vs, e, HasK.move (w := w) (w' := w.cut n) (n := n) rfl rfl (fun _ z => cut_lv z) cut_α t pu⟩
      | ins C ds =>
        obtain ⟨dx, vs, e, t⟩ := q
        exact ⟨dx, vs, e, HasF.move (w := w) (w' := w.cut n) (n := n) rfl rfl (fun _ z => cut_lv z) cut_α t pu⟩
    · cases h1'
theorem Has.cut {w : Wd} {n : Nat} {v : V} {d : DV} (h : Has w v d) (p : DV.bel n d = true) : Has (w.cut n) v d := Has.move (w := w) (w' := w.cut n) (n := n) rfl rfl (fun _ z => cut_lv z) cut_α h p
end Eg

namespace Eg
open PySem PySem.Spec L2
abbrev Cn := DV → List MO → Prop
abbrev Ct := Bool → List MO → Prop
abbrev Ca := List DV → List MO → Prop
section
variable {X : Cx}
def tEv (X : Cx) (ρ : RO) (μ : List MO) (R : Cn) : TE := fun σ H Q => ∃ α, En ⟨X.K, α, μ, H⟩ σ ρ ∧
  ∀ v d α' μ' H', R d μ' → En ⟨X.K, α', μ', H'⟩ σ ρ → Kp ⟨X.K, α, μ, H⟩ ⟨X.K, α', μ', H'⟩ → Has ⟨X.K, α', μ', H'⟩ v d → Q v H'
def tEvT (X : Cx) (ρ : RO) (μ : List MO) (R : Ct) : TT := fun σ H Q => ∃ α, En ⟨X.K, α, μ, H⟩ σ ρ ∧
  ∀ b α' μ' H', R b μ' → En ⟨X.K, α', μ', H'⟩ σ ρ → Kp ⟨X.K, α, μ, H⟩ ⟨X.K, α', μ', H'⟩ → Q b H'
def tEvA (X : Cx) (ρ : RO) (μ : List MO) (R : Ca) : TA := fun σ H Q => ∃ α, En ⟨X.K, α, μ, H⟩ σ ρ ∧
  ∀ vs ds α' μ' H', R ds μ' → En ⟨X.K, α', μ', H'⟩ σ ρ → Kp ⟨X.K, α, μ, H⟩ ⟨X.K, α', μ', H'⟩ → HasL ⟨X.K, α', μ', H'⟩ vs ds → Q vs H'
/-- the expression, over the slots ρ and the objects μ, comes to what R lets -/
def Ev (X : Cx) (e : Expr) (ρ : RO) (μ : List MO) (R : Cn) : Prop := PE X e (tEv X ρ μ R)
def EvT (X : Cx) (e : Expr) (ρ : RO) (μ : List MO) (R : Ct) : Prop := PT X e (tEvT X ρ μ R)
def EvW (X : Cx) (e : Expr) (ρ : RO) (μ : List MO) (R : Ct) : Prop := PW X e (tEvT X ρ μ R)
def EvA (X : Cx) (es : List Expr) (ρ : RO) (μ : List MO) (R : Ca) : Prop := PA X es (tEvA X ρ μ R)

def aE (X : Cx) (e : Expr) : TE := fun σ H Q => ∃ t, PE X e t ∧ t σ H Q
def aT (X : Cx) (e : Expr) : TT := fun σ H Q => ∃ t, PT X e t ∧ t σ H Q
def aW (X : Cx) (e : Expr) : TT := fun σ H Q => ∃ t, PW X e t ∧ t σ H Q
def aA (X : Cx) (e : List Expr) : TA := fun σ H Q => ∃ t, PA X e t ∧ t σ H Q
theorem pe_a {e : Expr} : PE X e (aE X e) := ⟨fun pins s σ H Q I ⟨_, h, q⟩ => h.run pins s σ H Q I q⟩
theorem pt_a {e : Expr} : PT X e (aT X e) := ⟨fun pins s σ H Q I ⟨_, h, q⟩ => h.run pins s σ H Q I q⟩
theorem pw_a {e : Expr} : PW X e (aW X e) := ⟨fun wh pins s σ H Q I ⟨_, h, q⟩ => h.run wh pins s σ H Q I q⟩
theorem pa_a {e : List Expr} : PA X e (aA X e) := ⟨fun pos pins s σ H Q I ⟨_, h, q⟩ => h.run pos pins s σ H Q I q⟩
theorem PEw {e : Expr} {t t' : TE} (h : PE X e t) (k : ∀ σ H Q, t' σ H Q → t σ H Q) : PE X e t' := ⟨fun pins s σ H Q I q => h.run pins s σ H Q I (k σ H Q q)⟩
theorem PTw {e : Expr} {t t' : TT} (h : PT X e t) (k : ∀ σ H Q, t' σ H Q → t σ H Q) : PT X e t' := ⟨fun pins s σ H Q I q => h.run pins s σ H Q I (k σ H Q q)⟩
theorem PWw {e : Expr} {t t' : TT} (h : PW X e t) (k : ∀ σ H Q, t' σ H Q → t σ H Q) : PW X e t' := ⟨fun wh pins s σ H Q I q => h.run wh pins s σ H Q I (k σ H Q q)⟩
theorem PAw {e : List Expr} {t t' : TA} (h : PA X e t) (k : ∀ σ H Q, t' σ H Q → t σ H Q) : PA X e t' := ⟨fun pos pins s σ H Q I q => h.run pos pins s σ H Q I (k σ H Q q)⟩
section
variable {e a b c : Expr} {es : List Expr} {ρ : RO} {μ : List MO} {pos : Pos}
theorem Ev.mono {R R' : Cn} (h : Ev X e ρ μ R) (k : ∀ d μ', R d μ' → R' d μ') : Ev X e ρ μ R' :=
  PEw h fun σ H Q ⟨α, E, q⟩ => ⟨α, E, fun v d α' μ' H' r => q v d α' μ' H' (k _ _ r)⟩
theorem EvT.mono {R R' : Ct} (h : EvT X e ρ μ R) (k : ∀ d μ', R d μ' → R' d μ') : EvT X e ρ μ R' :=
  PTw h fun σ H Q ⟨α, E, q⟩ => ⟨α, E, fun v α' μ' H' r => q v α' μ' H' (k _ _ r)⟩
/-- an expression that leaves all as it is -/
theorem Ev.still {R : Cn} {v : V} {d : DV} (h : PE X e (tC v)) (hv : ∀ w, Has w v d) (hR : R d μ) : Ev X e ρ μ R :=
  PEw h fun σ H Q ⟨α, E, q⟩ => q v d α μ H hR E E.live.refl (hv _)
theorem Ev.name {R : Cn} (i : Nat) {x : Str} {d : DV} (hN : X.N[i]? = some x) (hv : Vis X.env.scope x) (hr : ρ[i]? = some (some d)) (hR : R d μ) (hd : (x == ("__debug__" : Str)) = false := by decide) (hcd : (x == ("__classdict__" : Str)) = false := by decide) :
    Ev X (.Name x pos) ρ μ R := PEw (pe_var hN hv hd hcd) fun σ H Q ⟨α, E, q⟩ => by
  obtain ⟨v, h1, h2⟩ := E.at_ i d hr
  exact ⟨v, h1, q v d α μ H hR E E.live.refl h2⟩
theorem Ev.int {R : Cn} {i : Int} {j} (hR : R (.int i) μ) : Ev X (.Constant (.int i) j pos) ρ μ R := .still pe_int (fun _ => .int) hR
theorem Ev.bl {R : Cn} {i : Bool} {j} (hR : R (.bl i) μ) : Ev X (.Constant (.bool i) j pos) ρ μ R := .still pe_bl (fun _ => .bl) hR
theorem Ev.non {R : Cn} {j} (hR : R .non μ) : Ev X (.Constant .none j pos) ρ μ R := .still pe_non (fun _ => .non) hR
theorem Ev.str {R : Cn} {x : Str} {j} (hR : R (.str x) μ) : Ev X (.Constant (.str x) j pos) ρ μ R := .still pe_str (fun _ => .str) hR
/-- a module's constant -/
theorem Ev.glob {R : Cn} {x : Str} {v : V} {u : Value} {d : DV} (hg : Gl X x) (hm : X.mg x = some u) (r : RelV v u) (hv : ∀ α μ H, Has ⟨X.K, α, μ, H⟩ v d) (hR : R d μ) (hd : (x == ("__debug__" : Str)) = false := by decide) : Ev X (.Name x pos) ρ μ R :=
  PEw (pe_glob hg hm r hd) fun σ H Q ⟨α, E, q⟩ => q v d α μ H hR E E.live.refl (hv _ _ _)

/-! ### two places -/
abbrev S2 := DV → DV → List MO → Cn → Prop
def Stp (X : Cx) (ρ : RO) (w : Wd) (σ : L2.St) (R : Cn) (Q : VK) : Prop := ∀ v d α' μ' H', R d μ' → En ⟨X.K, α', μ', H'⟩ σ ρ → Kp w ⟨X.K, α', μ', H'⟩ → Has ⟨X.K, α', μ', H'⟩ v d → Q v H'
def R2S (X : Cx) (r : R2) (S : S2) : Prop := ∀ (α : List Addr) (μ : List MO) (H : Hp) (σ : L2.St) (ρ : RO) (x y : V) (da db : DV) (R : Cn) (Q : VK), En ⟨X.K, α, μ, H⟩ σ ρ → Has ⟨X.K, α, μ, H⟩ x da → Has ⟨X.K, α, μ, H⟩ y db → S da db μ R → Stp X ρ ⟨X.K, α, μ, H⟩ σ R Q → r x y H Q
theorem tOp_S {r : R2} {S : S2} {R : Cn} (k : R2S X r S) (h : Ev X a ρ μ fun da μ1 => Ev X b ρ μ1 fun db μ2 => S da db μ2 R) (σ : L2.St) (H : Hp) (Q : VK) (q : tEv X ρ μ R σ H Q) : tOp r (aE X a) (aE X b) σ H Q := by
  obtain ⟨α, E, q⟩ := q
  exact ⟨_, h, α, E, fun x da α1 μ1 H1 h1 E1 X1 hx => ⟨_, h1, α1, E1, fun y db α2 μ2 H2 h2 E2 X2 hy =>
    k α2 μ2 H2 σ ρ x y da db R Q E2 (X2.has hx) hy h2 fun v d α' μ' H' r' E' X' hv => q v d α' μ' H' r' E' (X1.trans (X2.trans X')) hv⟩⟩
theorem Ev.op {op : Operator} {R : Cn} {r : R2} {S : S2} (hr : OpR X (binaryOp op) r) (k : R2S X r S) (h : Ev X a ρ μ fun da μ1 => Ev X b ρ μ1 fun db μ2 => S da db μ2 R) : Ev X (.BinOp a op b pos) ρ μ R :=
  PEw (pe_op hr pe_a pe_a) (tOp_S k h)
theorem Ev.cmp {op : CmpOp} {R : Cn} {r : R2} {S : S2} (hr : OpR X (compareOp op) r) (k : R2S X r S) (hm : behindInMarks op b = false) (h : Ev X a ρ μ fun da μ1 => Ev X b ρ μ1 fun db μ2 => S da db μ2 R) : Ev X (.Compare a [op] [b] pos) ρ μ R :=
  PEw (pe_cmpR hr pe_a pe_a hm) (tOp_S k h)
theorem Ev.ix {R : Cn} {r : R2} {S : S2} (hr : IxR X r) (k : R2S X r S) (hs : PlainIx b) (h : Ev X a ρ μ fun da μ1 => Ev X b ρ μ1 fun db μ2 => S da db μ2 R) : Ev X (.Subscript a b pos) ρ μ R :=
  PEw (pe_ix hr pe_a pe_a hs) (tOp_S k h)
/-! ### the steps -/
theorem Stp.sc {α : List Addr} {H : Hp} {σ : L2.St} {R : Cn} {Q : VK} (E : En ⟨X.K, α, μ, H⟩ σ ρ) (q : Stp X ρ ⟨X.K, α, μ, H⟩ σ R Q) {v : V} {d : DV} (hR : R d μ) (hv : Has ⟨X.K, α, μ, H⟩ v d) : Q v H := q v d α μ H hR E E.live.refl hv
def sI (C : Int → Int → Prop) (g : Int → Int → DV) : S2 := fun x y μ R => ∃ i j, x = .int i ∧ y = .int j ∧ C i j ∧ R (g i j) μ
def sI0 (g : Int → Int → DV) : S2 := fun x y μ R => ∃ i j, x = .int i ∧ y = .int j ∧ R (g i j) μ
theorem rI_S {C : Int → Int → Prop} {g : Int → Int → V} {g' : Int → Int → DV} (hg : ∀ w i j, Has w (g i j) (g' i j)) : R2S X (rI C g) (sI C g') := fun α μ H σ ρ x y da db R Q E hx hy h q => by
  obtain ⟨i, j, rfl, rfl, c, hR⟩ := h
  cases hx
  cases hy
  exact ⟨i, j, rfl, rfl, c, q.sc E hR (hg _ _ _)⟩
theorem rI0_S {g : Int → Int → V} {g' : Int → Int → DV} (hg : ∀ w i j, Has w (g i j) (g' i j)) : R2S X (rI0 g) (sI0 g') := fun α μ H σ ρ x y da db R Q E hx hy h q => by
  obtain ⟨i, j, rfl, rfl, hR⟩ := h
  cases hx
  cases hy
  exact ⟨i, j, rfl, rfl, q.sc E hR (hg _ _ _)⟩
def sAdd : S2 := fun x y μ R => ∃ i j, x = .int i ∧ y = .int j ∧ R (.int (i + j)) μ
def sSub : S2 := fun x y μ R => ∃ i j, x = .int i ∧ y = .int j ∧ R (.int (i - j)) μ
def sMul : S2 := fun x y μ R => ∃ i j, x = .int i ∧ y = .int j ∧ CMulW i j ∧ R (.int (i * j)) μ
def sMod : S2 := fun x y μ R => ∃ i j, x = .int i ∧ y = .int j ∧ j ≠ 0 ∧ R (.int (i.fmod j)) μ
def sDiv : S2 := fun x y μ R => ∃ i j, x = .int i ∧ y = .int j ∧ CDivW i j ∧ R (.int (i / j)) μ
def sPow : S2 := fun x y μ R => ∃ i j, x = .int i ∧ y = .int j ∧ CPow i j ∧ R (.int (i ^ j.toNat)) μ
def sLt : S2 := fun x y μ R => ∃ i j, x = .int i ∧ y = .int j ∧ R (.bl (decide (i < j))) μ
def sLe : S2 := fun x y μ R => ∃ i j, x = .int i ∧ y = .int j ∧ R (.bl (decide (i ≤ j))) μ
def sGt : S2 := fun x y μ R => ∃ i j, x = .int i ∧ y = .int j ∧ R (.bl (decide (j < i))) μ
def sGe : S2 := fun x y μ R => ∃ i j, x = .int i ∧ y = .int j ∧ R (.bl (decide (j ≤ i))) μ
theorem Ev.sub {R : Cn} (h : Ev X a ρ μ fun da μ1 => Ev X b ρ μ1 fun db μ2 => sSub da db μ2 R) : Ev X (.BinOp a .Sub b pos) ρ μ R := .op op_sub (rI0_S fun _ _ _ => .int) h
theorem Ev.addI {R : Cn} (h : Ev X a ρ μ fun da μ1 => Ev X b ρ μ1 fun db μ2 => sAdd da db μ2 R) : Ev X (.BinOp a .Add b pos) ρ μ R := .op op_add (rI0_S fun _ _ _ => .int) h
theorem Ev.mul {R : Cn} (h : Ev X a ρ μ fun da μ1 => Ev X b ρ μ1 fun db μ2 => sMul da db μ2 R) : Ev X (.BinOp a .Mult b pos) ρ μ R := .op op_mulW (rI_S fun _ _ _ => .int) h
theorem Ev.mod {R : Cn} (h : Ev X a ρ μ fun da μ1 => Ev X b ρ μ1 fun db μ2 => sMod da db μ2 R) : Ev X (.BinOp a .Mod b pos) ρ μ R := .op op_modN (rI_S fun _ _ _ => .int) h
theorem Ev.fdiv {R : Cn} (h : Ev X a ρ μ fun da μ1 => Ev X b ρ μ1 fun db μ2 => sDiv da db μ2 R) : Ev X (.BinOp a .FloorDiv b pos) ρ μ R := .op op_fdivW (rI_S fun _ _ _ => .int) h
theorem Ev.pow {R : Cn} (h : Ev X a ρ μ fun da μ1 => Ev X b ρ μ1 fun db μ2 => sPow da db μ2 R) : Ev X (.BinOp a .Pow b pos) ρ μ R := .op op_pow (rI_S fun _ _ _ => .int) h
theorem Ev.lt {R : Cn} (h : Ev X a ρ μ fun da μ1 => Ev X b ρ μ1 fun db μ2 => sLt da db μ2 R) : Ev X (.Compare a [.Lt] [b] pos) ρ μ R := .cmp op_lt (rI0_S fun _ _ _ => .bl) (nomark _) h
theorem Ev.le {R : Cn} (h : Ev X a ρ μ fun da μ1 => Ev X b ρ μ1 fun db μ2 => sLe da db μ2 R) : Ev X (.Compare a [.LtE] [b] pos) ρ μ R := .cmp op_le (rI0_S fun _ _ _ => .bl) (nomark _) h
theorem Ev.gt {R : Cn} (h : Ev X a ρ μ fun da μ1 => Ev X b ρ μ1 fun db μ2 => sGt da db μ2 R) : Ev X (.Compare a [.Gt] [b] pos) ρ μ R := .cmp op_gt (rI0_S fun _ _ _ => .bl) (nomark _) h
theorem Ev.ge {R : Cn} (h : Ev X a ρ μ fun da μ1 => Ev X b ρ μ1 fun db μ2 => sGe da db μ2 R) : Ev X (.Compare a [.GtE] [b] pos) ρ μ R := .cmp op_ge (rI0_S fun _ _ _ => .bl) (nomark _) h
/-- == of flat things -/
def DV.flat : DV → Option V
  | .non => some .non
  | .bl b => some (.bl b)
  | .int i => some (.int i)
  | .str x => some (.str x)
  | _ => none
theorem flat_has {w : Wd} {v z : V} {d : DV} (h : Has w v d) (e : DV.flat d = some z) : v = z := by
  cases h <;> (first | (cases e; rfl) | (cases e))
def sEq : S2 := fun x y μ R => ∃ u v, DV.flat x = some u ∧ DV.flat y = some v ∧ scal u v = true ∧ R (.bl (decide (u = v))) μ
def sNe : S2 := fun x y μ R => ∃ u v, DV.flat x = some u ∧ DV.flat y = some v ∧ scal u v = true ∧ R (.bl (!decide (u = v))) μ
theorem rEq_S : R2S X rEq sEq := fun α μ H σ ρ x y da db R Q E hx hy h q => by
  obtain ⟨u, v, e1, e2, c, hR⟩ := h
  cases flat_has hx e1
  cases flat_has hy e2
  exact ⟨c, q.sc E hR .bl⟩
theorem rNe_S : R2S X rNe sNe := fun α μ H σ ρ x y da db R Q E hx hy h q => by
  obtain ⟨u, v, e1, e2, c, hR⟩ := h
  cases flat_has hx e1
  cases flat_has hy e2
  exact ⟨c, q.sc E hR .bl⟩
theorem Ev.eq {R : Cn} (h : Ev X a ρ μ fun da μ1 => Ev X b ρ μ1 fun db μ2 => sEq da db μ2 R) : Ev X (.Compare a [.Eq] [b] pos) ρ μ R := .cmp op_eq rEq_S (nomark _) h
theorem Ev.ne {R : Cn} (h : Ev X a ρ μ fun da μ1 => Ev X b ρ μ1 fun db μ2 => sNe da db μ2 R) : Ev X (.Compare a [.NotEq] [b] pos) ρ μ R := .cmp op_ne rNe_S (nomark _) h
end
end
end Eg

namespace Eg
open PySem PySem.Spec L2
theorem HasL.length {w : Wd} : ∀ {vs : List V} {ds : List DV}, HasL w vs ds → vs.length = ds.length
  | _, _, .nil => rfl
  | _, _, .cons _ t => by rw [List.length_cons, List.length_cons, HasL.length t]
theorem HasL.get {w : Wd} : ∀ {vs : List V} {ds : List DV} {i : Nat} {d : DV}, HasL w vs ds → ds[i]? = some d → ∃ v, vs[i]? = some v ∧ Has w v d
  | _, _, i, d, .nil, e => by simp at e
  | _, _, 0, d, .cons h _, e => by simp at e; subst e; exact ⟨_, rfl, h⟩
  | _, _, i + 1, d, .cons _ t, e => by
    obtain ⟨v, h1, h2⟩ := HasL.get (i := i) t (by simpa using e)
    exact ⟨v, by simpa using h1, h2⟩
theorem HasL.gett {w : Wd} : ∀ {vs : List V} {ds : List DV} {i : Nat} {v : V}, HasL w vs ds → vs[i]? = some v → ∃ d, ds[i]? = some d ∧ Has w v d
  | _, _, i, d, .nil, e => by simp at e
  | _, _, 0, d, .cons h _, e => by simp at e; subst e; exact ⟨_, rfl, h⟩
  | _, _, i + 1, d, .cons _ t, e => by
    obtain ⟨v, h1, h2⟩ := HasL.gett (i := i) t (by simpa using e)
    exact ⟨v, by simpa using h1, h2⟩
theorem HasL.app {w : Wd} : ∀ {vs us : List V} {ds es : List DV}, HasL w vs ds → HasL w us es → HasL w (vs ++ us) (ds ++ es)
  | _, _, _, _, .nil, s => s
  | _, _, _, _, .cons h t, s => .cons h (HasL.app t s)
theorem HasL.take {w : Wd} : ∀ {vs : List V} {ds : List DV} (n : Nat), HasL w vs ds → HasL w (vs.take n) (ds.take n)
  | _, _, 0, _ => .nil
  | _, _, _ + 1, .nil => .nil
  | _, _, n + 1, .cons h t => .cons h (HasL.take n t)
theorem HasL.drop {w : Wd} : ∀ {vs : List V} {ds : List DV} (n : Nat), HasL w vs ds → HasL w (vs.drop n) (ds.drop n)
  | _, _, 0, r => r
  | _, _, _ + 1, .nil => .nil
  | _, _, n + 1, .cons _ t => HasL.drop n t
theorem HasL.set {w : Wd} {v : V} {d : DV} (h : Has w v d) : ∀ {vs : List V} {ds : List DV} (i : Nat), HasL w vs ds → HasL w (vs.set i v) (ds.set i d)
  | _, _, _, .nil => .nil
  | _, _, 0, .cons _ t => .cons h t
  | _, _, i + 1, .cons q t => .cons q (HasL.set h i t)
/-- the items of what is read as a list or a tuple -/
def itemsD (μ : List MO) : DV → Option (List DV)
  | .tup ds => some ds
  | .lst ds => some ds
  | .mu k => match μ[k]? with
    | some (.lst ds) => some ds
    | _ => none
  | _ => none
section
variable {X : Cx} {e a b c : Expr} {es : List Expr} {ρ : RO} {μ : List MO} {pos : Pos}
/-- what is read as a list or tuple -/
theorem seq_of {w : Wd} {v : V} {d : DV} {ds : List DV} (l : Live w) (h : Has w v d) (e : itemsD w.μ d = some ds) : ∃ p vs, v = .ref p ∧ HasL w vs ds ∧ (SqL w.K w.H p vs ∨ SqT w.K w.H p vs) := by
  cases h with
  | tup h1 t => cases e; exact ⟨_, _, rfl, t, .inr h1⟩
  | lst r t =>
    cases e
    rcases r with ⟨_, r⟩ | r
    · exact ⟨_, _, rfl, t, .inl (.inl r)⟩
    · exact ⟨_, _, rfl, t, .inl r.sq⟩
  | @mu k a h1 =>
    have e' : (match w.μ[k]? with | some (.lst ds) => some ds | _ => none) = some ds := e
    split at e'
    · rename_i ds' hk
      cases e'
      obtain ⟨vs, q1, q2⟩ := l.ob k a _ h1 hk
      exact ⟨a, vs, rfl, q2, .inl (.of q1)⟩
    · cases e'
  | _ => cases e
def sIx : S2 := fun x y μ R => (∃ ds i d, itemsD μ x = some ds ∧ y = .int i ∧ atI ds i = some d ∧ R d μ) ∨ ∃ z i c, x = .str z ∧ y = .int i ∧ z.length ≤ sizeLine ∧ atI z.cps.toList i = some c ∧ R (.str ⟨#[c]⟩) μ
theorem at_has {w : Wd} {vs : List V} {ds : List DV} {i : Int} {d : DV} (h : HasL w vs ds) (e : atI ds i = some d) : ∃ v, atI vs i = some v ∧ Has w v d := by
  unfold atI at e ⊢
  rw [h.length]
  cases q : ixN ds.length i with
  | none => rw [q] at e; cases e
  | some j =>
    rw [q] at e
    exact h.get e
theorem rIx_S : R2S X (rIx X.K) sIx := fun α μ H σ ρ x y da db R Q E hx hy h q => by
  rcases h with ⟨ds, i, d, h1, rfl, h2, hR⟩ | ⟨z, i, c, rfl, rfl, h1, h2, hR⟩
  · obtain ⟨p, vs, rfl, hl, s⟩ := seq_of E.live hx h1
    cases hy
    obtain ⟨v, e1, e2⟩ := at_has hl h2
    rcases s with s | s
    · exact .inl ⟨p, vs, i, v, rfl, rfl, s, e1, q.sc E hR e2⟩
    · exact .inr (.inl ⟨p, vs, i, v, rfl, rfl, s, e1, q.sc E hR e2⟩)
  · cases hx
    cases hy
    exact .inr (.inr ⟨z, i, c, rfl, rfl, h1, h2, q.sc E hR .str⟩)
theorem Ev.at {R : Cn} (h : Ev X a ρ μ fun da μ1 => Ev X b ρ μ1 fun db μ2 => sIx da db μ2 R) (hs : PlainIx b := by intro _ _; rfl) : Ev X (.Subscript a b pos) ρ μ R := .ix ix_seq rIx_S hs h
/-! ### arguments -/
theorem EvA.nil {R : Ca} (h : R [] μ) : EvA X [] ρ μ R := PAw pa_nil fun σ H Q ⟨α, E, q⟩ => q [] [] α μ H h E E.live.refl .nil
theorem EvA.cons {R : Ca} (h : Ev X e ρ μ fun d μ1 => EvA X es ρ μ1 fun ds μ2 => R (d :: ds) μ2) (hs : starEach (e :: es) X.env = (false, eval e X.env) :: starEach es X.env := by rfl) : EvA X (e :: es) ρ μ R :=
  PAw (pa_cons pe_a pa_a hs) fun σ H Q ⟨α, E, q⟩ => ⟨_, h, α, E, fun v d α1 μ1 H1 h1 E1 X1 hv => ⟨_, h1, α1, E1, fun vs ds α2 μ2 H2 h2 E2 X2 hvs => q _ _ α2 μ2 H2 h2 E2 (X1.trans X2) (.cons (X2.has hv) hvs)⟩⟩
/-! ### displays -/
theorem Ev.tup {R : Cn} {x1} (h : EvA X es ρ μ fun ds μ1 => ds.length ≤ sizeLine ∧ R (.tup ds) μ1) : Ev X (.Tuple es x1 pos) ρ μ R :=
  PEw (pe_tup pa_a) fun σ H Q ⟨α, E, q⟩ => ⟨_, h, α, E, fun vs ds α1 μ1 H1 ⟨h0, h1⟩ E1 X1 hv => ⟨by rw [hv.length]; exact h0, fun p np => by
    obtain ⟨k, l⟩ := E1.live.lay (o := .tup vs) np
    exact q _ _ α1 μ1 _ h1 (E1.ext k l) (X1.trans k) (.tup (.of upd_same) (k.hasL hv))⟩⟩
theorem Ev.lst {R : Cn} (h : EvA X es ρ μ fun ds μ1 => ds.length ≤ sizeLine ∧ R (.lst ds) μ1) : Ev X (.List es pos) ρ μ R :=
  PEw (pe_lst pa_a) fun σ H Q ⟨α, E, q⟩ => ⟨_, h, α, E, fun vs ds α1 μ1 H1 ⟨h0, h1⟩ E1 X1 hv => ⟨by rw [hv.length]; exact h0, fun p np => by
    obtain ⟨k, l⟩ := E1.live.lay (o := .lst vs) np
    exact q _ _ α1 μ1 _ h1 (E1.ext k l) (X1.trans k) (.lst (.inl ⟨E1.live.fresh np, .inl upd_same⟩) (k.hasL hv))⟩⟩
theorem Ev.lstM {R : Cn} (h : EvA X es ρ μ fun ds μ1 => ds.length ≤ sizeLine ∧ R (.mu μ1.length) (μ1 ++ [.lst ds])) : Ev X (.List es pos) ρ μ R :=
  PEw (pe_lst pa_a) fun σ H Q ⟨α, E, q⟩ => ⟨_, h, α, E, fun vs ds α1 μ1 H1 ⟨h0, h1⟩ E1 X1 hv => ⟨by rw [hv.length]; exact h0, fun p np => by
    obtain ⟨k, l, e⟩ := E1.live.layM (o := .lst vs) (m := .lst ds) np (fun _ k => ⟨vs, upd_same, k.hasL hv⟩)
    exact q _ _ _ _ _ h1 (E1.ext k l) (X1.trans k) (.mu e)⟩⟩
theorem Ev.dic0 {R : Cn} (h : R (.dic []) μ) : Ev X (.Dict [] [] pos) ρ μ R :=
  PEw pe_dnewK fun σ H Q ⟨α, E, q⟩ => fun p np => by
    obtain ⟨k, l⟩ := E.live.lay (o := .dK []) np
    exact q _ _ α μ _ h (E.ext k l) k (.dic (E.live.fresh np) upd_same .nil)
theorem Ev.dic0M {R : Cn} (h : R (.mu μ.length) (μ ++ [.dic []])) : Ev X (.Dict [] [] pos) ρ μ R :=
  PEw pe_dnewK fun σ H Q ⟨α, E, q⟩ => fun p np => by
    obtain ⟨k, l, e⟩ := E.live.layM (o := .dK []) (m := .dic []) np (fun _ k => ⟨[], upd_same, .nil⟩)
    exact q _ _ _ _ _ h (E.ext k l) k (.mu e)
/-! ### calls of built-ins by values -/
abbrev SA := List DV → List MO → Cn → Prop
def RaS (X : Cx) (r : List V → Hp → VK → Prop) (S : SA) : Prop := ∀ (α : List Addr) (μ : List MO) (H : Hp) (σ : L2.St) (ρ : RO) (vs : List V) (ds : List DV) (R : Cn) (Q : VK), En ⟨X.K, α, μ, H⟩ σ ρ → HasL ⟨X.K, α, μ, H⟩ vs ds → S ds μ R → Stp X ρ ⟨X.K, α, μ, H⟩ σ R Q → r vs H Q
theorem tCB_S {r : List V → Hp → VK → Prop} {S : SA} {R : Cn} (k : RaS X r S) (h : EvA X es ρ μ fun ds μ1 => S ds μ1 R) (σ : L2.St) (H : Hp) (Q : VK) (q : tEv X ρ μ R σ H Q) : tCB r (aA X es) σ H Q := by
  obtain ⟨α, E, q⟩ := q
  exact ⟨_, h, α, E, fun vs ds α1 μ1 H1 h1 E1 X1 hv => k α1 μ1 H1 σ ρ vs ds R Q E1 hv h1 fun v d α' μ' H' r' E' X' hv => q v d α' μ' H' r' E' (X1.trans X') hv⟩
theorem Ev.callB {R : Cn} {x : Str} {p : Pos} {id : String} {r : List V → Hp → VK → Prop} {S : SA} (hc : CallR X (.builtin id) r) (k : RaS X r S) (hg : Gl X x) (hm : X.mg x = none) (hv : bootBuiltins x = some (.builtin id)) (h : EvA X (e :: es) ρ μ fun ds μ1 => S ds μ1 R) (hn : x ≠ "__name__" := by decide) (hdb : (x == ("__debug__" : Str)) = false := by decide)
    (he : starEach (e :: es) X.env = (false, eval e X.env) :: starEach es X.env := by rfl) (hpl : (backTo pos (starEach es X.env)).any (·.1) = false := by rfl) : Ev X (.Call (.Name x p) (e :: es) [] pos) ρ μ R := PEw (pe_callB hc hg hm hv pa_a hn hdb he hpl) (tCB_S k h)
theorem Ev.callTy {R : Cn} {x : Str} {p : Pos} {T : String} {r : List V → Hp → VK → Prop} {S : SA} (hc : CallR X (.type T) r) (k : RaS X r S) (hg : Gl X x) (hm : X.mg x = none) (hv : bootBuiltins x = some (.type T)) (h : EvA X (e :: es) ρ μ fun ds μ1 => S ds μ1 R) (hn : x ≠ "__name__" := by decide) (hdb : (x == ("__debug__" : Str)) = false := by decide)
    (he : starEach (e :: es) X.env = (false, eval e X.env) :: starEach es X.env := by rfl) (hpl : (backTo pos (starEach es X.env)).any (·.1) = false := by rfl) : Ev X (.Call (.Name x p) (e :: es) [] pos) ρ μ R := PEw (pe_callTy hc hg hm hv pa_a hn hdb he hpl) (tCB_S k h)
def lenD (μ : List MO) (d : DV) : Option Nat := match d with
  | .str y => if y.length ≤ sizeLine then some y.length else none
  | d => (itemsD μ d).map List.length
theorem hasL1 {w : Wd} {vs : List V} {d : DV} (h : HasL w vs [d]) : ∃ v, vs = [v] ∧ Has w v d := by
  cases h with
  | cons h t => cases t; exact ⟨_, rfl, h⟩
theorem hasL2 {w : Wd} {vs : List V} {d e : DV} (h : HasL w vs [d, e]) : ∃ v u, vs = [v, u] ∧ Has w v d ∧ Has w u e := by
  cases h with
  | cons h t =>
    obtain ⟨u, rfl, h2⟩ := hasL1 t
    exact ⟨_, u, rfl, h, h2⟩
def sLen : SA := fun ds μ R => ∃ d n, ds = [d] ∧ lenD μ d = some n ∧ R (.int n) μ
theorem len_S : RaS X (fun xs H Q => ∃ x n, xs = [x] ∧ LenV X.K x H n ∧ Q (.int n) H) sLen := fun α μ H σ ρ vs ds R Q E hv h q => by
  obtain ⟨d, n, rfl, e, hR⟩ := h
  obtain ⟨v, rfl, hw⟩ := hasL1 hv
  clear hv
  have hv := hw
  refine ⟨v, n, rfl, ?_, q.sc E hR .int⟩
  have gen : (itemsD μ d).map List.length = some n → LenV X.K v H n := fun e => by
    obtain ⟨ds, e1, e2⟩ := Option.map_eq_some_iff.mp e
    obtain ⟨p, vs, rfl, hl, s⟩ := seq_of E.live hv e1
    rcases s with s | s
    · exact .inl ⟨vs, s, by rw [hl.length, e2]⟩
    · exact .inr ⟨vs, s, by rw [hl.length, e2]⟩
  cases d with
  | str y =>
    cases hv
    unfold lenD at e
    dsimp only at e
    split at e
    · rename_i hz
      show y.length ≤ sizeLine ∧ n = y.length
      exact ⟨hz, (Option.some.inj e).symm⟩
    · cases e
  | _ => exact gen e
theorem Ev.len {R : Cn} {p : Pos} (hg : Gl X "len") (hm : X.mg "len" = none) (h : EvA X [e] ρ μ fun ds μ1 => sLen ds μ1 R) (he : starEach [e] X.env = (false, eval e X.env) :: starEach [] X.env := by rfl) :
    Ev X (.Call (.Name "len" p) [e] [] pos) ρ μ R := .callB call_len len_S hg hm boot_len h (by decide) (by decide) he rfl
def sInt : SA := fun ds μ R => (∃ i, ds = [.int i] ∧ R (.int i) μ) ∨ ∃ k, ds = [.bl k] ∧ R (.int (if k then 1 else 0)) μ
theorem int_S : RaS X (fun xs H Q => (∃ i, xs = [.int i] ∧ Q (.int i) H) ∨ ∃ k, xs = [.bl k] ∧ Q (.int (if k then 1 else 0)) H) sInt := fun α μ H σ ρ vs ds R Q E hv h q => by
  rcases h with ⟨i, rfl, hR⟩ | ⟨i, rfl, hR⟩
  · obtain ⟨v, rfl, hw⟩ := hasL1 hv
    clear hv
    have hv := hw
    cases hv
    exact .inl ⟨i, rfl, q.sc E hR .int⟩
  · obtain ⟨v, rfl, hw⟩ := hasL1 hv
    clear hv
    have hv := hw
    cases hv
    exact .inr ⟨i, rfl, q.sc E hR .int⟩
theorem Ev.toInt {R : Cn} {p : Pos} (hg : Gl X "int") (hm : X.mg "int" = none) (h : EvA X [e] ρ μ fun ds μ1 => sInt ds μ1 R) (he : starEach [e] X.env = (false, eval e X.env) :: starEach [] X.env := by rfl) :
    Ev X (.Call (.Name "int" p) [e] [] pos) ρ μ R := .callTy call_int1 int_S hg hm PyProof.Rows.boot_int h (by decide) (by decide) he rfl
def sAbs : SA := fun ds μ R => ∃ i, ds = [.int i] ∧ R (.int (if i < 0 then -i else i)) μ
theorem abs_S : RaS X (fun xs H Q => ∃ i, xs = [.int i] ∧ Q (.int (if i < 0 then -i else i)) H) sAbs := fun α μ H σ ρ vs ds R Q E hv h q => by
  obtain ⟨i, rfl, hR⟩ := h
  obtain ⟨v, rfl, hw⟩ := hasL1 hv
  clear hv
  have hv := hw
  cases hv
  exact ⟨i, rfl, q.sc E hR .int⟩
theorem Ev.abs {R : Cn} {p : Pos} (hg : Gl X "abs") (hm : X.mg "abs" = none) (h : EvA X [e] ρ μ fun ds μ1 => sAbs ds μ1 R) (he : starEach [e] X.env = (false, eval e X.env) :: starEach [] X.env := by rfl) :
    Ev X (.Call (.Name "abs" p) [e] [] pos) ρ μ R := .callB call_abs abs_S hg hm PyProof.Rows.boot_abs h (by decide) (by decide) he rfl
def sMM (g : Int → Int → Int) : SA := fun ds μ R => ∃ i j, ds = [.int i, .int j] ∧ R (.int (g i j)) μ
theorem mm_S {g : Int → Int → Int} : RaS X (fun xs H Q => ∃ i j, xs = [.int i, .int j] ∧ Q (.int (g i j)) H) (sMM g) := fun α μ H σ ρ vs ds R Q E hv h q => by
  obtain ⟨i, j, rfl, hR⟩ := h
  obtain ⟨v, u, rfl, hw, hu⟩ := hasL2 hv
  clear hv
  have hv := hw
  cases hv
  cases hu
  exact ⟨i, j, rfl, q.sc E hR .int⟩
theorem Ev.max2 {R : Cn} {p : Pos} (hc : X.calm = true) (hg : Gl X "max") (hm : X.mg "max" = none) (h : EvA X [a, b] ρ μ fun ds μ1 => sMM (fun i j => if j > i then j else i) ds μ1 R) (he : starEach [a, b] X.env = (false, eval a X.env) :: starEach [b] X.env := by rfl) (hpl : (backTo pos (starEach [b] X.env)).any (·.1) = false := by rfl) :
    Ev X (.Call (.Name "max" p) [a, b] [] pos) ρ μ R := .callB (call_max2 hc) mm_S hg hm PyProof.Rows.boot_max h (by decide) (by decide) he hpl
theorem Ev.min2 {R : Cn} {p : Pos} (hc : X.calm = true) (hg : Gl X "min") (hm : X.mg "min" = none) (h : EvA X [a, b] ρ μ fun ds μ1 => sMM (fun i j => if j < i then j else i) ds μ1 R) (he : starEach [a, b] X.env = (false, eval a X.env) :: starEach [b] X.env := by rfl) (hpl : (backTo pos (starEach [b] X.env)).any (·.1) = false := by rfl) :
    Ev X (.Call (.Name "min" p) [a, b] [] pos) ρ μ R := .callB (call_min2 hc) mm_S hg hm PyProof.Rows.boot_min h (by decide) (by decide) he hpl
def sDivmod : SA := fun ds μ R => ∃ i j, ds = [.int i, .int j] ∧ CDiv i j ∧ R (.tup [.int (i / j), .int (i % j)]) μ
theorem divmod_S : RaS X (fun xs H Q => ∃ i j, xs = [.int i, .int j] ∧ CDiv i j ∧ ∀ p, H p = none → Q (.ref p) (upd H p (.tup [.int (i / j), .int (i % j)]))) sDivmod := fun α μ H σ ρ vs ds R Q E hv h q => by
  obtain ⟨i, j, rfl, c, hR⟩ := h
  obtain ⟨v, u, rfl, hw, hu⟩ := hasL2 hv
  clear hv
  have hv := hw
  cases hv
  cases hu
  refine ⟨i, j, rfl, c, fun p np => ?_⟩
  obtain ⟨k, l⟩ := E.live.lay (o := .tup [.int (i / j), .int (i % j)]) np
  exact q _ _ α μ _ hR (E.ext k l) k (.tup (.of upd_same) (.cons .int (.cons .int .nil)))
theorem Ev.divmod {R : Cn} {p : Pos} (hg : Gl X "divmod") (hm : X.mg "divmod" = none) (h : EvA X [a, b] ρ μ fun ds μ1 => sDivmod ds μ1 R) (he : starEach [a, b] X.env = (false, eval a X.env) :: starEach [b] X.env := by rfl) (hpl : (backTo pos (starEach [b] X.env)).any (·.1) = false := by rfl) :
    Ev X (.Call (.Name "divmod" p) [a, b] [] pos) ρ μ R := .callB call_divmod divmod_S hg hm PyProof.Rows.boot_divmod h (by decide) (by decide) he hpl
/-- tuple(xs) -/
def sTuple : SA := fun ds μ R => ∃ d xs, ds = [d] ∧ itemsD μ d = some xs ∧ R (.tup xs) μ
theorem tuple_S : RaS X (fun xs H Q => ∃ p ys, xs = [.ref p] ∧ ((SqL X.K H p ys ∧ ∀ l, H l = none → Q (.ref l) (upd H l (.tup ys))) ∨ (SqT X.K H p ys ∧ Q (.ref p) H))) sTuple := fun α μ H σ ρ vs ds R Q E hv h q => by
  obtain ⟨d, xs, rfl, e, hR⟩ := h
  obtain ⟨v, rfl, hw⟩ := hasL1 hv
  clear hv
  have hv := hw
  obtain ⟨p, vs, rfl, hl, s⟩ := seq_of E.live hv e
  refine ⟨p, vs, rfl, ?_⟩
  rcases s with s | s
  · refine .inl ⟨s, fun l nl => ?_⟩
    obtain ⟨k, l⟩ := E.live.lay (o := .tup vs) nl
    exact q _ _ α μ _ hR (E.ext k l) k (.tup (.of upd_same) (k.hasL hl))
  · exact .inr ⟨s, q.sc E hR (.tup s hl)⟩
theorem Ev.tuple {R : Cn} {p : Pos} (hg : Gl X "tuple") (hm : X.mg "tuple" = none) (h : EvA X [e] ρ μ fun ds μ1 => sTuple ds μ1 R) (he : starEach [e] X.env = (false, eval e X.env) :: starEach [] X.env := by rfl) :
    Ev X (.Call (.Name "tuple" p) [e] [] pos) ρ μ R := .callTy call_tuple_of tuple_S hg hm PyProof.Rows.boot_tuple h (by decide) (by decide) he rfl
/-- all of a list of truths -/
def blD : DV → Option Bool
  | .bl b => some b
  | _ => none
theorem bls_has {w : Wd} : ∀ {vs : List V} {bs : List Bool}, HasL w vs (bs.map DV.bl) → vs = bs.map V.bl
  | _, [], .nil => rfl
  | _, b :: bs, .cons h t => by
    cases h
    rw [List.map_cons, bls_has t]
def sAll : SA := fun ds μ R => ∃ d bs, ds = [d] ∧ itemsD μ d = some (List.map DV.bl bs) ∧ (∀ xs, d ≠ .tup xs) ∧ R (.bl (bs.all id)) μ
theorem all_S : RaS X (rAll X.K) sAll := fun α μ H σ ρ vs ds R Q E hv h q => by
  obtain ⟨d, bs, rfl, e, nt, hR⟩ := h
  obtain ⟨v, rfl, hw⟩ := hasL1 hv
  clear hv
  have hv := hw
  have : ∃ p vs, v = .ref p ∧ HasL ⟨X.K, α, μ, H⟩ vs (bs.map DV.bl) ∧ SqL X.K H p vs := by
    cases hv with
    | tup h1 t => exact absurd rfl (nt _)
    | lst r t =>
      cases e
      rcases r with ⟨_, r⟩ | r
      · exact ⟨_, _, rfl, t, .inl r⟩
      · exact ⟨_, _, rfl, t, r.sq⟩
    | @mu k a h1 =>
      have e' : (match μ[k]? with | some (.lst ds) => some ds | _ => none) = some (List.map DV.bl bs) := e
      split at e'
      · rename_i ds' hk
        cases e'
        obtain ⟨vs, q1, q2⟩ := E.live.ob k a _ h1 hk
        exact ⟨a, vs, rfl, q2, .of q1⟩
      · cases e'
    | _ => cases e
  obtain ⟨p, vs, rfl, hl, s⟩ := this
  have ev := bls_has hl
  subst ev
  exact ⟨p, bs, rfl, s, q.sc E hR .bl⟩
theorem Ev.all {R : Cn} {p : Pos} (hc : X.calm = true) (hg : Gl X "all") (hm : X.mg "all" = none) (h : EvA X [e] ρ μ fun ds μ1 => sAll ds μ1 R) (he : starEach [e] X.env = (false, eval e X.env) :: starEach [] X.env := by rfl) :
    Ev X (.Call (.Name "all" p) [e] [] pos) ρ μ R := .callB (cr_all hc) all_S hg hm PyProof.Rows.boot_all h (by decide) (by decide) he rfl
/-! ### tests -/
theorem EvT.val {R : Ct} (h : Ev X e ρ μ fun d μ1 => ∃ k, d = .bl k ∧ R k μ1) (he : ∀ whole, isTrue e X.env whole = (do let v ← whole; standAt e.pos; holding [v] (truthy v)) := by intro _; rfl) : EvT X e ρ μ R :=
  PTw (pt_val pe_a he) fun σ H Q ⟨α, E, q⟩ => ⟨_, h, α, E, fun v d α1 μ1 H1 ⟨k, e, h1⟩ E1 X1 hv => by
    subst e
    cases hv
    exact ⟨k, rfl, q k α1 μ1 H1 h1 E1 X1⟩⟩
theorem EvT.not {R : Ct} (h : EvT X a ρ μ fun b μ1 => R (!b) μ1) : EvT X (.UnaryOp .Not a pos) ρ μ R :=
  PTw (pt_not pt_a) fun σ H Q ⟨α, E, q⟩ => ⟨_, h, α, E, fun b α1 μ1 H1 h1 E1 X1 => q _ α1 μ1 H1 h1 E1 X1⟩
theorem EvT.w {R : Ct} (h : EvW X e ρ μ R) : EvT X e ρ μ R := PW.pt h
theorem EvW.and1 {R : Ct} (h : EvT X a ρ μ R) : EvW X (.BoolOp .And [a] pos) ρ μ R := pw_and1 h
theorem EvW.or1 {R : Ct} (h : EvT X a ρ μ R) : EvW X (.BoolOp .Or [a] pos) ρ μ R := pw_or1 h
theorem EvW.and {rest : List Expr} {R : Ct} (h : EvT X a ρ μ fun k μ1 => if k = true then EvW X (.BoolOp .And (b :: rest) pos) ρ μ1 R else R false μ1) : EvW X (.BoolOp .And (a :: b :: rest) pos) ρ μ R :=
  PWw (pw_and pt_a pw_a) fun σ H Q ⟨α, E, q⟩ => ⟨_, h, α, E, fun k α1 μ1 H1 h1 E1 X1 => by
    cases k with
    | true => exact iteT ⟨_, show EvW X (.BoolOp .And (b :: rest) pos) ρ μ1 R from h1, α1, E1, fun k2 α2 μ2 H2 h2 E2 X2 => q k2 α2 μ2 H2 h2 E2 (X1.trans X2)⟩
    | false => exact iteF (q false α1 μ1 H1 h1 E1 X1)⟩
theorem EvW.or {rest : List Expr} {R : Ct} (h : EvT X a ρ μ fun k μ1 => if k = true then R true μ1 else EvW X (.BoolOp .Or (b :: rest) pos) ρ μ1 R) : EvW X (.BoolOp .Or (a :: b :: rest) pos) ρ μ R :=
  PWw (pw_or pt_a pw_a) fun σ H Q ⟨α, E, q⟩ => ⟨_, h, α, E, fun k α1 μ1 H1 h1 E1 X1 => by
    cases k with
    | true => exact iteT (q true α1 μ1 H1 h1 E1 X1)
    | false => exact iteF ⟨_, show EvW X (.BoolOp .Or (b :: rest) pos) ρ μ1 R from h1, α1, E1, fun k2 α2 μ2 H2 h2 E2 X2 => q k2 α2 μ2 H2 h2 E2 (X1.trans X2)⟩⟩
theorem Ev.ifE {R : Cn} (h : EvT X c ρ μ fun k μ1 => if k = true then Ev X a ρ μ1 R else Ev X b ρ μ1 R) : Ev X (.IfExp c a b pos) ρ μ R :=
  PEw (pe_ifExp pt_a pe_a pe_a) fun σ H Q ⟨α, E, q⟩ => ⟨_, h, α, E, fun k α1 μ1 H1 h1 E1 X1 => by
    cases k with
    | true => exact iteT ⟨_, show Ev X a ρ μ1 R from h1, α1, E1, fun v d α2 μ2 H2 h2 E2 X2 hv => q v d α2 μ2 H2 h2 E2 (X1.trans X2) hv⟩
    | false => exact iteF ⟨_, show Ev X b ρ μ1 R from h1, α1, E1, fun v d α2 μ2 H2 h2 E2 X2 hv => q v d α2 μ2 H2 h2 E2 (X1.trans X2) hv⟩⟩
/-! ### and, or, not as values -/
theorem Ev.one {R : Cn} {op} (h : Ev X a ρ μ R) : Ev X (.BoolOp op [a] pos) ρ μ R := pe_one h
theorem Ev.and {rest : List Expr} {R : Cn} (h : Ev X a ρ μ fun d μ1 => ∃ k, d = .bl k ∧ if k = true then Ev X (.BoolOp .And (b :: rest) pos) ρ μ1 R else R (.bl false) μ1) : Ev X (.BoolOp .And (a :: b :: rest) pos) ρ μ R :=
  PEw (pe_and pe_a pe_a) fun σ H Q ⟨α, E, q⟩ => ⟨_, h, α, E, fun v d α1 μ1 H1 ⟨k, e, h1⟩ E1 X1 hv => by
    subst e
    cases hv
    refine ⟨k, rfl, ?_⟩
    cases k with
    | true => exact iteT ⟨_, show Ev X (.BoolOp .And (b :: rest) pos) ρ μ1 R from h1, α1, E1, fun v d α2 μ2 H2 h2 E2 X2 hv => q v d α2 μ2 H2 h2 E2 (X1.trans X2) hv⟩
    | false => exact iteF (q _ _ α1 μ1 H1 h1 E1 X1 .bl)⟩
theorem Ev.or {rest : List Expr} {R : Cn} (h : Ev X a ρ μ fun d μ1 => ∃ k, d = .bl k ∧ if k = true then R (.bl true) μ1 else Ev X (.BoolOp .Or (b :: rest) pos) ρ μ1 R) : Ev X (.BoolOp .Or (a :: b :: rest) pos) ρ μ R :=
  PEw (pe_or pe_a pe_a) fun σ H Q ⟨α, E, q⟩ => ⟨_, h, α, E, fun v d α1 μ1 H1 ⟨k, e, h1⟩ E1 X1 hv => by
    subst e
    cases hv
    refine ⟨k, rfl, ?_⟩
    cases k with
    | true => exact iteT (q _ _ α1 μ1 H1 h1 E1 X1 .bl)
    | false => exact iteF ⟨_, show Ev X (.BoolOp .Or (b :: rest) pos) ρ μ1 R from h1, α1, E1, fun v d α2 μ2 H2 h2 E2 X2 hv => q v d α2 μ2 H2 h2 E2 (X1.trans X2) hv⟩⟩
theorem Ev.not {R : Cn} (h : Ev X a ρ μ fun d μ1 => ∃ k, d = .bl k ∧ R (.bl (!k)) μ1) : Ev X (.UnaryOp .Not a pos) ρ μ R :=
  PEw (pe_not pe_a) fun σ H Q ⟨α, E, q⟩ => ⟨_, h, α, E, fun v d α1 μ1 H1 ⟨k, e, h1⟩ E1 X1 hv => by
    subst e
    cases hv
    exact ⟨k, rfl, q _ _ α1 μ1 H1 h1 E1 X1 .bl⟩⟩
theorem Ev.neg {R : Cn} (h : Ev X a ρ μ fun d μ1 => ∃ i, d = .int i ∧ R (.int (-i)) μ1) : Ev X (.UnaryOp .USub a pos) ρ μ R :=
  PEw (pe_un un_neg pe_a) fun σ H Q ⟨α, E, q⟩ => ⟨_, h, α, E, fun v d α1 μ1 H1 ⟨k, e, h1⟩ E1 X1 hv => by
    subst e
    cases hv
    exact ⟨k, rfl, q _ _ α1 μ1 H1 h1 E1 X1 .int⟩⟩
/-- a < b < c of whole numbers -/
theorem Ev.chain {op op' : CmpOp} {r r' : R2} {S S' : S2} {R : Cn} (ho : OpR X (compareOp op) r) (k : R2S X r S) (ho' : OpR X (compareOp op') r') (k' : R2S X r' S')
    (h : Ev X a ρ μ fun da μ1 => Ev X b ρ μ1 fun db μ2 => S da db μ2 fun d μ3 => ∃ t, d = .bl t ∧ if t = true then Ev X c ρ μ3 fun dc μ4 => S' db dc μ4 R else R (.bl false) μ3) (hm : lastMarks [op, op'] [b, c] = false := by with_unfolding_all rfl) :
    Ev X (.Compare a [op, op'] [b, c] pos) ρ μ R := PEw (pe_chain ho ho' pe_a pe_a pe_a hm) fun σ H Q ⟨α, E, q⟩ =>
  ⟨_, h, α, E, fun x da α1 μ1 H1 h1 E1 X1 hx => ⟨_, h1, α1, E1, fun y db α2 μ2 H2 h2 E2 X2 hy =>
    k α2 μ2 H2 σ ρ x y da db _ _ E2 (X2.has hx) hy h2 fun v d α3 μ3 H3 ⟨t, e, h3⟩ E3 X3 hv => by
      subst e
      cases hv
      refine ⟨t, rfl, ?_⟩
      cases t with
      | true => exact iteT ⟨_, show Ev X c ρ μ3 _ from h3, α3, E3, fun z dc α4 μ4 H4 h4 E4 X4 hz => k' α4 μ4 H4 σ ρ y z db dc R Q E4 (X4.has (X3.has hy)) hz h4 fun v d α' μ' H' r' E' X' hv => q v d α' μ' H' r' E' (X1.trans (X2.trans (X3.trans (X4.trans X')))) hv⟩
      | false => exact iteF (q _ _ α3 μ3 H3 h3 E3 (X1.trans (X2.trans X3)) .bl)⟩⟩
end
end Eg

namespace Eg
open PySem PySem.Spec L2
inductive Out where
  | nx (ρ : RO) (μ : List MO) | rt (d : DV) (μ : List MO) | bk (ρ : RO) (μ : List MO) | ct (ρ : RO) (μ : List MO)
abbrev Co := Out → Prop
section
variable {X : Cx}
def tSt (X : Cx) (ρ : RO) (μ : List MO) (R : Co) : TS := fun D σ H => ∃ α, En ⟨X.K, α, μ, H⟩ σ ρ ∧
  (∀ ρ' σ' α' μ' H', R (.nx ρ' μ') → En ⟨X.K, α', μ', H'⟩ σ' ρ' → Kp ⟨X.K, α, μ, H⟩ ⟨X.K, α', μ', H'⟩ → D.nx σ' H') ∧
  (∀ v d α' μ' H', R (.rt d μ') → Live ⟨X.K, α', μ', H'⟩ → Kp ⟨X.K, α, μ, H⟩ ⟨X.K, α', μ', H'⟩ → Has ⟨X.K, α', μ', H'⟩ v d → D.rt v H') ∧
  (∀ ρ' σ' α' μ' H', R (.bk ρ' μ') → En ⟨X.K, α', μ', H'⟩ σ' ρ' → Kp ⟨X.K, α, μ, H⟩ ⟨X.K, α', μ', H'⟩ → D.bk σ' H') ∧
  (∀ ρ' σ' α' μ' H', R (.ct ρ' μ') → En ⟨X.K, α', μ', H'⟩ σ' ρ' → Kp ⟨X.K, α, μ, H⟩ ⟨X.K, α', μ', H'⟩ → D.ct σ' H')
def St (X : Cx) (s : Stmt) (ρ : RO) (μ : List MO) (R : Co) : Prop := PS X s (tSt X ρ μ R)
def Sts (X : Cx) (s : List Stmt) (ρ : RO) (μ : List MO) (R : Co) : Prop := PSs X s (tSt X ρ μ R)
def aS (X : Cx) (s : Stmt) : TS := fun D σ H => ∃ t, PS X s t ∧ t D σ H
def aSs (X : Cx) (s : List Stmt) : TS := fun D σ H => ∃ t, PSs X s t ∧ t D σ H
theorem ps_a {s : Stmt} : PS X s (aS X s) := ⟨fun pins s σ H D I ⟨_, h, q⟩ => h.run pins s σ H D I q⟩
theorem pss_a {s : List Stmt} : PSs X s (aSs X s) := ⟨fun pins s σ H D I ⟨_, h, q⟩ => h.run pins s σ H D I q⟩
theorem PSw {s : Stmt} {t t' : TS} (h : PS X s t) (k : ∀ D σ H, t' D σ H → t D σ H) : PS X s t' := ⟨fun pins s σ H D I q => h.run pins s σ H D I (k D σ H q)⟩
theorem PSsw {s : List Stmt} {t t' : TS} (h : PSs X s t) (k : ∀ D σ H, t' D σ H → t D σ H) : PSs X s t' := ⟨fun pins s σ H D I q => h.run pins s σ H D I (k D σ H q)⟩
section
variable {s : Stmt} {rest a b : List Stmt} {e c : Expr} {ρ : RO} {μ : List MO} {pos : Pos} {R : Co}
theorem St.mono {R' : Co} (h : St X s ρ μ R) (k : ∀ o, R o → R' o) : St X s ρ μ R' :=
  PSw h fun D σ H ⟨α, E, q1, q2, q3, q4⟩ => ⟨α, E, fun ρ' σ' α' μ' H' r => q1 ρ' σ' α' μ' H' (k _ r), fun v d α' μ' H' r => q2 v d α' μ' H' (k _ r), fun ρ' σ' α' μ' H' r => q3 ρ' σ' α' μ' H' (k _ r), fun ρ' σ' α' μ' H' r => q4 ρ' σ' α' μ' H' (k _ r)⟩
theorem Sts.mono {R' : Co} (h : Sts X a ρ μ R) (k : ∀ o, R o → R' o) : Sts X a ρ μ R' :=
  PSsw h fun D σ H ⟨α, E, q1, q2, q3, q4⟩ => ⟨α, E, fun ρ' σ' α' μ' H' r => q1 ρ' σ' α' μ' H' (k _ r), fun v d α' μ' H' r => q2 v d α' μ' H' (k _ r), fun ρ' σ' α' μ' H' r => q3 ρ' σ' α' μ' H' (k _ r), fun ρ' σ' α' μ' H' r => q4 ρ' σ' α' μ' H' (k _ r)⟩
theorem Sts.nil (h : R (.nx ρ μ)) : Sts X [] ρ μ R := PSsw pss_nil fun D σ H ⟨α, E, q1, _⟩ => q1 ρ σ α μ H h E E.live.refl
def seqR (X : Cx) (rest : List Stmt) (R : Co) : Co := fun o => match o with
  | .nx ρ μ => Sts X rest ρ μ R
  | o => R o
theorem Sts.cons (h : St X s ρ μ (seqR X rest R)) : Sts X (s :: rest) ρ μ R :=
  PSsw (pss_cons ps_a pss_a) fun D σ H ⟨α, E, q1, q2, q3, q4⟩ => by
    refine ⟨_, h, α, E, fun ρ' σ' α' μ' H' (r : Sts X rest ρ' μ' R) E' X' => ?_, q2, q3, q4⟩
    exact ⟨_, r, α', E', fun ρ2 σ2 α2 μ2 H2 r2 E2 X2 => q1 ρ2 σ2 α2 μ2 H2 r2 E2 (X'.trans X2), fun v d α2 μ2 H2 r2 l2 X2 => q2 v d α2 μ2 H2 r2 l2 (X'.trans X2),
      fun ρ2 σ2 α2 μ2 H2 r2 E2 X2 => q3 ρ2 σ2 α2 μ2 H2 r2 E2 (X'.trans X2), fun ρ2 σ2 α2 μ2 H2 r2 E2 X2 => q4 ρ2 σ2 α2 μ2 H2 r2 E2 (X'.trans X2)⟩
theorem Sts.one (h : St X s ρ μ R) : Sts X [s] ρ μ R := pss_one h
theorem St.expr (h : Ev X e ρ μ fun _ μ1 => R (.nx ρ μ1)) (hs : swapsWith e none pos.line X.env = pure false := by rfl) : St X (.Expr e pos) ρ μ R :=
  PSw (ps_expr pe_a hs) fun D σ H ⟨α, E, q1, q2, q3, q4⟩ => ⟨_, h, α, E, fun v d α1 μ1 H1 r E1 X1 _ => q1 ρ σ α1 μ1 H1 r E1 X1⟩
theorem St.ret (h : Ev X e ρ μ fun d μ1 => R (.rt d μ1)) : St X (.Return (some e) pos) ρ μ R :=
  PSw (ps_ret pe_a) fun D σ H ⟨α, E, q1, q2, q3, q4⟩ => ⟨_, h, α, E, fun v d α1 μ1 H1 r E1 X1 hv => q2 v d α1 μ1 H1 r E1.live X1 hv⟩
theorem St.retN (h : R (.rt .non μ)) : St X (.Return none pos) ρ μ R :=
  PSw ps_retN fun D σ H ⟨α, E, q1, q2, q3, q4⟩ => q2 .non .non α μ H h E.live E.live.refl .non
theorem St.pass (h : R (.nx ρ μ)) : St X (.Pass pos) ρ μ R := PSw ps_pass fun D σ H ⟨α, E, q1, _⟩ => q1 ρ σ α μ H h E E.live.refl
theorem St.brk (h : R (.bk ρ μ)) : St X (.Break pos) ρ μ R := PSw ps_break fun D σ H ⟨α, E, _, _, q3, _⟩ => q3 ρ σ α μ H h E E.live.refl
theorem St.cont (h : R (.ct ρ μ)) : St X (.Continue pos) ρ μ R := PSw ps_continue fun D σ H ⟨α, E, _, _, _, q4⟩ => q4 ρ σ α μ H h E E.live.refl
/-- from a state on -/
theorem tSt.from_ {D : Ends} {α α1 : List Addr} {μ1 : List MO} {H H1 : Hp} {σ1 : L2.St} {ρ1 : RO}
    (q : (∀ ρ' σ' α' μ' H', R (.nx ρ' μ') → En ⟨X.K, α', μ', H'⟩ σ' ρ' → Kp ⟨X.K, α, μ, H⟩ ⟨X.K, α', μ', H'⟩ → D.nx σ' H') ∧
  (∀ v d α' μ' H', R (.rt d μ') → Live ⟨X.K, α', μ', H'⟩ → Kp ⟨X.K, α, μ, H⟩ ⟨X.K, α', μ', H'⟩ → Has ⟨X.K, α', μ', H'⟩ v d → D.rt v H') ∧
  (∀ ρ' σ' α' μ' H', R (.bk ρ' μ') → En ⟨X.K, α', μ', H'⟩ σ' ρ' → Kp ⟨X.K, α, μ, H⟩ ⟨X.K, α', μ', H'⟩ → D.bk σ' H') ∧
  (∀ ρ' σ' α' μ' H', R (.ct ρ' μ') → En ⟨X.K, α', μ', H'⟩ σ' ρ' → Kp ⟨X.K, α, μ, H⟩ ⟨X.K, α', μ', H'⟩ → D.ct σ' H'))
    (E1 : En ⟨X.K, α1, μ1, H1⟩ σ1 ρ1) (X1 : Kp ⟨X.K, α, μ, H⟩ ⟨X.K, α1, μ1, H1⟩) : tSt X ρ1 μ1 R D σ1 H1 :=
  ⟨α1, E1, fun ρ2 σ2 α2 μ2 H2 r2 E2 X2 => q.1 ρ2 σ2 α2 μ2 H2 r2 E2 (X1.trans X2), fun v d α2 μ2 H2 r2 l2 X2 => q.2.1 v d α2 μ2 H2 r2 l2 (X1.trans X2),
      fun ρ2 σ2 α2 μ2 H2 r2 E2 X2 => q.2.2.1 ρ2 σ2 α2 μ2 H2 r2 E2 (X1.trans X2), fun ρ2 σ2 α2 μ2 H2 r2 E2 X2 => q.2.2.2 ρ2 σ2 α2 μ2 H2 r2 E2 (X1.trans X2)⟩
theorem St.ifS (h : EvT X c ρ μ fun k μ1 => if k = true then Sts X a ρ μ1 R else Sts X b ρ μ1 R) : St X (.If c a b pos) ρ μ R :=
  PSw (ps_if pt_a pss_a pss_a) fun D σ H ⟨α, E, q⟩ => ⟨_, h, α, E, fun k α1 μ1 H1 h1 E1 X1 => by
    cases k with
    | true => exact iteT ⟨_, show Sts X a ρ μ1 R from h1, tSt.from_ q E1 X1⟩
    | false => exact iteF ⟨_, show Sts X b ρ μ1 R from h1, tSt.from_ q E1 X1⟩⟩
/-! ### targets -/
def tG (X : Cx) (d : DV) (ρ : RO) (μ : List MO) (R : RO → List MO → Prop) : TG := fun v σ H Q => ∃ α, En ⟨X.K, α, μ, H⟩ σ ρ ∧ Has ⟨X.K, α, μ, H⟩ v d ∧
  ∀ ρ' σ' α' μ' H', R ρ' μ' → En ⟨X.K, α', μ', H'⟩ σ' ρ' → Kp ⟨X.K, α, μ, H⟩ ⟨X.K, α', μ', H'⟩ → Q σ' H'
def tGs (X : Cx) (ds : List DV) (ρ : RO) (μ : List MO) (R : RO → List MO → Prop) : TGs := fun vs σ H Q => ∃ α, En ⟨X.K, α, μ, H⟩ σ ρ ∧ HasL ⟨X.K, α, μ, H⟩ vs ds ∧
  ∀ ρ' σ' α' μ' H', R ρ' μ' → En ⟨X.K, α', μ', H'⟩ σ' ρ' → Kp ⟨X.K, α, μ, H⟩ ⟨X.K, α', μ', H'⟩ → Q σ' H'
def EvG (X : Cx) (t : Expr) (d : DV) (ρ : RO) (μ : List MO) (R : RO → List MO → Prop) : Prop := PG X t (tG X d ρ μ R)
def EvGs (X : Cx) (ts : List Expr) (ds : List DV) (ρ : RO) (μ : List MO) (R : RO → List MO → Prop) : Prop := PGs X ts (tGs X ds ρ μ R)
def aG (X : Cx) (t : Expr) : TG := fun v σ H Q => ∃ g, PG X t g ∧ g v σ H Q
def aGs (X : Cx) (t : List Expr) : TGs := fun v σ H Q => ∃ g, PGs X t g ∧ g v σ H Q
theorem pg_a {t : Expr} : PG X t (aG X t) := ⟨fun pins s σ H v u Q I r ⟨_, h, q⟩ => h.run pins s σ H v u Q I r q⟩
theorem pgs_a {t : List Expr} : PGs X t (aGs X t) := ⟨fun pins s σ H v u Q I r ⟨_, h, q⟩ => h.run pins s σ H v u Q I r q⟩
theorem PGw {e : Expr} {t t' : TG} (h : PG X e t) (k : ∀ v σ H Q, t' v σ H Q → t v σ H Q) : PG X e t' := ⟨fun pins s σ H v u Q I r q => h.run pins s σ H v u Q I r (k v σ H Q q)⟩
theorem PGsw {e : List Expr} {t t' : TGs} (h : PGs X e t) (k : ∀ v σ H Q, t' v σ H Q → t v σ H Q) : PGs X e t' := ⟨fun pins s σ H v u Q I r q => h.run pins s σ H v u Q I r (k v σ H Q q)⟩
theorem En.set {w : Wd} {σ : L2.St} {ρ : RO} {v : V} {d : DV} (E : En w σ ρ) (i : Nat) (h : Has w v d) : En w (σ.set i (some v)) (ρ.set i (some d)) :=
  ⟨E.live, by rw [List.length_set, List.length_set]; exact E.len, fun j d' e => by
    by_cases hj : i = j
    · subst hj
      by_cases hi : i < ρ.length
      · rw [List.getElem?_set_self hi] at e
        cases e
        exact ⟨v, by rw [List.getElem?_set_self (by rw [E.len]; exact hi)], h⟩
      · rw [List.getElem?_eq_none_iff.mpr (by rw [List.length_set]; omega)] at e
        cases e
    · rw [List.getElem?_set_ne hj] at e ⊢
      exact E.at_ j d' e⟩
theorem En.wipe {w : Wd} {σ : L2.St} {ρ : RO} (E : En w σ ρ) (i : Nat) : En w (σ.set i none) (ρ.set i none) :=
  ⟨E.live, by rw [List.length_set, List.length_set]; exact E.len, fun j d' e => by
    by_cases hj : i = j
    · subst hj
      by_cases hi : i < ρ.length
      · rw [List.getElem?_set_self hi] at e
        cases e
      · rw [List.getElem?_eq_none_iff.mpr (by rw [List.length_set]; omega)] at e
        cases e
    · rw [List.getElem?_set_ne hj] at e ⊢
      exact E.at_ j d' e⟩
variable {d : DV} {Rg : RO → List MO → Prop} {t : Expr} {ts : List Expr}
theorem EvG.name (i : Nat) {x : Str} (hN : X.N.Nodup) (hi : X.N[i]? = some x) (hx : Loc X.env.scope x) (hf : X.fn x = true ∨ X.env.scope.names.lookup x = some .local) (h : Rg (ρ.set i (some d)) μ) : EvG X (.Name x pos) d ρ μ Rg :=
  PGw (pg_name hN hi hx hf) fun v σ H Q ⟨α, E, hv, q⟩ => q _ _ α μ H h (E.set i hv) E.live.refl
theorem EvGs.nil (h : Rg ρ μ) : EvGs X [] [] ρ μ Rg := PGsw pgs_nil fun vs σ H Q ⟨α, E, hv, q⟩ => by
  cases hv
  exact ⟨rfl, q _ _ α μ H h E E.live.refl⟩
theorem EvGs.cons {ds : List DV} (h : EvG X t d ρ μ fun ρ1 μ1 => EvGs X ts ds ρ1 μ1 Rg) (hs : (assignEach (t :: ts) X.env).map (·.2) = assign t X.env :: (assignEach ts X.env).map (·.2) := by rfl) : EvGs X (t :: ts) (d :: ds) ρ μ Rg :=
  PGsw (pgs_cons pg_a pgs_a hs) fun vs σ H Q ⟨α, E, hv, q⟩ => by
    cases hv with
    | cons hv hvs => exact ⟨_, _, rfl, _, h, α, E, hv, fun ρ1 σ1 α1 μ1 H1 r1 E1 X1 => ⟨_, (show EvGs X ts ds ρ1 μ1 Rg from r1), α1, E1, X1.hasL hvs, fun ρ2 σ2 α2 μ2 H2 r2 E2 X2 => q ρ2 σ2 α2 μ2 H2 r2 E2 (X1.trans X2)⟩⟩
theorem EvG.tup {k} {ds : List DV} (hc : X.calm = true) (h : EvGs X ts ds ρ μ Rg) (hn : (assignEach ts X.env).length = ds.length := by rfl) (hst : (assignEach ts X.env).findIdx? (·.1) = none := by rfl) : EvG X (.Tuple ts k pos) (.tup ds) ρ μ Rg :=
  PGw (pg_tup (n := ds.length) hc pgs_a hn hst) fun v σ H Q ⟨α, E, hv, q⟩ => by
    cases hv with
    | tup s t => exact ⟨_, _, rfl, s, t.length, _, h, α, E, t, q⟩
/-- xs[i] = v of a list that may be changed -/
theorem EvG.sub {o i : Expr} (h : Ev X o ρ μ fun dO μ1 => Ev X i ρ μ1 fun dI μ2 => ∃ k xs z j, dO = .mu k ∧ dI = .int z ∧ μ2[k]? = some (.lst xs) ∧ ixN xs.length z = some j ∧ Rg ρ (μ2.set k (.lst (xs.set j d)))) (ha : ∀ v, assign (.Subscript o i pos) X.env v = (do
      let ov ← holding [v] (eval o X.env)
      let iv ← holding [v, ov] (eval i X.env)
      standAt pos
      holding [v, ov, iv] (setItem ov iv v)
      release [v, ov, iv] []) := by intro _; rfl) : EvG X (.Subscript o i pos) d ρ μ Rg :=
  PGw (pg_sub pe_a pe_a set_list ha) fun v σ H Q ⟨α, E, hv, q⟩ => ⟨_, h, α, E, fun o' dO α1 μ1 H1 h1 E1 X1 ho => ⟨_, h1, α1, E1, fun i' dI α2 μ2 H2 ⟨k, xs, z, j, e1, e2, hk, hj, r⟩ E2 X2 hi => by
    subst e1 e2
    cases hi
    cases X2.has ho with
    | mu ha =>
      obtain ⟨vs, e, hl⟩ := E2.live.ob k _ _ ha hk
      refine ⟨_, vs, z, j, rfl, rfl, e, by rw [hl.length]; exact hj, ?_⟩
      obtain ⟨kp, l⟩ := E2.live.put (o := .lst (vs.set j v)) (m := .lst (xs.set j d)) ha hk (fun z => nomatch z) fun kp => ⟨_, upd_same, HasL.set (kp.has (X2.has (X1.has hv))) j (kp.hasL hl)⟩
      exact q _ _ _ _ _ r (E2.ext kp l) (X1.trans (X2.trans kp))⟩⟩
theorem St.asg (h : Ev X e ρ μ fun d μ1 => EvG X t d ρ μ1 fun ρ2 μ2 => R (.nx ρ2 μ2)) (hs : swapsWithSole [t] e pos.line X.env = pure false := by rfl) (hw : swappedStores [t] e X.env = pure none := by rfl) (h1 : (assignEach [t] X.env).map (·.2) = [assign t X.env] := by rfl) : St X (.Assign [t] e pos) ρ μ R :=
  PSw (ps_asg pe_a pg_a hs hw h1) fun D σ H ⟨α, E, q⟩ => ⟨_, h, α, E, fun v d α1 μ1 H1 r1 E1 X1 hv => ⟨_, r1, α1, E1, hv, fun ρ2 σ2 α2 μ2 H2 r2 E2 X2 => q.1 ρ2 σ2 α2 μ2 H2 r2 E2 (X1.trans X2)⟩⟩
/-- x = e -/
theorem St.set (i : Nat) {x : Str} {pos' : Pos} (hN : X.N.Nodup) (hi : X.N[i]? = some x) (hx : Loc X.env.scope x) (hf : X.fn x = true ∨ X.env.scope.names.lookup x = some .local) (h : Ev X e ρ μ fun d μ1 => R (.nx (ρ.set i (some d)) μ1)) (hs : swapsWith e (some (.Name x pos')) pos.line X.env = pure false := by rfl) :
    St X (.Assign [.Name x pos'] e pos) ρ μ R :=
  PSw (ps_set hN hi hx pe_a hs hf) fun D σ H ⟨α, E, q⟩ => ⟨_, h, α, E, fun v d α1 μ1 H1 r1 E1 X1 hv => q.1 _ _ α1 μ1 H1 r1 (E1.set i hv) X1⟩
/-- a, b = e1, e2 -/
theorem St.par {e1 e2 : Expr} (i j : Nat) {x y : Str} {px py pt : Pos} {kt k2 pt2} (hc : X.calm = true) (hN : X.N.Nodup) (hi : X.N[i]? = some x) (hj : X.N[j]? = some y) (hij : i ≠ j) (hx : X.env.scope.names.lookup x = some .local) (hy : X.env.scope.names.lookup y = some .local)
    (h : EvA X [e1, e2] ρ μ fun ds μ1 => ∃ d1 d2, ds = [d1, d2] ∧ R (.nx ((ρ.set i (some d1)).set j (some d2)) μ1)) (hw : swappedStores [.Tuple [.Name x px, .Name y py] kt pt] (.Tuple [e1, e2] k2 pt2) X.env = pure (some [x, y]) := by rfl)
    (hs : swapsWithSole [.Tuple [.Name x px, .Name y py] kt pt] (.Tuple [e1, e2] k2 pt2) pos.line X.env = pure false := by rfl) :
    St X (.Assign [.Tuple [.Name x px, .Name y py] kt pt] (.Tuple [e1, e2] k2 pt2) pos) ρ μ R :=
  PSw (ps_par hc hN hi hj hij hx hy pa_a hw hs) fun D σ H ⟨α, E, q⟩ => ⟨_, h, α, E, fun vs ds α1 μ1 H1 ⟨d1, d2, e, r⟩ E1 X1 hv => by
    subst e
    obtain ⟨v, u, rfl, hv1, hv2⟩ := hasL2 hv
    exact ⟨v, u, rfl, q.1 _ _ α1 μ1 H1 r ((E1.set i hv1).set j hv2) X1⟩⟩
/-! ### what is walked -/
def ItOk (X : Cx) (J : It) (ds : List DV) (w : Wd) : Prop := ∀ α μ H, Kp w ⟨X.K, α, μ, H⟩ → Live ⟨X.K, α, μ, H⟩ → (∀ i d, ds[i]? = some d → J.go i H ∧ ∀ x H', J.yld i H x H' → Kp ⟨X.K, α, μ, H⟩ ⟨X.K, α, μ, H'⟩ ∧ Live ⟨X.K, α, μ, H'⟩ ∧ Has ⟨X.K, α, μ, H'⟩ x d) ∧ J.stop ds.length H
def tEvI (X : Cx) (ρ : RO) (μ : List MO) (R : Ca) : TI := fun σ H Rr => ∃ α, En ⟨X.K, α, μ, H⟩ σ ρ ∧ ∀ J ds α' μ' H', R ds μ' → En ⟨X.K, α', μ', H'⟩ σ ρ → Kp ⟨X.K, α, μ, H⟩ ⟨X.K, α', μ', H'⟩ → ItOk X J ds ⟨X.K, α', μ', H'⟩ → Rr J H'
def EvI (X : Cx) (tg e : Expr) (ρ : RO) (μ : List MO) (R : Ca) : Prop := PI X tg e (tEvI X ρ μ R)
theorem PIw {tg e : Expr} {t t' : TI} (h : PI X tg e t) (k : ∀ σ H Q, t' σ H Q → t σ H Q) : PI X tg e t' := ⟨fun pins s σ H Q I q => h.run pins s σ H Q I (k σ H Q q)⟩
def aI (X : Cx) (tg e : Expr) : TI := fun σ H Q => ∃ t, PI X tg e t ∧ t σ H Q
theorem pi_a {tg e : Expr} : PI X tg e (aI X tg e) := ⟨fun pins s σ H Q I ⟨_, h, q⟩ => h.run pins s σ H Q I q⟩
theorem EvI.lst {tg : Expr} {Ra : Ca} (h : Ev X e ρ μ fun d μ1 => ∃ ds, d = .lst ds ∧ Ra ds μ1) : EvI X tg e ρ μ Ra :=
  PIw (pi_list pe_a) fun σ H Q ⟨α, E, q⟩ => ⟨_, h, α, E, fun v d α1 μ1 H1 ⟨ds, e, r⟩ E1 X1 hv => by
    subst e
    cases hv with
    | @lst p vs _ rd hl =>
      have s0 : ∀ α2 μ2 H2, Kp ⟨X.K, α1, μ1, H1⟩ ⟨X.K, α2, μ2, H2⟩ → SqL X.K H2 p vs := fun α2 μ2 H2 k => by
        rcases rd with ⟨n, rd⟩ | rd
        · rcases rd with z | ⟨o, z⟩
          · exact .inl (.inl (k.H _ _ z n))
          · exact .inl (.inr ⟨o, k.H _ _ z n⟩)
        · exact rd.sq
      refine ⟨p, rfl, ⟨vs, s0 _ _ _ E1.live.refl⟩, q _ ds α1 μ1 H1 r E1 X1 fun α2 μ2 H2 k l => ?_⟩
      have s2 : SqL X.K H2 p vs := s0 _ _ _ k
      refine ⟨fun i d hd => ?_, ⟨vs, s2, Nat.le_of_eq hl.length⟩⟩
      obtain ⟨x, h1, h2⟩ := hl.get hd
      refine ⟨⟨vs, x, s2, h1⟩, fun y H' hy => ?_⟩
      obtain ⟨rfl, hy⟩ := hy
      have z := hy vs s2
      rw [h1] at z
      cases z
      exact ⟨l.refl, l, k.has h2⟩⟩
theorem EvI.tup {tg : Expr} {Ra : Ca} (h : Ev X e ρ μ fun d μ1 => ∃ ds, d = .tup ds ∧ Ra ds μ1) : EvI X tg e ρ μ Ra :=
  PIw (pi_tup pe_a) fun σ H Q ⟨α, E, q⟩ => ⟨_, h, α, E, fun v d α1 μ1 H1 ⟨ds, e, r⟩ E1 X1 hv => by
    subst e
    have hv0 := hv
    cases hv with
    | @tup p vs _ rd hl =>
      refine ⟨p, rfl, ⟨vs, rd⟩, q _ ds α1 μ1 H1 r E1 X1 fun α2 μ2 H2 k l => ?_⟩
      have s2 : SqT X.K H2 p vs := by
        have nl : ∀ {xs}, Rd H1 p (.tup xs) → ¬ Wd.lv ⟨X.K, α1, μ1, H1⟩ p := fun {xs} r z => by
          have m := k.tu p z
          rcases r with r | ⟨o, r⟩
          · have r' : (Wd.mk X.K α1 μ1 H1).H p = _ := r
            rw [r'] at m
            exact m
          · have r' : (Wd.mk X.K α1 μ1 H1).H p = _ := r
            rw [r'] at m
            exact m
        rcases rd with r | r
        · have n := nl r
          rcases r with r | ⟨o, r⟩
          · exact .inl (.inl (k.H _ _ r n))
          · exact .inl (.inr ⟨o, k.H _ _ r n⟩)
        · exact .inr r
      refine ⟨fun i d hd => ?_, ⟨vs, s2, Nat.le_of_eq hl.length⟩⟩
      obtain ⟨x, h1, h2⟩ := hl.get hd
      refine ⟨⟨vs, x, s2, h1⟩, fun y H' hy => ?_⟩
      obtain ⟨rfl, hy⟩ := hy
      have z := hy vs s2
      rw [h1] at z
      cases z
      exact ⟨l.refl, l, k.has h2⟩⟩
/-- the numbers lo, lo + 1, .. -/
def rgD (lo : Int) (n : Nat) : List DV := (List.range n).map fun (i : Nat) => DV.int (lo + (i : Int))
theorem rgD_len (lo : Int) (n : Nat) : (rgD lo n).length = n := by simp [rgD]
theorem itr_ok {w : Wd} (lo : Int) (n : Nat) : ItOk X (Itr lo n) (rgD lo n) w := fun α μ H k l => by
  refine ⟨fun i d hd => ?_, Nat.le_of_eq (rgD_len lo n).symm⟩
  obtain ⟨hi, e⟩ := List.getElem?_eq_some_iff.mp hd
  rw [rgD_len] at hi
  refine ⟨hi, fun x H' y => ?_⟩
  obtain ⟨rfl, rfl⟩ := y
  have e' : d = .int (lo + (i : Int)) := by
    rw [← e]
    simp [rgD]
  rw [e']
  exact ⟨l.refl, l, .int⟩
theorem EvI.range1 {tg a : Expr} {Ra : Ca} {p : Pos} (hg : Gl X "range") (hm : X.mg "range" = none) (h : EvA X [a] ρ μ fun ds μ1 => ∃ j : Int, ds = [.int j] ∧ -(2 ^ 62) ≤ j ∧ j < 2 ^ 62 ∧ Ra (rgD 0 j.toNat) μ1) (hs : starEach [a] X.env = [(false, eval a X.env)] := by rfl) :
    EvI X tg (.Call (.Name "range" p) [a] [] pos) ρ μ Ra :=
  PIw (pi_range1 hg hm pa_a hs) fun σ H Q ⟨α, E, q⟩ => ⟨_, h, α, E, fun vs ds α1 μ1 H1 ⟨j, e, h1, h2, r⟩ E1 X1 hv => by
    subst e
    obtain ⟨v, rfl, hw⟩ := hasL1 hv
    cases hw
    exact ⟨j, rfl, h1, h2, q _ _ α1 μ1 H1 r E1 X1 (itr_ok 0 j.toNat)⟩⟩
/-- for t in e: the items ds, one turn each; I: what holds behind i of them -/
theorem St.for_ {tg : Expr} {body : List Stmt} (hp : PassesOwn (model X.prog X.w) X.A X.env X.xe) (hc : X.calm = true)
    (h : EvI X tg e ρ μ fun ds μ1 => ∃ I : Nat → RO → List MO → Prop, I 0 ρ μ1 ∧
      (∀ i d ρ' μ', ds[i]? = some d → I i ρ' μ' → EvG X tg d ρ' μ' fun ρ2 μ2 => Sts X body ρ2 μ2 fun o => match o with
        | .nx ρ3 μ3 => I (i + 1) ρ3 μ3
        | .ct ρ3 μ3 => I (i + 1) ρ3 μ3
        | .bk ρ3 μ3 => R (.nx ρ3 μ3)
        | .rt d μ3 => R (.rt d μ3)) ∧
      ∀ ρ' μ', I ds.length ρ' μ' → R (.nx ρ' μ')) (hs : ∀ x, foldedSetIterable e X.env x = pure x := by intro _; rfl) : St X (.For tg e body [] pos) ρ μ R :=
  PSw (ps_for hp hc pi_a pg_a pss_a hs) fun D σ H ⟨α, E, q⟩ => ⟨_, h, α, E, fun J ds α1 μ1 H1 ⟨I, i0, turn, fin⟩ E1 X1 ok => by
    let P : Nat → L2.St → Hp → Prop := fun i σ H => ∃ α μ ρ, I i ρ μ ∧ En ⟨X.K, α, μ, H⟩ σ ρ ∧ Kp ⟨X.K, α1, μ1, H1⟩ ⟨X.K, α, μ, H⟩
    refine ⟨fun i m σ H => m = ds.length - i ∧ i ≤ ds.length ∧ P i σ H, ⟨ds.length, by simp, Nat.zero_le _, α1, μ1, ρ, i0, E1, E1.live.refl⟩, ?_⟩
    rintro i m σ2 H2 ⟨rfl, hi, α2, μ2, ρ2, hI, E2, X2⟩
    obtain ⟨go, stop⟩ := ok α2 μ2 H2 X2 E2.live
    by_cases hlt : i < ds.length
    · obtain ⟨g1, g2⟩ := go i ds[i] (by simp [hlt])
      refine .inr ⟨g1, P (i + 1), fun σ' H' p' => ⟨ds.length - (i + 1), by omega, rfl, hlt, p'⟩, fun x H' y => ?_⟩
      obtain ⟨k, l, hx⟩ := g2 x H' y
      have X2' := X2.trans k
      refine ⟨_, turn i ds[i] ρ2 μ2 (by simp [hlt]) hI, α2, E2.ext k l, hx, fun ρ3 σ3 α3 μ3 H3 r3 E3 X3 => ⟨_, r3, ?_⟩⟩
      have X3' := X2'.trans X3
      refine ⟨α3, E3, fun ρ4 σ4 α4 μ4 H4 r4 E4 X4 => ⟨α4, μ4, ρ4, r4, E4, X3'.trans X4⟩, fun v d α4 μ4 H4 r4 l4 X4 hv => q.2.1 v d α4 μ4 H4 r4 l4 (X1.trans (X3'.trans X4)) hv,
        fun ρ4 σ4 α4 μ4 H4 r4 E4 X4 => q.1 ρ4 σ4 α4 μ4 H4 r4 E4 (X1.trans (X3'.trans X4)), fun ρ4 σ4 α4 μ4 H4 r4 E4 X4 => ⟨α4, μ4, ρ4, r4, E4, X3'.trans X4⟩⟩
    · have e : i = ds.length := by omega
      subst e
      exact .inl ⟨stop, q.1 ρ2 σ2 α2 μ2 H2 (fin ρ2 μ2 hI) E2 (X1.trans X2)⟩⟩
/-- while c: I n: what holds, n falls at each turn -/
theorem St.while_ {c : Expr} {body : List Stmt} (hp : PassesOwn (model X.prog X.w) X.A X.env X.xe) (I : Nat → RO → List MO → Prop) (h0 : ∃ n, I n ρ μ)
    (turn : ∀ n ρ' μ', I n ρ' μ' → EvT X c ρ' μ' fun k μ2 => if k = true then Sts X body ρ' μ2 fun o => match o with
        | .nx ρ3 μ3 => ∃ m, m < n ∧ I m ρ3 μ3
        | .ct ρ3 μ3 => ∃ m, m < n ∧ I m ρ3 μ3
        | .bk ρ3 μ3 => R (.nx ρ3 μ3)
        | .rt d μ3 => R (.rt d μ3)
      else R (.nx ρ' μ2)) : St X (.While c body [] pos) ρ μ R :=
  PSw (ps_while hp pt_a pss_a) fun D σ H ⟨α, E, q⟩ => by
    let P : Nat → L2.St → Hp → Prop := fun i σ H' => ∃ α' μ' ρ', I i ρ' μ' ∧ En ⟨X.K, α', μ', H'⟩ σ ρ' ∧ Kp ⟨X.K, α, μ, H⟩ ⟨X.K, α', μ', H'⟩
    obtain ⟨n0, h0⟩ := h0
    refine ⟨P, ⟨n0, α, μ, ρ, h0, E, E.live.refl⟩, ?_⟩
    rintro m σ2 H2 ⟨α2, μ2, ρ2, hI, E2, X2⟩
    refine ⟨_, turn m ρ2 μ2 hI, α2, E2, fun k α3 μ3 H3 r3 E3 X3 => ?_⟩
    have X3' := X2.trans X3
    cases k with
    | true =>
      refine iteT ⟨fun σ' H' => ∃ m', m' < m ∧ P m' σ' H', fun σ' H' h => h, _, (show Sts X body ρ2 μ3 _ from r3), ?_⟩
      refine ⟨α3, E3, fun ρ4 σ4 α4 μ4 H4 ⟨m', hm, r4⟩ E4 X4 => ⟨m', hm, α4, μ4, ρ4, r4, E4, X3'.trans X4⟩, fun v d α4 μ4 H4 r4 l4 X4 hv => q.2.1 v d α4 μ4 H4 r4 l4 (X3'.trans X4) hv,
        fun ρ4 σ4 α4 μ4 H4 r4 E4 X4 => q.1 ρ4 σ4 α4 μ4 H4 r4 E4 (X3'.trans X4), fun ρ4 σ4 α4 μ4 H4 ⟨m', hm, r4⟩ E4 X4 => ⟨m', hm, α4, μ4, ρ4, r4, E4, X3'.trans X4⟩⟩
    | false => exact iteF (q.1 ρ2 σ2 α3 μ3 H3 r3 E3 X3')
/-! ### forgetting and freezing -/
/-- what was made beside is forgotten -/
theorem Ev.cut {R : Cn} (h : Ev X e ρ μ fun d μ1 => DV.bel μ.length d = true ∧ (μ1.take μ.length).all (MO.bel μ.length) = true ∧ R d (μ1.take μ.length)) : Ev X e ρ μ R :=
  PEw h fun σ H Q ⟨α, E, q⟩ => ⟨α, E, fun v d α1 μ1 H1 ⟨h1, h2, r⟩ E1 X1 hv => by
    have k := Live.cut E.live E1.live X1
    have l := E1.live.cutL μ.length h2
    exact q v d _ _ _ r (E.ext k l) k (hv.cut h1)⟩
/-- a list that was made to be changed is told to stay as it is -/
theorem Ev.frz {R : Cn} (h : Ev X e ρ μ fun d μ1 => ∃ k ds, d = .mu k ∧ μ1[k]? = some (.lst ds) ∧ R (.lst ds) (μ1.set k .dead)) : Ev X e ρ μ R :=
  PEw h fun σ H Q ⟨α, E, q⟩ => ⟨α, E, fun v d α1 μ1 H1 ⟨k, ds, e, hk, r⟩ E1 X1 hv => by
    subst e
    cases hv with
    | mu ha =>
      obtain ⟨kp, l, nl⟩ := E1.live.freeze (k := k)
      obtain ⟨vs, h1, h2⟩ := E1.live.ob k _ _ ha hk
      exact q _ _ _ _ _ r (E1.ext kp l) (X1.trans kp) (.lst (.inl ⟨nl _ ha, .inl h1⟩) (kp.hasL h2))⟩
/-! ### xs.append(e) -/
theorem tyv_of {w : Wd} {p : Addr} {xs : List V} (h : w.H p = some (.lst xs)) : tyV w.K "list" (.ref p) w.H := .inl ⟨rfl, _, .of h⟩
theorem Ev.append {o : Expr} {R : Cn} {apos cpos : Pos} (h : Ev X o ρ μ fun dO μ1 => ∃ k xs, dO = .mu k ∧ μ1[k]? = some (.lst xs) ∧ EvA X [e] ρ μ1 fun ds μ2 => ∃ d ys, ds = [d] ∧ μ2[k]? = some (.lst ys) ∧ ys.length < sizeLine ∧ R .non (μ2.set k (.lst (ys ++ [d]))))
    (hbase : attributeBase o "append" X.env (eval o X.env) = eval o X.env := by rfl)
    (hfew : ((backTo cpos (starEach [e] X.env)).all (fun x => !x.1) && (backToKw cpos (keywordEach [] X.env)).all (fun x => x.1.isSome)
      && decide ([e].length + ([] : List Keyword).length + (if ([] : List Keyword).isEmpty then 0 else 1) < 30)) = true := by rfl)
    (hline : (apos.endLine == cpos.line) = true := by rfl) (hs : starEach [e] X.env = (false, eval e X.env) :: starEach [] X.env := by rfl) :
    Ev X (.Call (.Attribute o "append" apos) [e] [] cpos) ρ μ R :=
  PEw (pe_bm PySem.F.plainAttrs_list PySem.F.slot_list_append PySem.F.type_list_append mt_append pe_a pa_a hbase hfew hline hs rfl) fun σ H Q ⟨α, E, q⟩ => ⟨_, h, α, E, fun v dO α1 μ1 H1 ⟨k, xs, e1, hk, h1⟩ E1 X1 hv => by
    subst e1
    cases hv with
    | mu ha =>
      obtain ⟨vs, z1, z2⟩ := E1.live.ob k _ _ ha hk
      refine ⟨tyv_of (w := ⟨X.K, α1, μ1, H1⟩) z1, _, h1, α1, E1, fun us ds α2 μ2 H2 ⟨d, ys, e2, hk2, hsz, r⟩ E2 X2 hus => ?_⟩
      subst e2
      obtain ⟨u, rfl, hu⟩ := hasL1 hus
      have ha2 := X2.α _ _ ha
      obtain ⟨vs2, y1, y2⟩ := E2.live.ob k _ _ ha2 hk2
      refine ⟨_, vs2, u, rfl, rfl, y1, by rw [y2.length]; exact hsz, ?_⟩
      obtain ⟨kp, l⟩ := E2.live.put (o := .lst (vs2 ++ [u])) (m := .lst (ys ++ [d])) ha2 hk2 (fun z => nomatch z) fun kp => ⟨_, upd_same, HasL.app (kp.hasL y2) (.cons (kp.has hu) .nil)⟩
      exact q _ _ _ _ _ r (E2.ext kp l) (X1.trans (X2.trans kp)) .non⟩
/-! ### xs[lo:hi] of a list -/
abbrev Cp := Option Int → List MO → Prop
def tEvP (X : Cx) (ρ : RO) (μ : List MO) (R : Cp) : TO := fun σ H Q => ∃ α, En ⟨X.K, α, μ, H⟩ σ ρ ∧ ∀ z α' μ' H', R z μ' → En ⟨X.K, α', μ', H'⟩ σ ρ → Kp ⟨X.K, α, μ, H⟩ ⟨X.K, α', μ', H'⟩ → Q z H'
def EvP (X : Cx) (e : Option Expr) (ρ : RO) (μ : List MO) (R : Cp) : Prop := PO X e (tEvP X ρ μ R)
def aP (X : Cx) (e : Option Expr) : TO := fun σ H Q => ∃ t, PO X e t ∧ t σ H Q
theorem po_a {e : Option Expr} : PO X e (aP X e) := ⟨fun pins s σ H Q I ⟨_, h, q⟩ => h.run pins s σ H Q I q⟩
theorem POw {e : Option Expr} {t t' : TO} (h : PO X e t) (k : ∀ σ H Q, t' σ H Q → t σ H Q) : PO X e t' := ⟨fun pins s σ H Q I q => h.run pins s σ H Q I (k σ H Q q)⟩
theorem EvP.none {R : Cp} (h : R none μ) : EvP X none ρ μ R := POw po_none fun σ H Q ⟨α, E, q⟩ => q _ α μ H h E E.live.refl
theorem EvP.some {R : Cp} (h : Ev X e ρ μ fun d μ1 => ∃ i, d = .int i ∧ R (some i) μ1) : EvP X (some e) ρ μ R :=
  POw (po_some pe_a) fun σ H Q ⟨α, E, q⟩ => ⟨_, h, α, E, fun v d α1 μ1 H1 ⟨i, e, r⟩ E1 X1 hv => by
    subst e
    cases hv
    exact ⟨i, rfl, q _ α1 μ1 H1 r E1 X1⟩⟩
def cutD (xs : List DV) (lo hi : Option Int) : List DV := (xs.drop (HT.sIx xs.length 0 lo)).take (HT.sIx xs.length xs.length hi - HT.sIx xs.length 0 lo)
theorem cut_has {w : Wd} {vs : List V} {ds : List DV} (h : HasL w vs ds) (lo hi : Option Int) : HasL w (cutV vs lo hi) (cutD ds lo hi) := by
  unfold cutV cutD
  rw [h.length]
  exact HasL.take _ (HasL.drop _ h)
theorem Ev.sliceL {a : Expr} {lo hi : Option Expr} {p2 : Pos} {R : Cn} (h : Ev X a ρ μ fun d μ1 => ∃ ds, d = .lst ds ∧ EvP X lo ρ μ1 fun l μ2 => EvP X hi ρ μ2 fun u μ3 => R (.lst (cutD ds l u)) μ3) : Ev X (.Subscript a (.Slice lo hi none p2) pos) ρ μ R :=
  PEw (pe_slice sl_list pe_a po_a po_a) fun σ H Q ⟨α, E, q⟩ => ⟨_, h, α, E, fun v d α1 μ1 H1 ⟨ds, e, h1⟩ E1 X1 hv => by
    subst e
    refine ⟨_, h1, α1, E1, fun l α2 μ2 H2 h2 E2 X2 => ⟨_, h2, α2, E2, fun u α3 μ3 H3 h3 E3 X3 => ?_⟩⟩
    have hv3 := X3.has (X2.has hv)
    cases hv3 with
    | @lst p vs _ rd hl =>
      have s3 : SqL X.K H3 p vs := by
        rcases rd with ⟨_, rd⟩ | rd
        · exact .inl rd
        · exact rd.sq
      refine ⟨p, vs, rfl, s3, fun b nb => ?_⟩
      obtain ⟨k, l'⟩ := E3.live.lay (o := .lst (cutV vs l u)) nb
      exact q _ _ _ _ _ h3 (E3.ext k l') (X1.trans (X2.trans (X3.trans k))) (.lst (.inl ⟨E3.live.fresh nb, .inl upd_same⟩) (k.hasL (cut_has hl l u)))⟩
end
end
end Eg

namespace Eg
open PySem PySem.Spec PyProof.Rows L2
/-! ### defs, called where nothing is being shown -/
structure FnG (P : Program) (w : World) (K : PySem.W.Frag) (mg : Str → Option Value) (base : Heap) (k : Nat) (f : Addr) (fd : FuncData) (ps : List Str) (sp : Sp) : Prop where
  len : ∀ vs H Q E, sp vs H Q E → vs.length = ps.length
  go : ∀ (A : Around) (outer : List Env) (s : Shared) (H : Hp) (args : Args) (us : List Value) (vs : List V) (Q : VK), A.guards = some [] → Room k A → Env0 P w K mg base A outer s H →
    BindsTo s fd args (ps.zip us) → Vals vs us → sp vs H Q E0 → codeAny (model P w) A (.call (.ref f) args) (CR CX0 outer P w H s Q E0) s
theorem guards_in {A : Around} (env : PySem.Env) (h : A.guards = some []) : (A.deeper env).guards = some [] := by
  first
    | exact h
    | (simpa [Around.deeper] using h)
/-- the context of a def's body -/
abbrev bx (P : Program) (w : World) (K : PySem.W.Frag) (mg : Str → Option Value) (base : Heap) (N : List Str) (qual : Str) (scope : Scope) (f : Addr) (cd : Value) (A : Around) (outer : List PySem.Env) (s : Shared) (H : Hp) : Cx :=
  (cxOf CX0 P w K mg base N qual scope f cd A outer s H E0).nox
section
variable {P : Program} {w : World} {K : PySem.W.Frag} {mg : Str → Option Value} {base : Heap}
theorem FnG.of {x qual : Str} {params : Arguments} {body : List Stmt} {scope : Scope} {dvs : List V} {kws : List (Str × V)} {f : Addr} {fd : FuncData} {N ps : List Str} {k : Nat} {sp : Sp}
    (F : FunD K x qual params body scope dvs kws f fd) (S : FnScope N ps scope) (len : ∀ vs H Q E, sp vs H Q E → vs.length = ps.length)
    (hb : ∀ (cd : Value) (A : Around) (outer : List PySem.Env) (s : Shared) (H : Hp) (vs : List V) (Q : VK), (A.deeper (envOfC qual scope s.heap.objs.size f cd)).guards = some [] → Room k (A.deeper (envOfC qual scope s.heap.objs.size f cd)) → sp vs H Q E0 →
      ∃ t, PSs (bx P w K mg base N qual scope f cd A outer s H) body t ∧ t { nx := fun _ H' => Q .non H', rt := Q } (L2.start N vs) H) : FnG P w K mg base (k + 1) f fd ps sp := by
  obtain ⟨oc, od, dV, kV, doc, pm, an, cd, ct, osl, rfl, lk, hcd, _, _⟩ := F.ex
  refine ⟨len, ?_⟩
  intro A outer s H args us vs Q hg hr e0 hbind rv hsp
  have room := hr.deeper (envOfC qual scope s.heap.objs.size f cd)
  obtain ⟨t, ht, hq⟩ := hb cd A outer s H vs Q (guards_in _ hg) room hsp
  have keep : ∀ b o, base.get? b = some o → s.heap.get? b = some o := fun b o z => (e0.bs b o z).1
  have KX : K.In s.heap := e0.mod.kin.keeps keep
  refine codeAny_call_function hr.depth (KX _ _ lk) rfl S.co S.gen rfl (PySem.W.codeRec_of KX hcd) (hbind _ _ _ _ ?_)
  have kinds : ∀ y ∈ ps.zip us, scope.names.lookup y.1 = some .local ∨ (scope.names.lookup y.1 = some .cell ∧ ((cellsFrom (s.heap.objs.size + 1) scope.names []).lookup y.1).isSome = true) := by
    rintro ⟨n, u⟩ hy
    have z := S.par n (List.of_mem_zip hy).1
    exact z.imp id fun z => ⟨z, PySem.W.cellsFrom_some _ _ _ (.inl z)⟩
  refine wpAny_newFunctionEnv_cells S.kind kinds fun env he s1 ic => ?_
  cases he
  refine ⟨(e0.mod.nolimit.keeps keep).keeps ic.toInCall.keep, codeAny_func ?_⟩
  have I := inv_start (CX := CX0) (E := E0) (qual := qual) (f := f) (cd := cd) S hr.hd e0 (len _ _ _ _ hsp) rv ic
  refine wpAny_mono (ht.run [] s1 (L2.start N vs) H _ (I.wish fun _ _ => False) hq) (fun fl s' q => ?_) (fun _ _ z => z.elim)
  cases fl with
  | ret u =>
    obtain ⟨v, σ', H', J, r, q⟩ := q
    exact ⟨v, H', J.os, J.bare, J.base, J.hok, r, q⟩
  | next =>
    obtain ⟨σ', H', J, q⟩ := q
    exact ⟨.non, H', J.os, J.bare, J.base, J.hok, rfl, q⟩
  | brk => exact (by obtain ⟨_, _, _, q⟩ := q; exact False.elim q)
  | cont => exact (by obtain ⟨_, _, _, q⟩ := q; exact False.elim q)
end
/-! ### promises over data -/
abbrev Ctr := List DV → List MO → Cn → Prop
def SpD (K : PySem.W.Frag) (C : Ctr) : Sp := fun vs H Q _ => ∃ α μ ds R, Live ⟨K, α, μ, H⟩ ∧ HasL ⟨K, α, μ, H⟩ vs ds ∧ C ds μ R ∧
  ∀ v d α' μ' H', R d μ' → Live ⟨K, α', μ', H'⟩ → Kp ⟨K, α, μ, H⟩ ⟨K, α', μ', H'⟩ → Has ⟨K, α', μ', H'⟩ v d → Q v H'
/-- the def of a name, its promise, how it is called -/
def Fn (P : Program) (w : World) (K : PySem.W.Frag) (mg : Str → Option Value) (base : Heap) (x : Str) (k : Nat) (C : Ctr) : Prop :=
  ∃ f fd ps, FnG P w K mg base k f fd ps (SpD K C) ∧ mg x = some (.ref f) ∧ PySem.W.keepIn K (.ref f) = true ∧ Binds K fd ps []
theorem Fn.mono {P : Program} {w : World} {K : PySem.W.Frag} {mg : Str → Option Value} {base : Heap} {x : Str} {j k : Nat} {C : Ctr} (F : Fn P w K mg base x j C) (h : j ≤ k) : Fn P w K mg base x k C := by
  obtain ⟨f, fd, ps, ⟨l, g⟩, r⟩ := F
  exact ⟨f, fd, ps, ⟨l, fun A outer s H args us vs Q hg hr => g A outer s H args us vs Q hg (hr.mono h)⟩, r⟩
/-- what is wanted behind a body; what was made beside may be forgotten -/
def fin (n : Nat) (R : Cn) : Co := fun o => match o with
  | .rt d μ => R d μ ∨ (DV.bel n d = true ∧ (μ.take n).all (MO.bel n) = true ∧ R d (μ.take n))
  | .nx _ μ => R .non μ ∨ ((μ.take n).all (MO.bel n) = true ∧ R .non (μ.take n))
  | _ => False
def startD (N : List Str) (ds : List DV) : RO := ds.map some ++ List.replicate (N.length - ds.length) none
theorem start_en {w : Wd} {N : List Str} {vs : List V} {ds : List DV} (l : Live w) (h : HasL w vs ds) : En w (L2.start N vs) (startD N ds) := by
  have hl := h.length
  refine ⟨l, ?_, fun i d e => ?_⟩
  · unfold L2.start startD
    simp [hl]
  · unfold startD at e
    unfold L2.start
    by_cases hi : i < ds.length
    · rw [List.getElem?_append_left (by simpa using hi), List.getElem?_map] at e
      rw [List.getElem?_append_left (by simpa [hl] using hi), List.getElem?_map]
      cases q : ds[i]? with
      | none => rw [q] at e; cases e
      | some d' =>
        rw [q] at e
        cases e
        obtain ⟨v, h1, h2⟩ := h.get q
        exact ⟨v, by rw [h1]; rfl, h2⟩
    · rw [List.getElem?_append_right (by simpa using Nat.le_of_not_lt hi), List.getElem?_replicate] at e
      split at e <;> cases e
section
variable {P : Program} {w : World} {K : PySem.W.Frag} {mg : Str → Option Value} {base : Heap}
/-- THE RULE for a def -/
theorem Fn.mk {x : Str} {params : Arguments} {body : List Stmt} {scope : Scope} {kws : List (Str × V)} {f : Addr} {fd : FuncData} {N ps : List Str} {k : Nat} {C : Ctr}
    (F : FunD K x x params body scope [] kws f fd) (S : FnScope N ps scope) (hm : mg x = some (.ref f))
    (hbd : ∀ (kV doc pm : Value) (an : Option Addr) (cdv ct : Value) (us : List Value), us.length = ps.length → bindArgs (PySem.W.fnOf x x params body scope .none kV doc pm an cdv ct) ⟨us, []⟩ = pure (ps.zip us))
    (len : ∀ ds μ R, C ds μ R → ds.length = ps.length)
    (hb : ∀ (cd : Value) (A : Around) (outer : List PySem.Env) (s : Shared) (H : Hp), (bx P w K mg base N x scope f cd A outer s H).A.guards = some [] → Room k (bx P w K mg base N x scope f cd A outer s H).A → (bx P w K mg base N x scope f cd A outer s H).N.Nodup →
      ∀ ds μ R, C ds μ R → Sts (bx P w K mg base N x scope f cd A outer s H) body (startD N ds) μ (fin μ.length R)) : Fn P w K mg base x (k + 1) C := by
  refine ⟨f, fd, ps, FnG.of F S (fun vs H Q E => ?_) (fun cd A outer s H vs Q hg hr => ?_), hm, F.kp, F.bindsN hbd⟩
  · rintro ⟨α, μ, ds, R, l, h, c, _⟩
    rw [h.length]
    exact len _ _ _ c
  · rintro ⟨α, μ, ds, R, l, h, c, q⟩
    refine ⟨_, hb cd A outer s H hg hr S.nd ds μ R c, α, start_en l h, ?_, ?_, ?_, ?_⟩
    · intro ρ' σ' α' μ' H' r E' k'
      rcases r with r | ⟨r1, r2⟩
      · exact q _ _ α' μ' H' r E'.live k' .non
      · exact q _ _ _ _ _ r2 (E'.live.cutL μ.length r1) (Live.cut l E'.live k') .non
    · intro v d α' μ' H' r l' k' hv
      rcases r with r | ⟨r0, r1, r2⟩
      · exact q _ _ α' μ' H' r l' k' hv
      · exact q _ _ _ _ _ r2 (l'.cutL μ.length r1) (Live.cut l l' k') (hv.cut r0)
    · intro _ _ _ _ _ r
      exact r.elim
    · intro _ _ _ _ _ r
      exact r.elim
end
/-! ### calls -/
section
variable {X : Cx} {e : Expr} {es : List Expr} {ρ : RO} {μ : List MO} {pos p : Pos} {R : Cn} {x : Str} {k : Nat} {C : Ctr}
theorem Ev.call (F : Fn X.prog X.w X.K X.mg X.base x k C) (hA : X.A.guards = some []) (hr : Room k X.A) (hg : Gl X x) (h : EvA X (e :: es) ρ μ fun ds μ1 => C ds μ1 R)
    (hdb : (x == ("__debug__" : Str)) = false := by decide) (he : starEach (e :: es) X.env = (false, eval e X.env) :: starEach es X.env := by rfl) (hpl : (backTo pos (starEach es X.env)).any (·.1) = false := by rfl) :
    Ev X (.Call (.Name x p) (e :: es) [] pos) ρ μ R := by
  obtain ⟨f, fd, ps, G, hm, hk, hb⟩ := F
  refine ⟨fun pins s σ H Q I ⟨α, E, q⟩ => wpAny_Call_Name_kw (ld_glob I hg hm ?_ hdb)⟩
  have ha : PA X (e :: es) (tEvA X ρ μ fun ds μ1 => C ds μ1 R) := h
  refine PySem.W.callWith_K (h₀ := X.base) I.ok.mod.kin hk (thn (ha.run pos pins s σ H (fun vs H1 => SpD X.K C vs H1 (fun v H' => Q v H') E0) I ⟨α, E, ?_⟩) ?_) he hpl
  · intro vs ds α1 μ1 H1 c E1 X1 hv
    exact ⟨α1, μ1, ds, R, E1.live, hv, c, fun v d α' μ' H' r l k' hd => q v d α' μ' H' r (E1.ext k' l) (X1.trans k') hd⟩
  · rintro us s1 ⟨vs, H1, I1, rv, sp⟩
    refine ⟨I1.kIn, ?_⟩
    have hl : us.length = ps.length := rv.length ▸ G.len _ _ _ _ sp
    refine wpAny_call (codeAny_mono (G.go X.A X.stack s1 H1 ⟨us, []⟩ us vs Q hA hr I1.env0 ?_ rv sp) fun r s2 hq => ?_)
    · have z := hb s1 us I1.kIn (by rw [List.append_nil]; exact hl)
      rw [List.append_nil] at z
      exact z
    · cases r with
      | error er => exact False.elim hq
      | ok fl =>
        cases fl with
        | ret u => exact I1.after hq
        | next => exact False.elim hq
        | brk => exact False.elim hq
        | cont => exact False.elim hq
end
end Eg

namespace Eg
open PySem PySem.Spec PyProof.Rows L2
/-! ### [e for x in xs] -/
section
variable {X : Cx} {ρ : RO} {μ : List MO} {pos : Pos} {R : Cn}
abbrev blkX (X : Cx) (s : Shared) (H : Hp) (scope : Scope) (C : Addr) (cl : List (Str × Addr)) (fp : List Addr) : Cx := X.blk s H scope (compEnvC scope cl C X.env) fp
def aB (X : Cx) (scope : Scope) (e : Expr) : TE := fun σ H Q => ∃ t, (∀ s H' C cl fp, PE (blkX X s H' scope C cl fp) e t) ∧ t σ H Q
def aBT (X : Cx) (scope : Scope) (ifs : List Expr) : TT := fun σ H Q => ∃ t, (∀ s H' C cl fp, PTs (blkX X s H' scope C cl fp) ifs t) ∧ t σ H Q
/-- the walk of a comprehension by what holds behind j items: I j what is made so far -/
theorem lc_S {elt iter : Expr} {ifs : List Expr} {scope : Scope} {x : Str} {px : Pos} (i : Nat)
    (h : EvI X (.Name x px) iter ρ μ fun ds μ1 => ds.length ≤ sizeLine ∧ ∃ I : Nat → List DV → List MO → Prop, I 0 [] μ1 ∧
      (∀ j d acc μ2, ds[j]? = some d → μ2.length = μ1.length → I j acc μ2 → ∃ tt : RO → List MO → Ct → TT, (∀ s H C cl fp, PTs (blkX X s H scope C cl fp) ifs (tt (ρ.set i (some d)) (μ2 ++ [.lst acc]) fun b μ3 =>
        if b = true then ∀ s H C cl fp, Ev (blkX X s H scope C cl fp) elt (ρ.set i (some d)) μ3 fun y μ5 => ∃ μ4, μ5 = μ4 ++ [.lst acc] ∧ μ4.length = μ1.length ∧ I (j + 1) (acc ++ [y]) μ4
        else ∃ μ4, μ3 = μ4 ++ [.lst acc] ∧ μ4.length = μ1.length ∧ I (j + 1) acc μ4)) ∧ ∀ ρ' μ' Rt σ H Q, tEvT X ρ' μ' Rt σ H Q → tt ρ' μ' Rt σ H Q) ∧
      ∀ acc μ2, μ2.length = μ1.length → I ds.length acc μ2 → R (.lst acc) (μ2 ++ [.dead]))
    (σ : L2.St) (H : Hp) (Q : VK) (q : tEv X ρ μ R σ H Q) : tLc (aI X (.Name x px) iter) (gName i) (aBT X scope ifs) (aB X scope elt) [i] σ H Q := by
  obtain ⟨α, E, q⟩ := q
  refine ⟨_, h, α, E, ?_⟩
  rintro J ds α1 μ1 H1 ⟨hz, I, i0, turn, done⟩ E1 X1 ok D hD
  have hlen : α1.length = μ1.length := E1.live.len
  obtain ⟨kM, lM, eM⟩ := E1.live.layM (o := .lst []) (m := .lst []) hD (fun _ k => ⟨[], upd_same, .nil⟩)
  let P : Nat → Hp → Prop := fun j H' => ∃ acc μ' α', acc.length ≤ j ∧ I j acc μ' ∧ μ'.length = μ1.length ∧ α'[μ1.length]? = some D ∧ Live ⟨X.K, α', μ' ++ [.lst acc], H'⟩ ∧ Kp ⟨X.K, α1, μ1, H1⟩ ⟨X.K, α', μ' ++ [.lst acc], H'⟩
  refine ⟨fun j m H' => m = ds.length - j ∧ j ≤ ds.length ∧ P j H', ⟨ds.length, by simp, Nat.zero_le _, [], μ1, α1 ++ [D], Nat.le_refl _, i0, rfl, eM, lM, kM⟩, ?_⟩
  rintro j m H2 ⟨rfl, hj, acc, μ2, α2, ha, hI, hμ, hα, l2, k2⟩
  obtain ⟨go, stop⟩ := ok α2 _ H2 k2 l2
  have kD : (μ2 ++ [MO.lst acc])[μ1.length]? = some (.lst acc) := by
    rw [List.getElem?_append_right (by omega), hμ, Nat.sub_self]
    rfl
  have setl : ∀ (μ4 : List MO) (m m' : MO), μ4.length = μ1.length → (μ4 ++ [m]).set μ1.length m' = μ4 ++ [m'] := fun μ4 m m' e => by
    rw [← e]
    simp
  by_cases hlt : j < ds.length
  · obtain ⟨g1, g2⟩ := go j ds[j] (by simp [hlt])
    refine .inr ⟨g1, P (j + 1), fun H' p => ⟨ds.length - (j + 1), by omega, rfl, hlt, p⟩, fun y H3 yy => ?_⟩
    obtain ⟨ky, ly, hy⟩ := g2 y H3 yy
    obtain ⟨tt, ht, hm⟩ := turn j ds[j] acc μ2 (by simp [hlt]) hμ hI
    show wipe ((wipe σ [i]).set i (some y)) [i] = wipe σ [i] ∧ _
    refine ⟨by simp [wipe], _, ht, ?_⟩
    have k3 := k2.trans ky
    have E3 : En ⟨X.K, α2, μ2 ++ [.lst acc], H3⟩ ((wipe σ [i]).set i (some y)) (ρ.set i (some ds[j])) := by
      have z := ((E1.ext k3 ly).wipe i).set i hy
      have eρ : (ρ.set i none).set i (some ds[j]) = ρ.set i (some ds[j]) := by simp
      rw [eρ] at z
      exact z
    refine hm _ _ _ _ _ _ ⟨α2, E3, ?_⟩
    intro b α3 μ3 H4 r3 E4 k4
    cases b with
    | false =>
      refine iteF ?_
      obtain ⟨μ4, rfl, h4, hI4⟩ := r3
      exact ⟨acc, μ4, α3, Nat.le_succ_of_le ha, hI4, h4, k4.α _ _ hα, E4.live, k3.trans k4⟩
    | true =>
      refine iteT ⟨tEv X (ρ.set i (some ds[j])) μ3 _, r3, α3, E4, ?_⟩
      rintro v d α5 μ5 H5 ⟨μ4, rfl, h4, hI4⟩ E5 k5 hv
      have hα5 := k5.α _ _ (k4.α _ _ hα)
      have kD5 : (μ4 ++ [MO.lst acc])[μ1.length]? = some (.lst acc) := by
        rw [List.getElem?_append_right (by omega), h4, Nat.sub_self]
        rfl
      obtain ⟨vs, e1, e2⟩ := E5.live.ob _ _ _ hα5 kD5
      have hl := e2.length
      refine ⟨vs, e1, by omega, ?_⟩
      obtain ⟨k6, l6⟩ := E5.live.put (o := .lst (vs ++ [v])) (m := .lst (acc ++ [d])) hα5 kD5 (fun z => nomatch z) fun k => ⟨_, upd_same, HasL.app (k.hasL e2) (.cons (k.has hv) .nil)⟩
      rw [setl _ _ _ h4] at k6 l6
      exact ⟨acc ++ [d], μ4, α5, by rw [List.length_append]; exact Nat.succ_le_succ ha, hI4, h4, hα5, l6, k3.trans (k4.trans (k5.trans k6))⟩
  · have e : j = ds.length := by omega
    subst e
    refine .inl ⟨stop, ?_⟩
    obtain ⟨vs, e1, e2⟩ := l2.ob _ _ _ hα kD
    obtain ⟨k6, l6, nl⟩ := l2.freeze (k := μ1.length)
    rw [setl _ _ _ hμ] at k6 l6 nl
    have k7 := k2.trans k6
    exact q _ _ _ _ _ (done acc μ2 hμ hI) (E1.ext k7 l6) (X1.trans k7) (.lst (.inl ⟨nl _ hα, .inl e1⟩) (k6.hasL e2))
theorem pe_aB {scope : Scope} {e : Expr} (s : Shared) (H : Hp) (C : Addr) (cl : List (Str × Addr)) (fp : List Addr) : PE (blkX X s H scope C cl fp) e (aB X scope e) := ⟨fun pins s' σ H' Q I ⟨_, h, q⟩ => (h s H C cl fp).run pins s' σ H' Q I q⟩
theorem pts_aB {scope : Scope} {ifs : List Expr} (s : Shared) (H : Hp) (C : Addr) (cl : List (Str × Addr)) (fp : List Addr) : PTs (blkX X s H scope C cl fp) ifs (aBT X scope ifs) := ⟨fun pins s' σ H' Q I ⟨_, h, q⟩ => (h s H C cl fp).run pins s' σ H' Q I q⟩
/-- what a comprehension without a test asks -/
def LcOk (X : Cx) (scope : Scope) (elt iter : Expr) (x : Str) (px : Pos) (i : Nat) (ρ : RO) (μ : List MO) (R : Cn) : Prop :=
  EvI X (.Name x px) iter ρ μ fun ds μ1 => ds.length ≤ sizeLine ∧ ∃ I : Nat → List DV → List MO → Prop, I 0 [] μ1 ∧
      (∀ j d acc μ2, ds[j]? = some d → μ2.length = μ1.length → I j acc μ2 → ∀ s H C cl fp, Ev (blkX X s H scope C cl fp) elt (ρ.set i (some d)) (μ2 ++ [.lst acc]) fun y μ5 => ∃ μ4, μ5 = μ4 ++ [.lst acc] ∧ μ4.length = μ1.length ∧ I (j + 1) (acc ++ [y]) μ4) ∧
      ∀ acc μ2, μ2.length = μ1.length → I ds.length acc μ2 → R (.lst acc) (μ2 ++ [.dead])
theorem EvI.mono {tg e : Expr} {Ra Ra' : Ca} (h : EvI X tg e ρ μ Ra) (k : ∀ ds μ', Ra ds μ' → Ra' ds μ') : EvI X tg e ρ μ Ra' :=
  PIw h fun σ H Q ⟨α, E, q⟩ => ⟨α, E, fun J ds α' μ' H' r => q J ds α' μ' H' (k _ _ r)⟩
theorem lc_S0 {elt iter : Expr} {scope : Scope} {x : Str} {px : Pos} {i : Nat} (h : LcOk X scope elt iter x px i ρ μ R) (σ : L2.St) (H : Hp) (Q : VK) (q : tEv X ρ μ R σ H Q) :
    tLc (aI X (.Name x px) iter) (gName i) (aBT X scope []) (aB X scope elt) [i] σ H Q :=
  lc_S i (EvI.mono h fun ds μ1 ⟨hz, I, i0, turn, done⟩ => ⟨hz, I, i0, fun j d acc μ2 h1 h2 h3 => ⟨fun ρ' μ' Rt σ H Q => ∃ α, En ⟨X.K, α, μ', H⟩ σ ρ' ∧ ∀ b α' μ'' H', Rt b μ'' → En ⟨X.K, α', μ'', H'⟩ σ ρ' → Kp ⟨X.K, α, μ', H⟩ ⟨X.K, α', μ'', H'⟩ → Q b H',
    fun s H C cl fp => ⟨fun pins s' σ H' Q' J ⟨α, E, q⟩ => pts_nil.run pins s' σ H' Q' J (q true α _ H' (turn j d acc μ2 h1 h2 h3) E E.live.refl)⟩, fun _ _ _ _ _ _ z => z⟩, done⟩) σ H Q q
theorem Ev.lc {elt iter : Expr} {scope : Scope} {x : Str} {px : Pos} (i : Nat) (hc : X.calm = true) (hN : X.N.Nodup) (hi : X.N[i]? = some x) (ok : BlkOk X.N X.env.scope scope [(x, i)])
    (hl : ∀ (s : Shared) (H : Hp) (C : Addr) (cl : List (Str × Addr)) (fp : List Addr), Loc (blkX X s H scope C cl fp).env.scope x ∧ ((blkX X s H scope C cl fp).fn x = true ∨ (blkX X s H scope C cl fp).env.scope.names.lookup x = some .local))
    (h : LcOk X scope elt iter x px i ρ μ R) (hs : ∀ x, foldedSetIterable iter X.env x = pure x := by intro _; rfl) : Ev X (.ListComp elt [⟨.Name x px, iter, [], 0⟩] scope pos) ρ μ R :=
  PEw (pe_lc (own := [(x, i)]) (g := gName i) hc hN pi_a ok (fun s H C cl fp => pg_name hN hi (hl s H C cl fp).1 (hl s H C cl fp).2) (fun s H C cl fp => pts_aB s H C cl fp) (fun s H C cl fp => pe_aB s H C cl fp) hs) (lc_S0 h)
end
/-! ### a law's end -/
section
variable {P : Program} {w : World} {K : PySem.W.Frag} {mg mb : Str → Option Value} {k : Nat} {fa a : Addr} {fd : FuncData} {x : Str} {sp : Sp} {s₁ : Shared} {vs : List Value} {ns : List Int}
/-- the heap at the call: the script alone is told of, and not that if the text itself holds it -/
theorem law_goG (KX : K.In s₁.heap) (hns : s₁.heap.Ns mainGlobals mg) (hbl : s₁.heap.Ns builtinsNs mb) (hbb : ∀ x : Str, x ≠ "__name__" → mb x = bootBuiltins x) (hlim : s₁.heap.NoLimit) (hgen : s₁.gens = #[])
    (ha : s₁.heap.get? a = some { cls := .type "list", data := .seq vs.toArray }) (hi : IntsAre vs ns) (hl : ns.length ≤ sizeLine) (hr : Room k callerA)
    (F : ∀ base : Heap, K.In base → base.Ns mainGlobals mg → FnG P w K mg base k fa fd [x] sp) (hbind : ∀ (s : Shared) (u : Value), BindsTo s fd ⟨[u], []⟩ [(x, u)])
    (hsp : ∀ H : Hp, ((∀ b, H b = none) ∧ WrL K a (ns.map V.int)) ∨ (∃ o, H = fun b => if b = a then some (.frz o (.lst (ns.map V.int))) else none) → sp [.ref a] H (fun v _ => v = .bl true) E0) :
    codeAny (model P w) callerA (.call (.ref fa) ⟨[.ref a], []⟩) (fun r s' => r = .ok (.ret (.bool true)) ∧ OldK s₁.heap s'.heap ∧ s'.os = s₁.os ∧ AllBare s'.gens) s₁ := by
  have rv := vals_ints hi
  -- whatever H tells: at most of a, and of a as it stands
  have main : ∀ H : Hp, (∀ b, b ≠ a → H b = none) → (∀ u, H a = some u → u = .frz { cls := .type "list", data := .seq vs.toArray } (.lst (ns.map V.int))) → (H a = none ∨ K.lookup a = none) → sp [.ref a] H (fun v _ => v = .bl true) E0 →
      codeAny (model P w) callerA (.call (.ref fa) ⟨[.ref a], []⟩) (fun r s' => r = .ok (.ret (.bool true)) ∧ OldK s₁.heap s'.heap ∧ s'.os = s₁.os ∧ AllBare s'.gens) s₁ := by
    intro H h1 h2 h3 hq
    have ok : HOk P w H s₁.heap := by
      intro b u e
      have eb : b = a := Classical.byContradiction fun z => by
        rw [h1 b z] at e
        cases e
      subst eb
      have eu := h2 u e
      subst eu
      exact ⟨ha, by rw [List.length_map]; exact hl, vs, 0, rv, ha⟩
    have none_of_dict : ∀ {b : Addr} {o : Obj} {es : Array DictEntry} {ep : Nat}, s₁.heap.get? b = some o → o.data = .dict es ep → H b = none := by
      intro b o es ep e d
      refine h1 b fun z => ?_
      rw [z, ha] at e
      have := Option.some.inj e
      subst this
      cases d
    have ns_of : ∀ {b : Addr} {m : Str → Option Value}, s₁.heap.Ns b m → (hidT s₁.heap H).Ns b m := by
      rintro b m ⟨o, es, ep, e, d, r⟩
      exact ⟨o, es, ep, hidT_get e (none_of_dict e d), d, r⟩
    have kin : K.In (hidT s₁.heap H) := by
      intro b o e
      refine hidT_get (KX b o e) ?_
      by_cases z : b = a
      · subst z
        rcases h3 with h3 | h3
        · exact h3
        · rw [h3] at e
          cases e
      · exact h1 b z
    obtain ⟨mc, c1, c2⟩ := hlim
    have env0 : Env0 P w K mg (hidT s₁.heap H) callerA [] s₁ H :=
      ⟨rfl, ⟨kin, ns_of hns, ⟨mb, ns_of hbl, hbb⟩, mc, ns_of c1, c2⟩, fun _ _ e => of_hidT e, Nat.le_of_eq (hidT_size _ _), trivial, fun b z => absurd (show b ∈ ([] : List Addr) from z) List.not_mem_nil, ok, .of_eq hgen⟩
    refine codeAny_mono ((F _ kin (ns_of hns)).go callerA [] s₁ H ⟨[.ref a], []⟩ [.ref a] [.ref a] _ rfl hr env0 (hbind s₁ (.ref a)) (.cons rfl .nil) hq) fun r s' z => ?_
    match r, z with
    | .ok (.ret u), ⟨v, H', os, bare, un, ok', rv', q⟩ =>
      have q' : v = .bl true := q
      subst q'
      have eu : u = Value.bool true := rv'
      subst eu
      refine ⟨rfl, OldK.of_keep fun b o e => ?_, os, bare⟩
      by_cases z : H b = none
      · exact un.keep b o e z (fun y => absurd (show b ∈ ([] : List Addr) from y) List.not_mem_nil) List.not_mem_nil
      · have eb : b = a := Classical.byContradiction fun y => z (h1 b y)
        subst eb
        cases hu : H b with
        | none => exact absurd hu z
        | some u =>
          have eu := h2 u hu
          rw [eu] at hu
          have t := (ok' b _ (un.frzs b _ _ hu)).1
          rw [ha] at e
          cases e
          exact t
    | .ok .next, z => exact z.elim
    | .ok .brk, z => exact z.elim
    | .ok .cont, z => exact z.elim
    | .error e, z => exact z.elim
  cases hk : K.lookup a with
  | none =>
    refine main (fun b => if b = a then some (.frz { cls := .type "list", data := .seq vs.toArray } (.lst (ns.map V.int))) else none) (fun b z => if_neg z) (fun u e => ?_) (.inr hk) (hsp _ (.inr ⟨_, rfl⟩))
    rw [if_pos rfl] at e
    exact (Option.some.inj e).symm
  | some o =>
    have eo : o = { cls := .type "list", data := .seq vs.toArray } := by
      have z := KX a o hk
      rw [ha] at z
      exact (Option.some.inj z).symm
    subst eo
    refine main (fun _ => none) (fun _ _ => rfl) (fun u e => nomatch e) (.inl rfl) (hsp _ (.inl ⟨fun _ => rfl, .inr ⟨_, vs.toArray, 0, hk, rfl, rfl, rfl, ?_, ?_⟩⟩))
    · have e1 := hi.length
      rw [List.size_toArray]
      omega
    · exact rv
end
/-- the script as data -/
def scD (ns : List Int) : DV := .lst (ns.map DV.int)
theorem sc_has {w : Wd} : ∀ ns : List Int, HasL w (ns.map V.int) (ns.map DV.int)
  | [] => .nil
  | _ :: r => .cons .int (sc_has r)
theorem walk_G {l : PySem.W.OpenLaw} {n k : Nat} {q : Program} {loose : List Str} {XP : (Str → Option Value) → Heap → Prop} {YP : World → Heap → Prop} {d : DefRec} {C : Ctr}
    (hn : l.most = some n) (hn2 : n ≤ sizeLine) (hdf : d.params.defaults = []) (hr : Room k callerA)
    (hC : ∀ ns : List Int, ns.length ≤ n → (∀ z ∈ ns, Builtin.Int.intBits z ≤ 1048576) → C [scD ns] [] fun d _ => d = .bl true)
    (F : ∀ (w : World) (mg : Str → Option Value) (fa : Addr) (h : Heap), YP w h → h.Ns mainGlobals mg → mg d.name = some (.ref fa) →
      ∃ (K : PySem.W.Frag) (fd : FuncData) (x : Str), K.In h ∧ (∀ (s : Shared) (u : Value), BindsTo s fd ⟨[u], []⟩ [(x, u)]) ∧ ∀ base : Heap, K.In base → base.Ns mainGlobals mg → FnG l.prog w K mg base k fa fd [x] (SpD K C)) :
    PySem.W.WalkO q loose XP YP l.row.toRowW d [] (fun f vs => PySem.call f vs) := by
  refine Att.attach_callB hn hdf fun w s₀ s₁ mg mb fa o pm cd doc a vs ns G Y ho hd hcd hmg hobj hints hlen hbits hg => ?_
  obtain ⟨K, fd, x, KX, hb, hF⟩ := F w mg fa _ Y G.T.g hmg
  refine law_goG KX G.T.g G.T.b G.T.builtins G.T.nolimit hg hobj hints (Nat.le_trans hlen hn2) hr hF hb fun H hH => ?_
  have l0 : Live ⟨K, [], [], H⟩ := ⟨rfl, List.nodup_nil, fun _ h => absurd h List.not_mem_nil, fun k a o h => by simp at h⟩
  refine ⟨[], [], [scD ns], fun d _ => d = .bl true, l0, .cons (.lst ?_ (sc_has ns)) .nil, hC ns hlen hbits, ?_⟩
  · rcases hH with ⟨_, h⟩ | ⟨o, rfl⟩
    · exact .inr h
    · refine .inl ⟨?_, .inr ⟨o, if_pos rfl⟩⟩
      rintro ⟨k, u, h1, _⟩
      simp at h1
  · rintro v d α' μ' H' rfl _ _ hv
    cases hv
    rfl
end Eg

namespace Eg
open PySem PySem.Spec L2
section
variable {M : Model} {A : Around} {E : Value → Shared → Prop} {h : Heap} {g : Array GenState} {d : Drawn} {t : Nat} {os : OsState}
variable {nm q : Str} {C N : Addr} {bs bm bmB : List Value} {hdct : Bool} {sn : List Str} {sub : List Value} {ab : Bool} {col : Option Bool} {dd : Option Addr} {k0 k1 k2 k3 k5 : Option Value} {B newId initId : String}
theorem chk_call {rest : List Value} {kw : List (Str × Value)} {Q : Unit → Shared → Prop} (hC : h.get? C = some (excClassObj nm q C N bs bm hdct sn sub ab col dd k0 k1 k2 k3 k5 newId)) (hq : Q () ⟨h, g, d, t, os⟩) :
    wpAny M A (checkBuiltinCall "type.__call__" ⟨.ref C :: rest, kw⟩) Q E ⟨h, g, d, t, os⟩ := by
  have sb := tc_sub
  have ty : (⟨h, g, d, t, os⟩ : Shared).TypeIs (.ref C) "type" := ⟨_, hC, rfl⟩
  simp only [checkBuiltinCall, tc_kind, tc_split]
  repeat (any_goals (first | assumption | (with_reducible refine wpAny_loadPart_at hC ?_) | (with_reducible refine wpAny_onRaise ?_) | (with_reducible refine wpAny_map ?_) | wp_step))

/-- the class's own chain holds what its base's holds of types -/
abbrev TyAs (bm bmB : List Value) : Prop := ∀ X : String, bm.contains (.type X) = bmB.contains (.type X)
theorem hasTy {c : Addr} (hT : TyAs bm bmB) {T : String} (h : bmB.contains (.type T) = true) : (Value.ref c :: bm).contains (.type T) = true := by
  rw [List.contains_cons, hT, h, Bool.or_true]
theorem noTy {c : Addr} (hT : TyAs bm bmB) {T : String} (h : bmB.contains (.type T) = false) : (Value.ref c :: bm).contains (.type T) = false := by
  rw [List.contains_cons, hT, h]
  rfl
theorem chk_new (F : ExcBaseFacts B newId initId bmB) (hT : TyAs bm bmB) {rest : List Value} {kw : List (Str × Value)} {Q : Unit → Shared → Prop}
    (hC : h.get? C = some (excClassObj nm q C N bs bm hdct sn sub ab col dd k0 k1 k2 k3 k5 newId)) (hq : Q () ⟨h, g, d, t, os⟩) :
    wpAny M A (checkBuiltinCall newId ⟨.ref C :: rest, kw⟩) Q E ⟨h, g, d, t, os⟩ := by
  have inB := hasTy (c := C) hT F.hasB
  have ns := F.noStar
  simp only [checkBuiltinCall, F.newSplit, F.newKind, F.newRow]
  repeat (first
    | refine wpAny_loadPart_at hC ?_
    | (refine wpAny_isSubtype_exc hC ?_; rw [inB])
    | refine wpAny_staticBase_exc hC ?_
    | refine wpAny_madeBy_exc hC ?_
    | simp only [if_false, Bool.false_eq_true, bne_self_eq_false]
    | wp_step)
  exact hq
end
section
variable {prog : Program} {w : World} {A : Around} {E : Value → Shared → Prop} {R : Result → Shared → Prop} {h : Heap} {g : Array GenState} {d : Drawn} {t : Nat} {os : OsState}
variable {nm q : Str} {C N : Addr} {bs bm bmB : List Value} {hdct : Bool} {sn : List Str} {sub : List Value} {ab : Bool} {col : Option Bool} {dd : Option Addr} {k0 k1 k2 k3 k5 : Option Value} {B newId initId : String}
/-- an exception object just made, its args at t -/
abbrev exO0 (C t : Addr) : Obj := { cls := .ref C, data := .fields #[.ref t, .none, .none, .none, .bool false, .none] }
abbrev made (h : Heap) (C : Addr) (rest : List Value) : Heap := (h.push { cls := .type "tuple", data := .seq rest.toArray }).push (exO0 C h.objs.size)
theorem new_kw (F : ExcBaseFacts B newId initId bmB) (hT : TyAs bm bmB) {rest : List Value} {kw : List (Str × Value)}
    (hC : h.get? C = some (excClassObj nm q C N bs bm hdct sn sub ab col dd k0 k1 k2 k3 k5 newId)) (hz : rest.length ≤ sizeLine)
    (hq : R (.ok (.ret (.ref (h.objs.size + 1)))) ⟨made h C rest, g, d, t, os⟩) : codeAny (model prog w) A (.builtin newId ⟨.ref C :: rest, kw⟩) R ⟨h, g, d, t, os⟩ := by
  have en := F.ends
  have inB := hasTy (c := C) hT F.hasB
  have noA := noTy (c := C) hT F.noAttr
  have noN := noTy (c := C) hT F.noName
  refine codeAny_builtinAt F.entry ?_
  unfold Builtin.«BaseException.__new__»
  refine wpAt_bind ?_
  show wpAt _ _ _ (stack >>= _) _ _ _
  refine wpAt_bind (wpAt_stack fun p below => wpAt_of_wpAny ?_)
  wp_walk
  refine wpAt_of_wpAny ?_
  rw [F.owner]
  repeat (first
    | (with_reducible refine wpAny_madeHere_exc F.canon hC ?_)
    | (with_reducible refine wpAny_loadPart_at hC ?_)
    | (with_reducible refine wpAny_isSubtype_exc hC ?_; first | rw [inB] | rw [noA] | rw [noN])
    | wp_step)
  show R _ _
  rw [Heap.size_push]
  exact hq
/-- type.__call__ of an own exception class with its own __init__ -/
theorem tcall_kw (F : ExcBaseFacts B newId initId bmB) (hT : TyAs bm bmB) {rest : List Value} {kw : List (Str × Value)} {fI : Addr} {Q : Fin → Shared → Prop}
    (hC : h.get? C = some (excClassObj nm q C N bs bm hdct sn sub ab col dd k0 k1 k2 k3 k5 newId)) (hz : rest.length ≤ sizeLine)
    (hi : W.Looks (model prog w) h (typeLookup (.ref C) "__init__") (some (.ref fI))) (hb : ∀ self, W.Looks (model prog w) h (bindSpecial (.ref fI) self) (.ref fI, [self]))
    (hq : codeAny (model prog w) A (.call (.ref fI) ⟨.ref (h.objs.size + 1) :: rest, kw⟩)
      (fun r s' => match r with | .ok (.ret v) => v = .none ∧ Q (.done (.ret (.ref (h.objs.size + 1)))) s' | .ok _ => False | .error e => E e s') ⟨made h C rest, g, d, t, os⟩) :
    wpAny (model prog w) A (Builtin.«type.__call__» ⟨.ref C :: rest, kw⟩) Q E ⟨h, g, d, t, os⟩ := by
  repeat (first | (with_reducible refine wpAny_loadPart_at hC ?_) | (with_reducible refine wpAny_madeBy_exc hC ?_) | wp_step)
  refine codeAny_call_builtin_code (Code.quiet_builtin _ F.quiet) (chk_new F hT hC ?_)
  refine new_kw F hT hC hz ?_
  show wpAny _ _ _ _ _ _
  have k : ∀ b o, h.get? b = some o → (made h C rest).get? b = some o := fun b o e => Heap.get?_push_of_some _ (Heap.get?_push_of_some _ e)
  have hC1 := k _ _ hC
  have there : (made h C rest).get? (h.objs.size + 1) = some (exO0 C h.objs.size) := by heap_get
  have self : (Value.ref C :: bm).contains (.ref C) = true := by simp
  have li := hi.keeps k
  have lb := (hb (.ref (h.objs.size + 1))).keeps k
  unfold isInstance
  repeat (first | (with_reducible refine wpAny_loadPart_at there ?_) | (with_reducible refine wpAny_isSubtype_exc hC1 ?_; rw [self]) | wp_step)
  show wpAny _ _ (typeLookup (.ref C) _) _ _ _
  refine li.at (wpAny_holding (wpAny_bind (lb.at (wpAny_bind ?_))))
  refine wpAny_call (codeAny_mono hq fun r s' z => ?_)
  match r, z with
  | .ok (.ret v), ⟨e, z⟩ =>
    subst e
    first
      | exact wpAny_pure (wpAny_pure z)
      | (wp_walk; exact z)
  | .error e, z => exact z
theorem call_kwE (F : ExcBaseFacts B newId initId bmB) (hT : TyAs bm bmB) {rest : List Value} {kw : List (Str × Value)} {fI : Addr}
    (hC : h.get? C = some (excClassObj nm q C N bs bm hdct sn sub ab col dd k0 k1 k2 k3 k5 newId)) (hz : rest.length ≤ sizeLine)
    (hi : W.Looks (model prog w) h (typeLookup (.ref C) "__init__") (some (.ref fI))) (hb : ∀ self, W.Looks (model prog w) h (bindSpecial (.ref fI) self) (.ref fI, [self]))
    (hq : codeAny (model prog w) (A.under (.builtin "type.__call__" ⟨.ref C :: rest, kw⟩)) (.call (.ref fI) ⟨.ref (h.objs.size + 1) :: rest, kw⟩) (W.InitBack (h.objs.size + 1) R) ⟨made h C rest, g, d, t, os⟩) :
    codeAny (model prog w) A (.call (.ref C) ⟨rest, kw⟩) R ⟨h, g, d, t, os⟩ := by
  have lk := tc_lookup
  have bd := tc_bind (.ref C)
  have ty : (⟨h, g, d, t, os⟩ : Shared).TypeIs (.ref C) "type" := ⟨_, hC, rfl⟩
  refine codeAny_of_tree ?_
  show wpAny _ _ (callAny (.ref C) _) _ _ _
  repeat (any_goals (first | assumption | (with_reducible refine wpAny_loadPart_at hC ?_) | wp_step))
  refine ⟨rfl, codeAny_call_builtin_at (Code.quiet_builtin _ (by decide +kernel)) entry_typeCall (chk_call hC (tcall_kw F hT hC hz hi hb ?_))⟩
  refine codeAny_mono hq fun r s' z => ?_
  rcases r with e | (v | _ | _ | _) <;> exact z
end
end Eg

namespace Eg
open PySem PySem.Spec L2
mutual
def toPy : DV → Option PyData
  | .non => some .none
  | .bl b => some (.bool b)
  | .int i => some (.int i)
  | .str x => some (.str x)
  | .tup xs => (toPyL xs).map .tuple
  | .lst xs => (toPyL xs).map .list
  | .dic [] => some (.dict [])
  | .dic (_ :: _) => none
  | .exc _ _ => none
  | .mu _ => none
def toPyL : List DV → Option (List PyData)
  | [] => some []
  | x :: r => (toPy x).bind fun d => (toPyL r).map fun ds => d :: ds
end
section
variable {X : Cx} {pins : List (Addr × Obj)} {σ : L2.St} {α : List Addr} {μ : List MO} {H : Hp} {s : Shared}
mutual
theorem rd_of (I : Inv X pins σ H s) (hB : ∃ mm, X.base.Ns sysModules mm) : ∀ {v : V} {u : Value} {d : DV} {pd : PyData}, Has ⟨X.K, α, μ, H⟩ v d → RelV v u → toPy d = some pd → ∃ as, Reads s.heap u pd as ∧ sysModules ∉ as
  | _, _, _, _, .non, r, e => by cases e; cases r; exact ⟨_, .none, List.not_mem_nil⟩
  | _, _, _, _, .bl, r, e => by cases e; cases r; exact ⟨_, .bool _, List.not_mem_nil⟩
  | _, _, _, _, .int, r, e => by cases e; obtain ⟨t, rfl⟩ := r; exact ⟨_, .int _ _, List.not_mem_nil⟩
  | _, _, _, _, .str, r, e => by cases e; obtain ⟨t, rfl⟩ := r; exact ⟨_, .str _ _, List.not_mem_nil⟩
  | _, _, _, _, .tup h t, r, e => by
    have er : _ = Value.ref _ := r
    subst er
    obtain ⟨ds, e1, e2⟩ := Option.map_eq_some_iff.mp e
    subst e2
    obtain ⟨its, rv, ⟨o, ho, hc, n, hd⟩, _⟩ := I.tuple h
    obtain ⟨as, q1, q2⟩ := rdL_of I hB t rv e1
    exact ⟨as, .tuple ho hc hd (by simpa using q1), q2⟩
  | _, _, _, _, @Has.lst _ p vs0 _ h t, r, e => by
    have er : _ = Value.ref _ := r
    subst er
    obtain ⟨ds, e1, e2⟩ := Option.map_eq_some_iff.mp e
    subst e2
    have sq : SqL X.K H p vs0 := by
      rcases h with ⟨_, h⟩ | h
      · exact .inl h
      · exact h.sq
    obtain ⟨its, rv, ⟨o, n, ho, hc, _, hd⟩, _⟩ := I.list sq
    obtain ⟨as, q1, q2⟩ := rdL_of I hB t rv e1
    refine ⟨p :: as, .list ho hc hd (by simpa using q1), fun z => ?_⟩
    rcases List.mem_cons.mp z with z | z
    · obtain ⟨mm, od, es, ep, z1, z2, _⟩ := hB
      have z3 := (I.bs _ _ z1).1
      rw [z, ho] at z3
      cases z3
      rw [hd] at z2
      cases z2
    · exact q2 z
  | _, _, _, _, @Has.dic _ p kvs kds _ h t, r, e => by
    have er : _ = Value.ref _ := r
    subst er
    cases t with
    | cons _ _ => cases e
    | nil =>
      cases e
      obtain ⟨_, ns, vs, kv, o, es, ep, ho, hx, hd, _, he, _⟩ := I.hok p _ h
      cases kv
      have hes : es.toList = [] := by
        generalize hz : es.toList = l at he
        cases he
        rfl
      refine ⟨p :: [] ++ [], .dict ho hx.1 hd (by rw [hes]; exact .nil) (by rw [hes]; exact .nil), fun z => ?_⟩
      have z' : sysModules = p := by simpa using z
      rw [← z'] at ns
      exact absurd ns (by decide)
  | _, _, _, _, .exc _ _ _, _, e => by cases e
  | _, _, _, _, .exc0 _, _, e => by cases e
  | _, _, _, _, .mu _, _, e => by cases e
theorem rdL_of (I : Inv X pins σ H s) (hB : ∃ mm, X.base.Ns sysModules mm) : ∀ {vs : List V} {us : List Value} {ds : List DV} {pds : List PyData}, HasL ⟨X.K, α, μ, H⟩ vs ds → Vals vs us → toPyL ds = some pds → ∃ as, ReadsAll s.heap us pds as ∧ sysModules ∉ as
  | _, _, _, _, .nil, r, e => by cases e; cases r; exact ⟨_, .nil, List.not_mem_nil⟩
  | _, _, _, _, .cons h t, r, e => by
    obtain ⟨d, e1, e2⟩ := Option.bind_eq_some_iff.mp e
    obtain ⟨ds, e3, e4⟩ := Option.map_eq_some_iff.mp e2
    subst e4
    cases r with
    | cons r1 r2 =>
      obtain ⟨as, q1, n1⟩ := rd_of I hB h r1 e1
      obtain ⟨bs, q2, n2⟩ := rdL_of I hB t r2 e3
      exact ⟨as ++ bs, .cons q1 q2, fun z => (List.mem_append.mp z).elim n1 n2⟩
end
end
section
variable {X : Cx} {e : Expr} {ρ : RO} {μ : List MO} {pos p : Pos} {R : Cn}
/-- repr of a list or tuple of data that nobody changes -/
def sRepr : SA := fun ds μ R => ∃ d pd, ds = [d] ∧ ((∃ xs, d = .lst xs) ∨ ∃ xs, d = .tup xs) ∧ toPy d = some pd ∧ pd.showable = true ∧ pd.depth ≤ 100 ∧ pd.shown.length ≤ sizeLine ∧ R (.str pd.shown) μ
theorem Ev.repr (hA : X.A.guards = some []) (hu : X.A.units + 200 < cLine) (hB : ∃ mm, X.base.Ns sysModules mm) (hg : Gl X "repr") (hm : X.mg "repr" = none) (h : EvA X [e] ρ μ fun ds μ1 => sRepr ds μ1 R) (he : starEach [e] X.env = (false, eval e X.env) :: starEach [] X.env := by rfl) :
    Ev X (.Call (.Name "repr" p) [e] [] pos) ρ μ R := by
  refine ⟨fun pins s σ H Q I ⟨α, E, q⟩ => ?_⟩
  refine wpAny_Call_Name_kw (ld_blt I hg hm PyProof.Rows.boot_repr ?_ (by decide) (by decide))
  have ha : PA X [e] (tEvA X ρ μ fun ds μ1 => sRepr ds μ1 R) := h
  refine PyProof.Rows.callWith_builtin1 (thn (ha.run pos pins s σ H (fun vs H1 => ∃ α1 μ1 ds, sRepr ds μ1 R ∧ En ⟨X.K, α1, μ1, H1⟩ σ ρ ∧ Kp ⟨X.K, α, μ, H⟩ ⟨X.K, α1, μ1, H1⟩ ∧ HasL ⟨X.K, α1, μ1, H1⟩ vs ds) I ⟨α, E, fun vs ds α1 μ1 H1 c E1 X1 hv => ⟨α1, μ1, ds, c, E1, X1, hv⟩⟩) ?_) he rfl
  rintro us s1 ⟨vs, H1, I1, rv, α1, μ1, ds, ⟨d, pd, rfl, hk, e1, h1, h2, h3, r⟩, E1, X1, hv⟩
  obtain ⟨v, rfl, hw⟩ := hasL1 hv
  clear hv
  have hv := hw
  obtain ⟨u, rfl, ru⟩ := vals1 rv
  have isref : ∃ a, u = Value.ref a := by
    rcases hk with ⟨xs, rfl⟩ | ⟨xs, rfl⟩
    · cases hv with
      | lst _ _ => exact ⟨_, ru⟩
    · cases hv with
      | tup _ _ => exact ⟨_, ru⟩
  obtain ⟨a, rfl⟩ := isref
  obtain ⟨as, rd, ns⟩ := rd_of I1 hB hv ru e1
  refine PySem.repr_of_reads' rd h1 (fun _ => ns) hA (by omega) (fun _ _ z => z) (fun h' t tk k => ?_) h3
  exact ⟨.str pd.shown, H1, I1.kept k, ⟨_, rfl⟩, q _ _ α1 μ1 H1 r E1 X1 .str⟩
end
end Eg

namespace Eg
open PySem PySem.Spec L2
/-! ### keywords -/
section
variable {X : Cx} {e : Expr} {es : List Expr} {kws : List Keyword} {ρ : RO} {μ : List MO} {pos p kpos : Pos} {R : Cn} {nmO : Option Str}
def EvK (X : Cx) (ks : List Keyword) (ρ : RO) (μ : List MO) (R : Ca) : Prop := PK X ks (tEvA X ρ μ R)
def aK (X : Cx) (ks : List Keyword) : TA := fun σ H Q => ∃ t, PK X ks t ∧ t σ H Q
theorem pk_a {ks : List Keyword} : PK X ks (aK X ks) := ⟨fun pos pins s σ H Q I ⟨_, h, q⟩ => h.run pos pins s σ H Q I q⟩
theorem PKw {ks : List Keyword} {t t' : TA} (h : PK X ks t) (k : ∀ σ H Q, t' σ H Q → t σ H Q) : PK X ks t' := ⟨fun pos pins s σ H Q I q => h.run pos pins s σ H Q I (k σ H Q q)⟩
theorem EvK.nil {R : Ca} (h : R [] μ) : EvK X [] ρ μ R := PKw pk_nil fun σ H Q ⟨α, E, q⟩ => q [] [] α μ H h E E.live.refl .nil
theorem EvK.cons {R : Ca} (h : Ev X e ρ μ fun d μ1 => EvK X kws ρ μ1 fun ds μ2 => R (d :: ds) μ2) : EvK X (⟨nmO, e, kpos⟩ :: kws) ρ μ R :=
  PKw (pk_cons pe_a pk_a) fun σ H Q ⟨α, E, q⟩ => ⟨_, h, α, E, fun v d α1 μ1 H1 h1 E1 X1 hv => ⟨_, h1, α1, E1, fun vs ds α2 μ2 H2 h2 E2 X2 hvs => q _ _ α2 μ2 H2 h2 E2 (X1.trans X2) (.cons (X2.has hv) hvs)⟩⟩
end
/-! ### own exceptions as values -/
/-- __init__(self, ..) that stores: fl: what stands in the dict behind it -/
def spI (C : Addr) (n : Nat) (fl : List V → List (Str × V)) : Sp := fun vs H Q _ => ∃ a ys, vs = .ref a :: ys ∧ ys.length = n ∧ H a = some (exo a C none) ∧
  ∀ d H', H d = none → H' a = some (exo a C (some d)) → H' d = some (exd d (fl ys)) → (∀ b, H b ≠ none → b ≠ a → H' b = H b) → Q .non H'
/-- the class x of the text, at C: made by its own __init__ of n arguments besides self -/
structure XI (P : Program) (w : World) (K : PySem.W.Frag) (mg : Str → Option Value) (base : Heap) (x : Str) (C : Addr) (k n : Nat) (fl : List V → List (Str × V)) (ks : List Str) (perm : List Value → List Value) : Prop where
  gC : mg x = some (.ref C)
  oc : OexC K C
  ini : ∃ fI fd ps, ps.length = n + 1 ∧ PySem.W.findIn K (.ref C) "__init__" = some (some (.ref fI)) ∧ PySem.W.typeIn K (.ref fI) = some (.type "function") ∧ FnG P w K mg base k fI fd ps (spI C n fl) ∧
    (∀ (s : Shared) (us : List Value), us.length = ps.length → BindsTo s fd ⟨us, []⟩ (ps.zip us)) ∧
    ∀ (s : Shared) (u : Value) (us : List Value), us.length = n → BindsTo s fd ⟨[u], ks.zip us⟩ (ps.zip (u :: perm us))
theorem guards_call {A : Around} {args : Args} (h : A.guards = some []) : (A.under (.builtin "type.__call__" args)).guards = some [] := by
  have e : (Code.builtin "type.__call__" args).isGuard = false := by
    show guardIds.contains "type.__call__" = false
    decide +kernel
  simp [Around.under, Code.guards, e, pushGuards, h]
section
variable {X : Cx} {e : Expr} {es : List Expr} {kws : List Keyword} {ρ : RO} {μ : List MO} {pos p : Pos} {R : Cn} {x : Str} {k n : Nat} {C : Addr} {fl : List V → List (Str × V)} {ks : List Str} {perm : List Value → List Value}
/-- the call, the arguments being there -/
theorem make_E {pins : List (Addr × Obj)} {s : Shared} {σ : L2.St} {H : Hp} {Q : VK} {us rest : List Value} {kw : List (Str × Value)} {ys : List V} (oc : OexC X.K C) {fI : Addr} {fd : FuncData} {ps : List Str}
    (iC : PySem.W.findIn X.K (.ref C) "__init__" = some (some (.ref fI))) (tI : PySem.W.typeIn X.K (.ref fI) = some (.type "function")) (G : FnG X.prog X.w X.K X.mg X.base k fI fd ps (spI C n fl))
    (hA : X.A.guards = some []) (hr : Room (k + 1) X.A) (I : Inv X pins σ H s) (hz : rest.length ≤ sizeLine) (hb : ∀ s u, BindsTo s fd ⟨u :: rest, kw⟩ (ps.zip (u :: us))) (hn : ys.length = n) (rv : Vals ys us)
    (q : ∀ a d H', H a = none → H d = none → H' a = some (exo a C (some d)) → H' d = some (exd d (fl ys)) → (∀ b, H b ≠ none → H' b = H b) → Q (.ref a) H') :
    wpAny (model X.prog X.w) X.A (PySem.call (.ref C) rest kw) (EP X pins σ Q) X.xe s := by
  obtain ⟨nm, qn, N, bs, bm, sn, sub, ab, col, dd, k0, k1, k2, k3, k5, hC, hbm⟩ := oc.cls
  obtain ⟨hp, g, dr, tk, os⟩ := s
  have nw : H (hp.objs.size + 1) = none := I.hok.fresh (Nat.le_succ _)
  have kk : ∀ b o, hp.get? b = some o → (made hp C rest).get? b = some o := fun b o z => Heap.get?_push_of_some _ (Heap.get?_push_of_some _ z)
  have there : (made hp C rest).get? (hp.objs.size + 1) = some (exO0 C hp.objs.size) := by heap_get
  have I2 : Inv X pins σ (upd H (hp.objs.size + 1) (exo (hp.objs.size + 1) C none)) ⟨made hp C rest, g, dr, tk, os⟩ :=
    I.laid (t' := tk) (h' := made hp C rest) kk (Nat.le_succ _) (exo_ok there)
  have hsp : spI C n fl (.ref (hp.objs.size + 1) :: ys) (upd H (hp.objs.size + 1) (exo (hp.objs.size + 1) C none)) (fun v H2 => v = .non ∧ Q (.ref (hp.objs.size + 1)) H2) E0 := by
    refine ⟨_, ys, rfl, hn, upd_same, fun d H' h1 h2 h3 h4 => ⟨rfl, ?_⟩⟩
    have nd : d ≠ hp.objs.size + 1 := fun z => by
      rw [z, upd_same] at h1
      cases h1
    rw [upd_ne nd] at h1
    refine q _ d H' nw h1 h2 h3 fun b hb => ?_
    have nb : b ≠ hp.objs.size + 1 := fun z => hb (by rw [z]; exact nw)
    rw [h4 b (by rw [upd_ne nb]; exact hb) nb, upd_ne nb]
  refine wpAny_call (call_kwE F.excBase_ValueError (fun Y => PySem.HandSPX.refsVE_contains Y bm hbm) (I.kIn _ _ hC) hz (PySem.W.looks_findIn I.kIn iC) (fun self => PySem.W.bind_fn I.kIn self tI) ?_)
  refine codeAny_mono (G.go _ X.stack _ _ ⟨Value.ref (hp.objs.size + 1) :: rest, kw⟩ (Value.ref (hp.objs.size + 1) :: us) _ _ (guards_call hA) (hr.make C rest kw) (I2.env0.make C rest kw) (hb _ _) (Paired.cons (a := V.ref (hp.objs.size + 1)) (b := Value.ref (hp.objs.size + 1)) rfl rv) hsp) fun r s' hq => ?_
  match r, hq with
  | .ok (.ret u), hq =>
    obtain ⟨v, H', J, rr, ev, q'⟩ := I2.after hq
    have eu : u = Value.none := by
      subst ev
      exact rr
    exact ⟨eu, .ref _, H', J, rfl, q'⟩
  | .ok .next, z => exact False.elim z
  | .ok .brk, z => exact False.elim z
  | .ok .cont, z => exact False.elim z
  | .error _, z => exact False.elim z
/-- what is then to be shown, of the data ds of the arguments in the parameters' order -/
theorem made_ok {α1 : List Addr} {μ1 : List MO} {H1 : Hp} {σ : L2.St} {Q : VK} {ys : List V} {ds : List DV} {fd : List (Str × DV)} (E1 : En ⟨X.K, α1, μ1, H1⟩ σ ρ) (hv : HasL ⟨X.K, α1, μ1, H1⟩ ys ds)
    (hf : ∀ w, HasL w ys ds → HasF w (fl ys) fd) (q : Stp X ρ ⟨X.K, α1, μ1, H1⟩ σ R Q) (hR : R (.exc C fd) μ1) (a d : Addr) (H' : Hp) (_ : H1 a = none) (_ : H1 d = none) (h1 : H' a = some (exo a C (some d))) (h2 : H' d = some (exd d (fl ys))) (h3 : ∀ b, H1 b ≠ none → H' b = H1 b) : Q (.ref a) H' := by
  obtain ⟨k, l⟩ := E1.live.lays h3
  exact q _ _ α1 μ1 H' hR (E1.ext k l) k (.exc h1 h2 (hf _ (k.hasL hv)))
/-- X(e, ..) -/
theorem Ev.mkE {fdf : List DV → List (Str × DV)} (T : XI X.prog X.w X.K X.mg X.base x C k n fl ks perm) (hA : X.A.guards = some []) (hr : Room (k + 1) X.A) (hg : Gl X x) (hf : ∀ ys ds w, HasL w ys ds → ys.length = n → HasF w (fl ys) (fdf ds)) (h0 : n ≤ 1000)
    (h : EvA X (e :: es) ρ μ fun ds μ1 => ds.length = n ∧ R (.exc C (fdf ds)) μ1)
    (hdb : (x == ("__debug__" : Str)) = false := by decide) (he : starEach (e :: es) X.env = (false, eval e X.env) :: starEach es X.env := by rfl) (hpl : (backTo pos (starEach es X.env)).any (·.1) = false := by rfl) :
    Ev X (.Call (.Name x p) (e :: es) [] pos) ρ μ R := by
  obtain ⟨gC, oc, fI, fd, ps, hps, iC, tI, G, hb, _⟩ := T
  refine ⟨fun pins s σ H Q I ⟨α, E, q⟩ => wpAny_Call_Name_kw (ld_glob I hg gC ?_ hdb)⟩
  have ha : PA X (e :: es) (tEvA X ρ μ fun ds μ1 => ds.length = n ∧ R (.exc C (fdf ds)) μ1) := h
  refine PySem.W.callWith_K (h₀ := X.base) I.ok.mod.kin oc.kC (thn (ha.run pos pins s σ H (fun vs H1 => ∃ α1 μ1 ds, (ds.length = n ∧ R (.exc C (fdf ds)) μ1) ∧ En ⟨X.K, α1, μ1, H1⟩ σ ρ ∧ Kp ⟨X.K, α, μ, H⟩ ⟨X.K, α1, μ1, H1⟩ ∧ HasL ⟨X.K, α1, μ1, H1⟩ vs ds) I
    ⟨α, E, fun vs ds α1 μ1 H1 c E1 X1 hv => ⟨α1, μ1, ds, c, E1, X1, hv⟩⟩) ?_) he hpl
  rintro us s1 ⟨vs, H1, I1, rv, α1, μ1, ds, ⟨hn, r⟩, E1, X1, hv⟩
  refine ⟨I1.kIn, ?_⟩
  have hl : vs.length = n := hv.length.trans hn
  have hu : us.length = n := rv.length.symm.trans hl
  refine make_E (us := us) (rest := us) (kw := []) (ys := vs) oc iC tI G hA hr I1 (by rw [hu, PySem.sizeLine_eq]; omega) (fun s' u => hb s' (u :: us) (by rw [List.length_cons, hu, hps])) hl rv fun a d H' z1 z2 z3 z4 z5 => ?_
  exact made_ok (fd := fdf ds) E1 hv (fun w hw => hf _ _ w hw hl) (fun v d' α' μ' H'' r' E' k' hv' => q v d' α' μ' H'' r' E' (X1.trans k') hv') r a d H' z1 z2 z3 z4 z5
/-- X(f = e, ..) -/
theorem Ev.mkEK {fdf : List DV → List (Str × DV)} (T : XI X.prog X.w X.K X.mg X.base x C k n fl ks perm) (hA : X.A.guards = some []) (hr : Room (k + 1) X.A) (hg : Gl X x) (permV : List V → List V) (permD : List DV → List DV)
    (hp1 : ∀ vs us, Vals vs us → vs.length = n → Vals (permV vs) (perm us) ∧ (permV vs).length = n) (hp2 : ∀ w vs ds, HasL w vs ds → vs.length = n → HasL w (permV vs) (permD ds))
    (hf : ∀ ys ds w, HasL w ys ds → ys.length = n → HasF w (fl ys) (fdf ds))
    (h : EvK X kws ρ μ fun ds μ1 => ds.length = n ∧ R (.exc C (fdf (permD ds))) μ1) (hall : (backToKw pos (keywordEach kws X.env)).all (·.1.isSome) = true := by rfl) (hks : (backToKw pos (keywordEach kws X.env)).filterMap (·.1) = ks := by rfl)
    (hpl : ((backTo pos (starEach [] X.env)).any (·.1) || (backToKw pos (keywordEach kws X.env)).any (·.1.isNone)) = false := by rfl) (hdb : (x == ("__debug__" : Str)) = false := by decide) :
    Ev X (.Call (.Name x p) [] kws pos) ρ μ R := by
  obtain ⟨gC, oc, fI, fd, ps, hps, iC, tI, G, _, hb⟩ := T
  refine ⟨fun pins s σ H Q I ⟨α, E, q⟩ => wpAny_Call_Name_kw (ld_glob I hg gC ?_ hdb)⟩
  have ha : PK X kws (tEvA X ρ μ fun ds μ1 => ds.length = n ∧ R (.exc C (fdf (permD ds))) μ1) := h
  refine PySem.W.callWith_KW0 (h₀ := X.base) I.ok.mod.kin oc.kC hall (thn (ha.run pos pins s σ H (fun vs H1 => ∃ α1 μ1 ds, (ds.length = n ∧ R (.exc C (fdf (permD ds))) μ1) ∧ En ⟨X.K, α1, μ1, H1⟩ σ ρ ∧ Kp ⟨X.K, α, μ, H⟩ ⟨X.K, α1, μ1, H1⟩ ∧ HasL ⟨X.K, α1, μ1, H1⟩ vs ds) I
    ⟨α, E, fun vs ds α1 μ1 H1 c E1 X1 hv => ⟨α1, μ1, ds, c, E1, X1, hv⟩⟩) ?_) hpl
  rintro us s1 ⟨vs, H1, I1, rv, α1, μ1, ds, ⟨hn, r⟩, E1, X1, hv⟩
  refine ⟨I1.kIn, ?_⟩
  rw [hks]
  have hl : vs.length = n := hv.length.trans hn
  have hu : us.length = n := rv.length.symm.trans hl
  obtain ⟨pv, pl⟩ := hp1 vs us rv hl
  show wpAny _ _ (PySem.call (.ref C) [] (ks.zip us)) _ _ s1
  refine make_E (us := perm us) (rest := []) (kw := ks.zip us) (ys := permV vs) oc iC tI G hA hr I1 (Nat.zero_le _) (fun s' u => hb s' u us hu) pl pv fun a d H' z1 z2 z3 z4 z5 => ?_
  exact made_ok (fd := fdf (permD ds)) E1 (hp2 _ _ _ hv hl) (fun w hw => hf _ _ w hw pl) (fun v d' α' μ' H'' r' E' k' hv' => q v d' α' μ' H'' r' E' (X1.trans k') hv') r a d H' z1 z2 z3 z4 z5
/-- X() of a class without own __init__ -/
theorem Ev.mkE0 {bmB : List Value} {B newId initId : String} (F : ExcBaseFacts B newId initId bmB) (qx : PySem.W.excIn X.K C bmB newId = true) (gC : X.mg x = some (.ref C)) (kC : PySem.W.keepIn X.K (.ref C) = true) (hg : Gl X x)
    (h : R (.exc C []) μ) (hdb : (x == ("__debug__" : Str)) = false := by decide) : Ev X (.Call (.Name x p) [] [] pos) ρ μ R := by
  refine ⟨fun pins s σ H Q I ⟨α, E, q⟩ => wpAny_Call_Name_kw (ld_glob I hg gC ?_ hdb)⟩
  refine PySem.W.callWith_K0 I.kIn kC ?_
  obtain ⟨bm, N, nm, qn, bs, hdct, sn, sub, ab, col, dd, k0, k1, k2, k3, k5, mN, hC, hN, hni, T⟩ := exc_obj I.kIn qx
  refine wpAny_call_exc_subT F T hC hN hni (fun h' a hm => ?_) (Nat.zero_le _)
  have hn : H a = none := I.hok.gone hm.new
  obtain ⟨t, ht, _, _⟩ := hm.there
  obtain ⟨k, l⟩ := E.live.lay (o := ExO (.ref C) a) hn
  exact ⟨.ref a, upd H a (ExO (.ref C) a), I.laidN hm.keeps hm.new hn (exO_ok ht ⟨rfl, rfl⟩ rfl rfl rfl (show 4 < 6 by decide)), rfl, q _ _ α μ _ h (E.ext k l) k (.exc0 upd_same)⟩
/-! ### e.f, isinstance(e, T) -/
/-- what an own exception class says of its instances -/
structure XC (K : PySem.W.Frag) (C : Addr) : Prop where
  cl : (PySem.W.clsIn K C).isSome = true
  ga : PySem.W.findIn K (.ref C) "__getattribute__" = some (some (.builtin "BaseException.__getattribute__"))
  gg : PySem.W.findIn K (.ref C) "__getattr__" = some none
  sb : PySem.W.subIn K (.ref C) (.type "BaseException") = some true
  hd : PySem.W.hasDictIn K C = true
  ca : PySem.W.findIn K (.ref C) "__class__" = some (some (.builtin "object.__class__"))
  sp : PySem.W.specialIn K (.builtin "object.__class__") "__get__" = some (some (.builtin "getset_descriptor.__get__"))
  tk : PySem.W.takesIn K (.builtin "object.__class__") = some true
  mr : PySem.W.mroIn K C (.type "object") = some true
theorem hasF_look {w : Wd} {f : Str} {d : DV} : ∀ {fs : List (Str × V)} {ds : List (Str × DV)}, HasF w fs ds → ds.lookup f = some d → ∃ v, fs.lookup f = some v ∧ Has w v d
  | _, _, .nil, e => by cases e
  | _, _, .cons (k := g) h t, e => by
    by_cases c : f = g
    · subst c
      simp only [List.lookup, beq_self_eq_true] at e ⊢
      cases e
      exact ⟨_, rfl, h⟩
    · have c' : (f == g) = false := by simpa using c
      simp only [List.lookup, c'] at e ⊢
      exact hasF_look t e
end
section
variable {X : Cx} {e : Expr} {ρ : RO} {μ : List MO} {pos p py : Pos} {R : Cn} {f : Str}
/-- e.f of an own exception -/
theorem Ev.attrE (h : Ev X e ρ μ fun d μ1 => ∃ C fs v, d = .exc C fs ∧ XC X.K C ∧ PySem.W.findIn X.K (.ref C) f = some none ∧ fs.lookup f = some v ∧ R v μ1)
    (hb : attributeBase e f X.env (eval e X.env) = eval e X.env := by rfl) : Ev X (.Attribute e f pos) ρ μ R := by
  refine ⟨fun pins s σ H Q I ⟨α, E, q⟩ => attr_of hb (thn (h.run pins s σ H (fun v H1 => ∃ α1 μ1 d, (∃ C fs v, d = .exc C fs ∧ XC X.K C ∧ PySem.W.findIn X.K (.ref C) f = some none ∧ fs.lookup f = some v ∧ R v μ1) ∧ En ⟨X.K, α1, μ1, H1⟩ σ ρ ∧ Kp ⟨X.K, α, μ, H⟩ ⟨X.K, α1, μ1, H1⟩ ∧ Has ⟨X.K, α1, μ1, H1⟩ v d) I
    ⟨α, E, fun v d α1 μ1 H1 c E1 X1 hv => ⟨α1, μ1, d, c, E1, X1, hv⟩⟩) ?_)⟩
  rintro u s1 ⟨v, H1, I1, rv, α1, μ1, d, ⟨C, fs, y, rfl, T, hno, hl, r⟩, E1, X1, hv⟩
  cases hv with
  | exc0 _ => cases hl
  | @exc a _ dd ws _ h1 h2 hf =>
    have eu : u = Value.ref a := rv
    subst eu
    obtain ⟨t1, ho⟩ := exo_at I1.hok h1
    obtain ⟨mA, hns, rel⟩ := exd_at I1.hok h2
    obtain ⟨od, hod, hlk⟩ := lookIn_ns hns
    obtain ⟨z, hz, hy⟩ := hasF_look hf hl
    obtain ⟨u', hu', ru⟩ := RelO.some_of (v := z) (o := mA f) (by rw [← hz]; exact rel f)
    have J : PySem.W.InstAt s1.heap a _ C (some od) := ⟨ho, rfl, rfl, hod⟩
    exact HandSPX.exc_get I1.kIn J T.ga T.gg T.sb (PySem.W.findObj_own T.hd hno rfl (by rw [hlk, hu'])) (handed_of ru) ⟨z, H1, I1.tok _, ru, q _ _ α1 μ1 H1 r E1 X1 hy⟩
/-- an own exception of the class at C stands at a -/
def ExAt (H : Hp) (a C : Addr) : Prop := (∃ d fs, H a = some (exo a C (some d)) ∧ H d = some (exd d fs)) ∨ H a = some (ExO (.ref C) a)
theorem exAt_inst {pins : List (Addr × Obj)} {σ : L2.St} {H : Hp} {s : Shared} {a C : Addr} (I : Inv X pins σ H s) (h : ExAt H a C) : ∃ ox od, PySem.W.InstAt s.heap a ox C od := by
  rcases h with ⟨d, fs, h1, h2⟩ | h
  · obtain ⟨t1, ho⟩ := exo_at I.hok h1
    obtain ⟨mA, ⟨od, es, ep, hod, _⟩, rel⟩ := exd_at I.hok h2
    exact ⟨_, some od, ho, rfl, rfl, hod⟩
  · obtain ⟨⟨oe, vs, ho, hz, hd, _⟩, _, _⟩ := I.hok a _ h
    obtain ⟨oc, odd, oda, osl⟩ := oe
    obtain ⟨e1, e2⟩ := hz
    dsimp only at e1 e2 hd
    subst e1 e2 hd
    exact ⟨_, none, ho, rfl, rfl, trivial⟩
def rIsX (K : PySem.W.Frag) : List V → Hp → VK → Prop := fun xs H Q => ∃ a C c cv b, xs = [.ref a, c] ∧ ExAt H a C ∧ XC K C ∧ (∀ u, RelV c u → u = cv) ∧ PySem.W.kitOne K (.ref C) cv = some b ∧ Q (.bl b) H
theorem call_isX : CallR X (.builtin "isinstance") (rIsX X.K) := by
  intro pins s σ H xs us Q I r h
  obtain ⟨a, C, c, cv, b, rfl, ex, T, hc, hk, q⟩ := h
  obtain ⟨u, u', rfl, r1, r2⟩ := vals2 r
  have e1 : u = Value.ref a := r1
  have e2 := hc _ r2
  subst e1 e2
  obtain ⟨ox, od, J⟩ := exAt_inst I ex
  exact PySem.W.kia_one (PySem.W.kitx_exc T.cl T.ga T.gg T.sb T.ca T.sp T.tk T.mr) I.kIn J hk (fun z => nomatch z) fun tk => ⟨.bl b, H, I.kept (t' := tk) fun _ _ z => z, rfl, q⟩
theorem exAt_of {w : Wd} {v : V} {C : Addr} {fs : List (Str × DV)} (h : Has w v (.exc C fs)) : ∃ a, v = .ref a ∧ ExAt w.H a C := by
  cases h with
  | exc h1 h2 _ => exact ⟨_, rfl, .inl ⟨_, _, h1, h2⟩⟩
  | exc0 h1 => exact ⟨_, rfl, .inr h1⟩
/-- isinstance(e, y), y a class: own or built in -/
theorem Ev.isE {y : Str} {c : V} {cv : Value} (hg : Gl X "isinstance") (hm : X.mg "isinstance" = none) (hy : PE X (.Name y py) (tC c)) (hcv : ∀ u, RelV c u → u = cv)
    (h : Ev X e ρ μ fun d μ1 => ∃ C fs b, d = .exc C fs ∧ XC X.K C ∧ PySem.W.kitOne X.K (.ref C) cv = some b ∧ R (.bl b) μ1)
    (he : starEach [e, .Name y py] X.env = (false, eval e X.env) :: starEach [.Name y py] X.env := by rfl) (hpl : (backTo pos (starEach [.Name y py] X.env)).any (·.1) = false := by rfl)
    (hs : starEach [.Name y py] X.env = (false, eval (.Name y py) X.env) :: starEach [] X.env := by rfl) : Ev X (.Call (.Name "isinstance" p) [e, .Name y py] [] pos) ρ μ R :=
  PEw (pe_callB call_isX hg hm PyProof.Rows.boot_isinstance (pa_cons pe_a (pa_cons hy pa_nil hs) he) (by decide) (by decide) he hpl) fun σ H Q ⟨α, E, q⟩ => ⟨_, h, α, E, fun v d α1 μ1 H1 ⟨C, fs, b, e, T, hk, r⟩ E1 X1 hv => by
    subst e
    obtain ⟨a, rfl, ex⟩ := exAt_of hv
    exact ⟨a, C, c, cv, b, rfl, ex, T, hcv, hk, q _ _ α1 μ1 H1 r E1 X1 .bl⟩⟩
end
end Eg

namespace Eg
open PySem PySem.Spec L2
section
variable {X : Cx} {a b c : Expr} {ρ : RO} {μ : List MO} {pos : Pos}
abbrev toT (R : Ct) : Cn := fun d μ' => ∃ k, d = .bl k ∧ R k μ'
theorem EvT.cmpS {op : CmpOp} {R : Ct} {r : R2} {S : S2} (hr : OpR X (compareOp op) r) (k : R2S X r S) (hm : behindInMarks op b = false) (h : Ev X a ρ μ fun da μ1 => Ev X b ρ μ1 fun db μ2 => S da db μ2 (toT R)) : EvT X (.Compare a [op] [b] pos) ρ μ R :=
  PTw (pt_cmpR hr pe_a pe_a hm) fun σ H Q ⟨α, E, q⟩ => ⟨_, h, α, E, fun x da α1 μ1 H1 h1 E1 X1 hx => ⟨_, h1, α1, E1, fun y db α2 μ2 H2 h2 E2 X2 hy =>
    k α2 μ2 H2 σ ρ x y da db _ _ E2 (X2.has hx) hy h2 fun v d α' μ' H' ⟨t, e, r'⟩ E' X' hv => by
      subst e
      cases hv
      exact ⟨t, rfl, q t α' μ' H' r' E' (X1.trans (X2.trans X'))⟩⟩⟩
theorem EvT.lt {R : Ct} (h : Ev X a ρ μ fun da μ1 => Ev X b ρ μ1 fun db μ2 => sLt da db μ2 (toT R)) : EvT X (.Compare a [.Lt] [b] pos) ρ μ R := .cmpS op_lt (rI0_S fun _ _ _ => .bl) (nomark _) h
theorem EvT.le {R : Ct} (h : Ev X a ρ μ fun da μ1 => Ev X b ρ μ1 fun db μ2 => sLe da db μ2 (toT R)) : EvT X (.Compare a [.LtE] [b] pos) ρ μ R := .cmpS op_le (rI0_S fun _ _ _ => .bl) (nomark _) h
theorem EvT.gt {R : Ct} (h : Ev X a ρ μ fun da μ1 => Ev X b ρ μ1 fun db μ2 => sGt da db μ2 (toT R)) : EvT X (.Compare a [.Gt] [b] pos) ρ μ R := .cmpS op_gt (rI0_S fun _ _ _ => .bl) (nomark _) h
theorem EvT.ge {R : Ct} (h : Ev X a ρ μ fun da μ1 => Ev X b ρ μ1 fun db μ2 => sGe da db μ2 (toT R)) : EvT X (.Compare a [.GtE] [b] pos) ρ μ R := .cmpS op_ge (rI0_S fun _ _ _ => .bl) (nomark _) h
theorem EvT.eq {R : Ct} (h : Ev X a ρ μ fun da μ1 => Ev X b ρ μ1 fun db μ2 => sEq da db μ2 (toT R)) : EvT X (.Compare a [.Eq] [b] pos) ρ μ R := .cmpS op_eq rEq_S (nomark _) h
theorem EvT.ne {R : Ct} (h : Ev X a ρ μ fun da μ1 => Ev X b ρ μ1 fun db μ2 => sNe da db μ2 (toT R)) : EvT X (.Compare a [.NotEq] [b] pos) ρ μ R := .cmpS op_ne rNe_S (nomark _) h
theorem EvT.chain {op op' : CmpOp} {r r' : R2} {S S' : S2} {R : Ct} (ho : OpR X (compareOp op) r) (k : R2S X r S) (ho' : OpR X (compareOp op') r') (k' : R2S X r' S')
    (h : Ev X a ρ μ fun da μ1 => Ev X b ρ μ1 fun db μ2 => S da db μ2 fun d μ3 => ∃ t, d = .bl t ∧ if t = true then Ev X c ρ μ3 fun dc μ4 => S' db dc μ4 (toT R) else R false μ3) (hm : lastMarks [op, op'] [b, c] = false := by with_unfolding_all rfl) :
    EvT X (.Compare a [op, op'] [b, c] pos) ρ μ R := PTw (pt_chain ho ho' pe_a pe_a pe_a hm) fun σ H Q ⟨α, E, q⟩ =>
  ⟨_, h, α, E, fun x da α1 μ1 H1 h1 E1 X1 hx => ⟨_, h1, α1, E1, fun y db α2 μ2 H2 h2 E2 X2 hy =>
    k α2 μ2 H2 σ ρ x y da db _ _ E2 (X2.has hx) hy h2 fun v d α3 μ3 H3 ⟨t, e, h3⟩ E3 X3 hv => by
      subst e
      cases hv
      refine ⟨t, rfl, ?_⟩
      cases t with
      | true =>
        refine iteT ⟨_, show Ev X c ρ μ3 _ from h3, α3, E3, fun z dc α4 μ4 H4 h4 E4 X4 hz => k' α4 μ4 H4 σ ρ y z db dc _ _ E4 (X4.has (X3.has hy)) hz h4 fun v d α' μ' H' ⟨t2, e2, r'⟩ E' X' hv => ?_⟩
        subst e2
        cases hv
        exact ⟨t2, rfl, q t2 α' μ' H' r' E' (X1.trans (X2.trans (X3.trans (X4.trans X'))))⟩
      | false => exact iteF ⟨false, rfl, q _ α3 μ3 H3 h3 E3 (X1.trans (X2.trans X3))⟩⟩⟩
/-! ### lists of truths, whole numbers .. compared: == and != of data -/

mutual
theorem dp_has {w : Wd} : ∀ {v : V} {d : DV} {pd : PyData}, Has w v d → toPy d = some pd → pd.hasDict = false → Dp w.K w.H v pd
  | _, _, _, .non, e, _ => by cases e; exact .non
  | _, _, _, .bl, e, _ => by cases e; exact .bl _
  | _, _, _, .int, e, _ => by cases e; exact .int _
  | _, _, _, .str, e, _ => by cases e; exact .str _
  | _, _, _, .tup h t, e, nd => by
    obtain ⟨ds, e1, e2⟩ := Option.map_eq_some_iff.mp e
    subst e2
    exact .tup h (dpL_has t e1 (by simpa [PyData.hasDict] using nd))
  | _, _, _, @Has.lst _ p vs _ h t, e, nd => by
    obtain ⟨ds, e1, e2⟩ := Option.map_eq_some_iff.mp e
    subst e2
    have sq : SqL w.K w.H p vs := by
      rcases h with ⟨_, h⟩ | h
      · exact .inl h
      · exact h.sq
    exact .lst sq (dpL_has t e1 (by simpa [PyData.hasDict] using nd))
  | _, _, _, @Has.dic _ _ _ kds _ _ _, e, nd => by
    cases kds with
    | nil => cases e; simp [PyData.hasDict] at nd
    | cons _ _ => cases e
  | _, _, _, .exc _ _ _, e, _ => by cases e
  | _, _, _, .exc0 _, e, _ => by cases e
  | _, _, _, .mu _, e, _ => by cases e
theorem dpL_has {w : Wd} : ∀ {vs : List V} {ds : List DV} {pds : List PyData}, HasL w vs ds → toPyL ds = some pds → PyData.hasDictAll pds = false → DpAll w.K w.H vs pds
  | _, _, _, .nil, e, _ => by cases e; exact .nil
  | _, _, _, .cons h t, e, nd => by
    obtain ⟨d, e1, e2⟩ := Option.bind_eq_some_iff.mp e
    obtain ⟨ds, e3, e4⟩ := Option.map_eq_some_iff.mp e2
    subst e4
    have nd' : (PyData.hasDict d || PyData.hasDictAll ds) = false := by simpa [PyData.hasDictAll] using nd
    exact .cons (dp_has h e1 (Bool.or_eq_false_iff.mp nd').1) (dpL_has t e3 (Bool.or_eq_false_iff.mp nd').2)
end
def sEqD : S2 := fun x y μ R => ∃ d e, toPy x = some d ∧ toPy y = some e ∧ d.hasDict = false ∧ e.hasDict = false ∧ SeqAt.shaped d = true ∧ SeqAt.shaped e = true ∧ R (.bl (PyData.eqv d e)) μ
def sNeD : S2 := fun x y μ R => ∃ d e, toPy x = some d ∧ toPy y = some e ∧ d.hasDict = false ∧ e.hasDict = false ∧ SeqAt.shaped d = true ∧ SeqAt.shaped e = true ∧ R (.bl (!PyData.eqv d e)) μ
theorem rEqD_S : R2S X (rEqD X.K) sEqD := fun α μ H σ ρ x y da db R Q E hx hy h q => by
  obtain ⟨d, e, e1, e2, n1, n2, s1, s2, r⟩ := h
  exact ⟨d, e, dp_has hx e1 n1, dp_has hy e2 n2, s1, s2, q.sc E r .bl⟩
theorem rNeD_S : R2S X (rNeD X.K) sNeD := fun α μ H σ ρ x y da db R Q E hx hy h q => by
  obtain ⟨d, e, e1, e2, n1, n2, s1, s2, r⟩ := h
  exact ⟨d, e, dp_has hx e1 n1, dp_has hy e2 n2, s1, s2, q.sc E r .bl⟩
theorem EvT.neD {R : Ct} (hu : X.A.units + 64 < cLine) (h : Ev X a ρ μ fun da μ1 => Ev X b ρ μ1 fun db μ2 => sNeD da db μ2 (toT R)) : EvT X (.Compare a [.NotEq] [b] pos) ρ μ R := .cmpS (op_neD hu) rNeD_S (nomark _) h
theorem EvT.eqD {R : Ct} (hu : X.A.units + 64 < cLine) (h : Ev X a ρ μ fun da μ1 => Ev X b ρ μ1 fun db μ2 => sEqD da db μ2 (toT R)) : EvT X (.Compare a [.Eq] [b] pos) ρ μ R := .cmpS (op_eqD hu) rEqD_S (nomark _) h
/-! ### short words -/
theorem items_mu {k : Nat} {ds : List DV} (h : μ[k]? = some (.lst ds)) : itemsD μ (.mu k) = some ds := by
  show (match μ[k]? with | some (.lst ds) => some ds | _ => none) = some ds
  rw [h]
theorem sIx.mu {k : Nat} {ds : List DV} {i : Int} {d : DV} {R : Cn} (h : μ[k]? = some (.lst ds)) (e : atI ds i = some d) (r : R d μ) : sIx (.mu k) (.int i) μ R := .inl ⟨ds, i, d, items_mu h, rfl, e, r⟩
theorem sIx.tup {ds : List DV} {i : Int} {d : DV} {R : Cn} (e : atI ds i = some d) (r : R d μ) : sIx (.tup ds) (.int i) μ R := .inl ⟨ds, i, d, rfl, rfl, e, r⟩
theorem sIx.lst {ds : List DV} {i : Int} {d : DV} {R : Cn} (e : atI ds i = some d) (r : R d μ) : sIx (.lst ds) (.int i) μ R := .inl ⟨ds, i, d, rfl, rfl, e, r⟩
theorem ifd {p : Prop} [Decidable p] {A B : Prop} (h1 : p → A) (h2 : ¬ p → B) : if decide p = true then A else B := by
  by_cases h : p
  · rw [decide_eq_true h]
    exact iteT (h1 h)
  · rw [decide_eq_false h]
    exact iteF (h2 h)
theorem ifdT {p : Prop} [Decidable p] {A B : Prop} (h : p) (h1 : A) : if decide p = true then A else B := ifd (fun _ => h1) fun z => absurd h z
theorem ifdF {p : Prop} [Decidable p] {A B : Prop} (h : ¬ p) (h1 : B) : if decide p = true then A else B := ifd (fun z => absurd z h) fun _ => h1
theorem ifnT {p : Prop} [Decidable p] {A B : Prop} (h : ¬ p) (h1 : A) : if (!decide p) = true then A else B := by
  rw [decide_eq_false h]
  exact iteT h1
theorem ifnF {p : Prop} [Decidable p] {A B : Prop} (h : p) (h1 : B) : if (!decide p) = true then A else B := by
  rw [decide_eq_true h]
  exact iteF h1
theorem atI_of {α : Type} {xs : List α} {i : Int} {d : α} (h0 : 0 ≤ i) (h : xs[i.toNat]? = some d) : atI xs i = some d := by
  obtain ⟨hl, _⟩ := List.getElem?_eq_some_iff.mp h
  unfold atI ixN
  rw [if_pos h0, if_pos (by omega)]
  exact h
/-! ### the leaves -/
theorem sAdd.mk {i j : Int} {R : Cn} (r : R (.int (i + j)) μ) : sAdd (.int i) (.int j) μ R := ⟨i, j, rfl, rfl, r⟩
theorem sSub.mk {i j : Int} {R : Cn} (r : R (.int (i - j)) μ) : sSub (.int i) (.int j) μ R := ⟨i, j, rfl, rfl, r⟩
theorem sMul.mk {i j : Int} {R : Cn} (h : CMulW i j) (r : R (.int (i * j)) μ) : sMul (.int i) (.int j) μ R := ⟨i, j, rfl, rfl, h, r⟩
theorem sMod.mk {i j : Int} {R : Cn} (h : j ≠ 0) (r : R (.int (i.fmod j)) μ) : sMod (.int i) (.int j) μ R := ⟨i, j, rfl, rfl, h, r⟩
theorem sDiv.mk {i j : Int} {R : Cn} (h : CDivW i j) (r : R (.int (i / j)) μ) : sDiv (.int i) (.int j) μ R := ⟨i, j, rfl, rfl, h, r⟩
theorem sPow.mk {i j : Int} {R : Cn} (h : CPow i j) (r : R (.int (i ^ j.toNat)) μ) : sPow (.int i) (.int j) μ R := ⟨i, j, rfl, rfl, h, r⟩
theorem sLt.mk {i j : Int} {R : Cn} (r : R (.bl (decide (i < j))) μ) : sLt (.int i) (.int j) μ R := ⟨i, j, rfl, rfl, r⟩
theorem sLe.mk {i j : Int} {R : Cn} (r : R (.bl (decide (i ≤ j))) μ) : sLe (.int i) (.int j) μ R := ⟨i, j, rfl, rfl, r⟩
theorem sGt.mk {i j : Int} {R : Cn} (r : R (.bl (decide (j < i))) μ) : sGt (.int i) (.int j) μ R := ⟨i, j, rfl, rfl, r⟩
theorem sGe.mk {i j : Int} {R : Cn} (r : R (.bl (decide (j ≤ i))) μ) : sGe (.int i) (.int j) μ R := ⟨i, j, rfl, rfl, r⟩
theorem v_int {i j : Int} : decide (V.int i = V.int j) = decide (i = j) := by
  by_cases h : i = j
  · rw [h]; simp
  · rw [decide_eq_false h, decide_eq_false fun z => h (V.int.inj z)]
theorem sEq.int {i j : Int} {R : Cn} (r : R (.bl (decide (i = j))) μ) : sEq (.int i) (.int j) μ R := ⟨_, _, rfl, rfl, rfl, by rw [v_int]; exact r⟩
theorem sNe.int {i j : Int} {R : Cn} (r : R (.bl (!decide (i = j))) μ) : sNe (.int i) (.int j) μ R := ⟨_, _, rfl, rfl, rfl, by rw [v_int]; exact r⟩
theorem toT.mk {k : Bool} {R : Ct} (r : R k μ) : toT R (.bl k) μ := ⟨k, rfl, r⟩
theorem mulok {i j : Int} (h1 : i.natAbs < 18446744073709551616) (h2 : j.natAbs < 18446744073709551616) : CMulW i j :=
  wide_mul (a := 64) (b := 64) h1 h2 (by decide) (by decide) (by decide)
theorem divok {i j : Int} (h1 : 0 < j) (h2 : j.natAbs < 18446744073709551616) : CDivW i j := wide_div (b := 64) h1 h2 (by decide) (by decide)
theorem fmod_in {i j : Int} (h : 0 < j) : 0 ≤ i.fmod j ∧ i.fmod j < j := by
  rw [Int.fmod_eq_emod_of_nonneg _ (by omega)]
  exact ⟨Int.emod_nonneg _ (by omega), Int.emod_lt_of_pos _ h⟩
end
theorem Fn.imp {P : Program} {w : World} {K : PySem.W.Frag} {mg : Str → Option Value} {base : Heap} {x : Str} {k : Nat} {C C' : Ctr} (F : Fn P w K mg base x k C) (h : ∀ ds μ R, C' ds μ R → C ds μ R) : Fn P w K mg base x k C' := by
  obtain ⟨f, fd, ps, ⟨l, g⟩, r⟩ := F
  have imp : ∀ vs H Q E, SpD K C' vs H Q E → SpD K C vs H Q E := fun vs H Q E ⟨α, μ, ds, R, z1, z2, z3, z4⟩ => ⟨α, μ, ds, R, z1, z2, h _ _ _ z3, z4⟩
  exact ⟨f, fd, ps, ⟨fun vs H Q E z => l vs H Q E (imp _ _ _ _ z), fun A outer s H args us vs Q h1 h2 h3 h4 h5 h6 => g A outer s H args us vs Q h1 h2 h3 h4 h5 (imp _ _ _ _ h6)⟩, r⟩
end Eg

namespace Eg
open PySem PySem.Spec L2
section
variable {X : Cx} {ρ : RO} {μ : List MO} {pos : Pos}
theorem hasL3 {w : Wd} {vs : List V} {d e f : DV} (h : HasL w vs [d, e, f]) : ∃ v u t, vs = [v, u, t] ∧ Has w v d ∧ Has w u e ∧ Has w t f := by
  cases h with
  | cons h t =>
    obtain ⟨u, x, rfl, h2, h3⟩ := hasL2 t
    exact ⟨_, u, x, rfl, h, h2, h3⟩
/-- a, b, c = e1, e2, e3 -/
theorem St.par3 {R : Co} {e1 e2 e3 : Expr} (i j l : Nat) {x y z : Str} {px py pz pt : Pos} {kt k2 pt2} (hc : X.calm = true) (hN : X.N.Nodup) (hi : X.N[i]? = some x) (hj : X.N[j]? = some y) (hl : X.N[l]? = some z) (hij : i ≠ j) (hil : i ≠ l) (hjl : j ≠ l)
    (hx : X.env.scope.names.lookup x = some .local) (hy : X.env.scope.names.lookup y = some .local) (hz : X.env.scope.names.lookup z = some .local)
    (h : EvA X [e1, e2, e3] ρ μ fun ds μ1 => ∃ d1 d2 d3, ds = [d1, d2, d3] ∧ R (.nx (((ρ.set i (some d1)).set j (some d2)).set l (some d3)) μ1))
    (hw : swappedStores [.Tuple [.Name x px, .Name y py, .Name z pz] kt pt] (.Tuple [e1, e2, e3] k2 pt2) X.env = pure (some [x, y, z]) := by rfl)
    (hs : swapsWithSole [.Tuple [.Name x px, .Name y py, .Name z pz] kt pt] (.Tuple [e1, e2, e3] k2 pt2) pos.line X.env = pure false := by rfl) :
    St X (.Assign [.Tuple [.Name x px, .Name y py, .Name z pz] kt pt] (.Tuple [e1, e2, e3] k2 pt2) pos) ρ μ R :=
  PSw (ps_par3 hc hN hi hj hl hij hil hjl hx hy hz pa_a hw hs) fun D σ H ⟨α, E, q⟩ => ⟨_, h, α, E, fun vs ds α1 μ1 H1 ⟨d1, d2, d3, e, r⟩ E1 X1 hv => by
    subst e
    obtain ⟨v, u, t, rfl, hv1, hv2, hv3⟩ := hasL3 hv
    exact ⟨v, u, t, rfl, q.1 _ _ α1 μ1 H1 r (((E1.set i hv1).set j hv2).set l hv3) X1⟩⟩
/-- y = [e for x in xs] -/
theorem St.setLc {R : Co} {elt iter : Expr} {scope : Scope} {x y : Str} {px py spos : Pos} (i j : Nat) (hc : X.calm = true) (hN : X.N.Nodup) (hy : X.N[i]? = some y) (hyl : X.env.scope.names.lookup y = some .local)
    (hsw : swapsWith (.ListComp elt [⟨.Name x px, iter, [], 0⟩] scope pos) (some (.Name y py)) spos.line X.env = pure true) (hj : X.N[j]? = some x) (ok : BlkOk X.N X.env.scope scope [(x, j)])
    (hl : ∀ (s : Shared) (H : Hp) (C : Addr) (cl : List (Str × Addr)) (fp : List Addr), Loc (blkX X s H scope C cl fp).env.scope x ∧ ((blkX X s H scope C cl fp).fn x = true ∨ (blkX X s H scope C cl fp).env.scope.names.lookup x = some .local))
    (h : LcOk X scope elt iter x px j ρ μ fun d μ1 => R (.nx (ρ.set i (some d)) μ1)) (hs : ∀ x, foldedSetIterable iter X.env x = pure x := by intro _; rfl) :
    St X (.Assign [.Name y py] (.ListComp elt [⟨.Name x px, iter, [], 0⟩] scope pos) spos) ρ μ R :=
  PSw (ps_setLc (own := [(x, j)]) (g := gName j) hc hN hy hyl hsw pi_a ok (fun s H C cl fp => pg_name hN hj (hl s H C cl fp).1 (hl s H C cl fp).2) (fun s H C cl fp => pts_aB s H C cl fp) (fun s H C cl fp => pe_aB s H C cl fp) hs)
    fun D σ H ⟨α, E, q⟩ => lc_S0 h σ H _ ⟨α, E, fun v d α1 μ1 H1 r1 E1 X1 hv => q.1 _ _ α1 μ1 H1 r1 (E1.set i hv) X1⟩
end
end Eg

namespace Eg
open PySem PySem.Spec PyProof.Rows L2
section
variable {P : Program} {w : World} {K : PySem.W.Frag} {mg : Str → Option Value} {base : Heap}
/-- THE RULE for a def -/
theorem FnG.mk2 {x : Str} {params : Arguments} {body : List Stmt} {scope : Scope} {kws : List (Str × V)} {f : Addr} {fd : FuncData} {N ps : List Str} {k : Nat} {C : Ctr}
    (F : FunD K x x params body scope [] kws f fd) (S : FnScope N ps scope) 
    (len : ∀ ds μ R, C ds μ R → ds.length = ps.length)
    (hb : ∀ (cd : Value) (A : Around) (outer : List PySem.Env) (s : Shared) (H : Hp), (bx P w K mg base N x scope f cd A outer s H).A.guards = some [] → Room k (bx P w K mg base N x scope f cd A outer s H).A → (bx P w K mg base N x scope f cd A outer s H).N.Nodup →
      ∀ ds μ R, C ds μ R → Sts (bx P w K mg base N x scope f cd A outer s H) body (startD N ds) μ (fin μ.length R)) : FnG P w K mg base (k + 1) f fd ps (SpD K C) := by
  refine FnG.of F S (fun vs H Q E => ?_) (fun cd A outer s H vs Q hg hr => ?_)
  · rintro ⟨α, μ, ds, R, l, h, c, _⟩
    rw [h.length]
    exact len _ _ _ c
  · rintro ⟨α, μ, ds, R, l, h, c, q⟩
    refine ⟨_, hb cd A outer s H hg hr S.nd ds μ R c, α, start_en l h, ?_, ?_, ?_, ?_⟩
    · intro ρ' σ' α' μ' H' r E' k'
      rcases r with r | ⟨r1, r2⟩
      · exact q _ _ α' μ' H' r E'.live k' .non
      · exact q _ _ _ _ _ r2 (E'.live.cutL μ.length r1) (Live.cut l E'.live k') .non
    · intro v d α' μ' H' r l' k' hv
      rcases r with r | ⟨r0, r1, r2⟩
      · exact q _ _ α' μ' H' r l' k' hv
      · exact q _ _ _ _ _ r2 (l'.cutL μ.length r1) (Live.cut l l' k') (hv.cut r0)
    · intro _ _ _ _ _ r
      exact r.elim
    · intro _ _ _ _ _ r
      exact r.elim
end
theorem seer_sys {h : Heap} (n : h.NoSeer) : ∃ mm, h.Ns sysModules mm := by
  obtain ⟨mm, z, _⟩ := n.mods
  exact ⟨mm, z⟩
/-! ### a law's end -/
section
variable {P : Program} {w : World} {K : PySem.W.Frag} {mg mb : Str → Option Value} {k : Nat} {fa a : Addr} {fd : FuncData} {x : Str} {sp : Sp} {s₁ : Shared} {vs : List Value} {ns : List Int}
/-- the heap at the call: the script alone is told of, and not that if the text itself holds it -/
theorem law_goS (KX : K.In s₁.heap) (hns : s₁.heap.Ns mainGlobals mg) (hbl : s₁.heap.Ns builtinsNs mb) (hbb : ∀ x : Str, x ≠ "__name__" → mb x = bootBuiltins x) (hlim : s₁.heap.NoLimit) (hgen : s₁.gens = #[]) (hsys : ∃ mm, s₁.heap.Ns sysModules mm)
    (ha : s₁.heap.get? a = some { cls := .type "list", data := .seq vs.toArray }) (hi : IntsAre vs ns) (hl : ns.length ≤ sizeLine) (hr : Room k callerA)
    (F : ∀ base : Heap, K.In base → base.Ns mainGlobals mg → (∃ mm, base.Ns sysModules mm) → FnG P w K mg base k fa fd [x] sp) (hbind : ∀ (s : Shared) (u : Value), BindsTo s fd ⟨[u], []⟩ [(x, u)])
    (hsp : ∀ H : Hp, ((∀ b, H b = none) ∧ WrL K a (ns.map V.int)) ∨ (∃ o, H = fun b => if b = a then some (.frz o (.lst (ns.map V.int))) else none) → sp [.ref a] H (fun v _ => v = .bl true) E0) :
    codeAny (model P w) callerA (.call (.ref fa) ⟨[.ref a], []⟩) (fun r s' => r = .ok (.ret (.bool true)) ∧ OldK s₁.heap s'.heap ∧ s'.os = s₁.os ∧ AllBare s'.gens) s₁ := by
  have rv := vals_ints hi
  -- whatever H tells: at most of a, and of a as it stands
  have main : ∀ H : Hp, (∀ b, b ≠ a → H b = none) → (∀ u, H a = some u → u = .frz { cls := .type "list", data := .seq vs.toArray } (.lst (ns.map V.int))) → (H a = none ∨ K.lookup a = none) → sp [.ref a] H (fun v _ => v = .bl true) E0 →
      codeAny (model P w) callerA (.call (.ref fa) ⟨[.ref a], []⟩) (fun r s' => r = .ok (.ret (.bool true)) ∧ OldK s₁.heap s'.heap ∧ s'.os = s₁.os ∧ AllBare s'.gens) s₁ := by
    intro H h1 h2 h3 hq
    have ok : HOk P w H s₁.heap := by
      intro b u e
      have eb : b = a := Classical.byContradiction fun z => by
        rw [h1 b z] at e
        cases e
      subst eb
      have eu := h2 u e
      subst eu
      exact ⟨ha, by rw [List.length_map]; exact hl, vs, 0, rv, ha⟩
    have none_of_dict : ∀ {b : Addr} {o : Obj} {es : Array DictEntry} {ep : Nat}, s₁.heap.get? b = some o → o.data = .dict es ep → H b = none := by
      intro b o es ep e d
      refine h1 b fun z => ?_
      rw [z, ha] at e
      have := Option.some.inj e
      subst this
      cases d
    have ns_of : ∀ {b : Addr} {m : Str → Option Value}, s₁.heap.Ns b m → (hidT s₁.heap H).Ns b m := by
      rintro b m ⟨o, es, ep, e, d, r⟩
      exact ⟨o, es, ep, hidT_get e (none_of_dict e d), d, r⟩
    have kin : K.In (hidT s₁.heap H) := by
      intro b o e
      refine hidT_get (KX b o e) ?_
      by_cases z : b = a
      · subst z
        rcases h3 with h3 | h3
        · exact h3
        · rw [h3] at e
          cases e
      · exact h1 b z
    obtain ⟨mc, c1, c2⟩ := hlim
    have env0 : Env0 P w K mg (hidT s₁.heap H) callerA [] s₁ H :=
      ⟨rfl, ⟨kin, ns_of hns, ⟨mb, ns_of hbl, hbb⟩, mc, ns_of c1, c2⟩, fun _ _ e => of_hidT e, Nat.le_of_eq (hidT_size _ _), trivial, fun b z => absurd (show b ∈ ([] : List Addr) from z) List.not_mem_nil, ok, .of_eq hgen⟩
    refine codeAny_mono ((F _ kin (ns_of hns) (hsys.imp fun _ z => ns_of z)).go callerA [] s₁ H ⟨[.ref a], []⟩ [.ref a] [.ref a] _ rfl hr env0 (hbind s₁ (.ref a)) (.cons rfl .nil) hq) fun r s' z => ?_
    match r, z with
    | .ok (.ret u), ⟨v, H', os, bare, un, ok', rv', q⟩ =>
      have q' : v = .bl true := q
      subst q'
      have eu : u = Value.bool true := rv'
      subst eu
      refine ⟨rfl, OldK.of_keep fun b o e => ?_, os, bare⟩
      by_cases z : H b = none
      · exact un.keep b o e z (fun y => absurd (show b ∈ ([] : List Addr) from y) List.not_mem_nil) List.not_mem_nil
      · have eb : b = a := Classical.byContradiction fun y => z (h1 b y)
        subst eb
        cases hu : H b with
        | none => exact absurd hu z
        | some u =>
          have eu := h2 u hu
          rw [eu] at hu
          have t := (ok' b _ (un.frzs b _ _ hu)).1
          rw [ha] at e
          cases e
          exact t
    | .ok .next, z => exact z.elim
    | .ok .brk, z => exact z.elim
    | .ok .cont, z => exact z.elim
    | .error e, z => exact z.elim
  cases hk : K.lookup a with
  | none =>
    refine main (fun b => if b = a then some (.frz { cls := .type "list", data := .seq vs.toArray } (.lst (ns.map V.int))) else none) (fun b z => if_neg z) (fun u e => ?_) (.inr hk) (hsp _ (.inr ⟨_, rfl⟩))
    rw [if_pos rfl] at e
    exact (Option.some.inj e).symm
  | some o =>
    have eo : o = { cls := .type "list", data := .seq vs.toArray } := by
      have z := KX a o hk
      rw [ha] at z
      exact (Option.some.inj z).symm
    subst eo
    refine main (fun _ => none) (fun _ _ => rfl) (fun u e => nomatch e) (.inl rfl) (hsp _ (.inl ⟨fun _ => rfl, .inr ⟨_, vs.toArray, 0, hk, rfl, rfl, rfl, ?_, ?_⟩⟩))
    · have e1 := hi.length
      rw [List.size_toArray]
      omega
    · exact rv
end
theorem walk_S {l : PySem.W.OpenLaw} {n k : Nat} {q : Program} {loose : List Str} {XP : (Str → Option Value) → Heap → Prop} {YP : World → Heap → Prop} {d : DefRec} {C : Ctr}
    (hn : l.most = some n) (hn2 : n ≤ sizeLine) (hdf : d.params.defaults = []) (himp : PyProof.Rows.importsNone q = true) (hr : Room k callerA)
    (hC : ∀ ns : List Int, ns.length ≤ n → (∀ z ∈ ns, Builtin.Int.intBits z ≤ 1048576) → C [scD ns] [] fun d _ => d = .bl true)
    (F : ∀ (w : World) (mg : Str → Option Value) (fa : Addr) (h : Heap), YP w h → h.Ns mainGlobals mg → mg d.name = some (.ref fa) →
      ∃ (K : PySem.W.Frag) (fd : FuncData) (x : Str), K.In h ∧ (∀ (s : Shared) (u : Value), BindsTo s fd ⟨[u], []⟩ [(x, u)]) ∧ ∀ base : Heap, K.In base → base.Ns mainGlobals mg → (∃ mm, base.Ns sysModules mm) → FnG l.prog w K mg base k fa fd [x] (SpD K C)) :
    PySem.W.WalkO q loose XP YP l.row.toRowW d [] (fun f vs => PySem.call f vs) := by
  refine Att.attach_callB hn hdf fun w s₀ s₁ mg mb fa o pm cd doc a vs ns G Y ho hd hcd hmg hobj hints hlen hbits hg => ?_
  obtain ⟨K, fd, x, KX, hb, hF⟩ := F w mg fa _ Y G.T.g hmg
  refine law_goS KX G.T.g G.T.b G.T.builtins G.T.nolimit hg (seer_sys (G.T.seer himp)) hobj hints (Nat.le_trans hlen hn2) hr hF hb fun H hH => ?_
  have l0 : Live ⟨K, [], [], H⟩ := ⟨rfl, List.nodup_nil, fun _ h => absurd h List.not_mem_nil, fun k a o h => by simp at h⟩
  refine ⟨[], [], [scD ns], fun d _ => d = .bl true, l0, .cons (.lst ?_ (sc_has ns)) .nil, hC ns hlen hbits, ?_⟩
  · rcases hH with ⟨_, h⟩ | ⟨o, rfl⟩
    · exact .inr h
    · refine .inl ⟨?_, .inr ⟨o, if_pos rfl⟩⟩
      rintro ⟨k, u, h1, _⟩
      simp at h1
  · rintro v d α' μ' H' rfl _ _ hv
    cases hv
    rfl
end Eg

namespace Eg
open PySem PySem.Spec L2
/-! ### x is None -/
def DV.isN : DV → Bool
  | .non => true
  | _ => false
theorem isN_has {w : Wd} {v : V} {d : DV} (h : Has w v d) : decide (v = V.non) = DV.isN d := by
  cases h <;> simp [DV.isN]
def sIsN : S2 := fun x y μ R => y = .non ∧ R (.bl (DV.isN x)) μ
def sNotN : S2 := fun x y μ R => y = .non ∧ R (.bl (!DV.isN x)) μ
section
variable {X : Cx} {a b c e o : Expr} {ρ : RO} {μ : List MO} {pos p : Pos}
theorem rIsN_S : R2S X (fun x y H Q => y = .non ∧ Q (.bl (decide (x = .non))) H) sIsN := fun α μ H σ ρ x y da db R Q E hx hy h q => by
  obtain ⟨rfl, r⟩ := h
  cases hy
  refine ⟨rfl, ?_⟩
  rw [isN_has hx]
  exact q.sc E r .bl
theorem rNotN_S : R2S X (fun x y H Q => y = .non ∧ Q (.bl (!decide (x = .non))) H) sNotN := fun α μ H σ ρ x y da db R Q E hx hy h q => by
  obtain ⟨rfl, r⟩ := h
  cases hy
  refine ⟨rfl, ?_⟩
  rw [isN_has hx]
  exact q.sc E r .bl
theorem Ev.isN {R : Cn} (h : Ev X a ρ μ fun da μ1 => Ev X b ρ μ1 fun db μ2 => sIsN da db μ2 R) : Ev X (.Compare a [.Is] [b] pos) ρ μ R := .cmp op_isN rIsN_S (nomark _) h
theorem Ev.notN {R : Cn} (h : Ev X a ρ μ fun da μ1 => Ev X b ρ μ1 fun db μ2 => sNotN da db μ2 R) : Ev X (.Compare a [.IsNot] [b] pos) ρ μ R := .cmp op_notN rNotN_S (nomark _) h
theorem EvT.isN {R : Ct} (h : Ev X a ρ μ fun da μ1 => Ev X b ρ μ1 fun db μ2 => sIsN da db μ2 (toT R)) : EvT X (.Compare a [.Is] [b] pos) ρ μ R := .cmpS op_isN rIsN_S (nomark _) h
theorem EvT.notN {R : Ct} (h : Ev X a ρ μ fun da μ1 => Ev X b ρ μ1 fun db μ2 => sNotN da db μ2 (toT R)) : EvT X (.Compare a [.IsNot] [b] pos) ρ μ R := .cmpS op_notN rNotN_S (nomark _) h
theorem sIsN.mk {d : DV} {R : Cn} (r : R (.bl (DV.isN d)) μ) : sIsN d .non μ R := ⟨rfl, r⟩
theorem sNotN.mk {d : DV} {R : Cn} (r : R (.bl (!DV.isN d)) μ) : sNotN d .non μ R := ⟨rfl, r⟩
/-! ### == and != of data as values -/
theorem Ev.eqD {R : Cn} (hu : X.A.units + 64 < cLine) (h : Ev X a ρ μ fun da μ1 => Ev X b ρ μ1 fun db μ2 => sEqD da db μ2 R) : Ev X (.Compare a [.Eq] [b] pos) ρ μ R := .cmp (op_eqD hu) rEqD_S (nomark _) h
theorem Ev.neD {R : Cn} (hu : X.A.units + 64 < cLine) (h : Ev X a ρ μ fun da μ1 => Ev X b ρ μ1 fun db μ2 => sNeD da db μ2 R) : Ev X (.Compare a [.NotEq] [b] pos) ρ μ R := .cmp (op_neD hu) rNeD_S (nomark _) h
/-! ### texts: +, order, in -/
def sStr (C : Str → Str → Prop) (g : Str → Str → DV) : S2 := fun x y μ R => ∃ i j, x = .str i ∧ y = .str j ∧ C i j ∧ R (g i j) μ
def sAddS : S2 := sStr (fun i j => i.length + j.length ≤ sizeLine) fun i j => .str (i ++ j)
theorem rAddS_S : R2S X (fun x y H Q => ∃ i j, x = .str i ∧ y = .str j ∧ i.length + j.length ≤ sizeLine ∧ Q (.str (i ++ j)) H) sAddS := fun α μ H σ ρ x y da db R Q E hx hy h q => by
  obtain ⟨i, j, rfl, rfl, c, r⟩ := h
  cases hx
  cases hy
  exact ⟨i, j, rfl, rfl, c, q.sc E r .str⟩
theorem Ev.addS {R : Cn} (h : Ev X a ρ μ fun da μ1 => Ev X b ρ μ1 fun db μ2 => sAddS da db μ2 R) : Ev X (.BinOp a .Add b pos) ρ μ R := .op op_add_str rAddS_S h
def sCmpS (g : Str → Str → Bool) : S2 := fun x y μ R => ∃ i j, x = .str i ∧ y = .str j ∧ R (.bl (g i j)) μ
theorem rCmpS_S {g : Str → Str → Bool} : R2S X (fun x y H Q => ∃ i j, x = .str i ∧ y = .str j ∧ Q (.bl (g i j)) H) (sCmpS g) := fun α μ H σ ρ x y da db R Q E hx hy h q => by
  obtain ⟨i, j, rfl, rfl, r⟩ := h
  cases hx
  cases hy
  exact ⟨i, j, rfl, rfl, q.sc E r .bl⟩
/-- one sign in a text -/
def sSign : S2 := fun x y μ R => ∃ (c : Nat) (z : Str), x = .str ⟨#[c]⟩ ∧ y = .str z ∧ R (.bl (decide (c ∈ z.cps.toList))) μ
theorem rSign_S : R2S X (fun x y H Q => ∃ (c : Nat) (z : Str), x = .str ⟨#[c]⟩ ∧ y = .str z ∧ Q (.bl (decide (c ∈ z.cps.toList))) H) sSign := fun α μ H σ ρ x y da db R Q E hx hy h q => by
  obtain ⟨i, j, rfl, rfl, r⟩ := h
  cases hx
  cases hy
  exact ⟨i, j, rfl, rfl, q.sc E r .bl⟩
theorem EvT.inSign {R : Ct} (h : Ev X a ρ μ fun da μ1 => Ev X b ρ μ1 fun db μ2 => sSign da db μ2 (toT R)) (hmk : behindInMarks .In b = false := by rfl) : EvT X (.Compare a [.In] [b] pos) ρ μ R := .cmpS op_in_sign rSign_S hmk h
theorem Ev.inSign {R : Cn} (h : Ev X a ρ μ fun da μ1 => Ev X b ρ μ1 fun db μ2 => sSign da db μ2 R) (hmk : behindInMarks .In b = false := by rfl) : Ev X (.Compare a [.In] [b] pos) ρ μ R := .cmp op_in_sign rSign_S hmk h
/-! ### x in xs, all of it flat -/
def flatL : List DV → Option (List V)
  | [] => some []
  | d :: r => (DV.flat d).bind fun v => (flatL r).map (v :: ·)
theorem flatL_has {w : Wd} : ∀ {vs : List V} {ds : List DV} {us : List V}, HasL w vs ds → flatL ds = some us → vs = us
  | _, _, _, .nil, e => by cases e; rfl
  | _, _, _, .cons h t, e => by
    obtain ⟨u, e1, e2⟩ := Option.bind_eq_some_iff.mp e
    obtain ⟨us, e3, e4⟩ := Option.map_eq_some_iff.mp e2
    subst e4
    rw [flat_has h e1, flatL_has t e3]
theorem flat_flatV {d : DV} {v : V} (e : DV.flat d = some v) : flatV v = true := by
  cases d <;> first | (cases e; rfl) | cases e
theorem flatL_all : ∀ {ds : List DV} {us : List V}, flatL ds = some us → us.all flatV = true
  | [], _, e => by cases e; rfl
  | d :: r, _, e => by
    obtain ⟨u, e1, e2⟩ := Option.bind_eq_some_iff.mp e
    obtain ⟨us, e3, e4⟩ := Option.map_eq_some_iff.mp e2
    subst e4
    rw [List.all_cons, flat_flatV e1, flatL_all e3]
    rfl
def sIn (neg : Bool) : S2 := fun x y μ R => ∃ ds u us, itemsD μ y = some ds ∧ DV.flat x = some u ∧ flatL ds = some us ∧ R (.bl (if neg then !inV u us else inV u us)) μ
theorem rIn_S {neg : Bool} : R2S X (rIn X.K neg) (sIn neg) := fun α μ H σ ρ x y da db R Q E hx hy h q => by
  obtain ⟨ds, u, us, e1, e2, e3, r⟩ := h
  obtain ⟨p, vs, rfl, hl, s⟩ := seq_of E.live hy e1
  have ex := flat_has hx e2
  have es := flatL_has hl e3
  subst ex es
  exact ⟨p, vs, rfl, s, flat_flatV e2, flatL_all e3, q.sc E r .bl⟩
theorem Ev.inL {R : Cn} (h : Ev X a ρ μ fun da μ1 => Ev X b ρ μ1 fun db μ2 => sIn false da db μ2 R) (hmk : behindInMarks .In b = false := by rfl) : Ev X (.Compare a [.In] [b] pos) ρ μ R := .cmp op_in_seq rIn_S hmk h
theorem EvT.inL {R : Ct} (h : Ev X a ρ μ fun da μ1 => Ev X b ρ μ1 fun db μ2 => sIn false da db μ2 (toT R)) (hmk : behindInMarks .In b = false := by rfl) : EvT X (.Compare a [.In] [b] pos) ρ μ R := .cmpS op_in_seq rIn_S hmk h
theorem Ev.notInL {R : Cn} (h : Ev X a ρ μ fun da μ1 => Ev X b ρ μ1 fun db μ2 => sIn true da db μ2 R) (hmk : behindInMarks .NotIn b = false := by rfl) : Ev X (.Compare a [.NotIn] [b] pos) ρ μ R := .cmp op_notIn_seq rIn_S hmk h
theorem EvT.notInL {R : Ct} (h : Ev X a ρ μ fun da μ1 => Ev X b ρ μ1 fun db μ2 => sIn true da db μ2 (toT R)) (hmk : behindInMarks .NotIn b = false := by rfl) : EvT X (.Compare a [.NotIn] [b] pos) ρ μ R := .cmpS op_notIn_seq rIn_S hmk h
/-! ### tuples and lists put behind each other -/
def sCatT : S2 := fun x y μ R => ∃ xs ys, x = .tup xs ∧ y = .tup ys ∧ xs.length + ys.length ≤ sizeLine ∧ R (.tup (xs ++ ys)) μ
theorem rCatT_S : R2S X (rCatA X.K) sCatT := fun α μ H σ ρ x y da db R Q E hx hy h q => by
  obtain ⟨xs, ys, rfl, rfl, c, r⟩ := h
  cases hx with
  | @tup a vs _ s1 t1 =>
    cases hy with
    | @tup b us _ s2 t2 =>
      refine ⟨a, b, vs, us, rfl, rfl, s1, s2, by rw [t1.length, t2.length]; exact c, ?_, ?_, ?_⟩
      · rintro rfl
        have e : xs = [] := List.length_eq_zero_iff.mp t1.length.symm
        subst e
        exact q.sc E r (.tup s2 t2)
      · rintro _ rfl
        have e : ys = [] := List.length_eq_zero_iff.mp t2.length.symm
        subst e
        rw [List.append_nil] at r
        exact q.sc E r (.tup s1 t1)
      · intro _ _ p np
        obtain ⟨k, l⟩ := E.live.lay (o := .tup (vs ++ us)) np
        exact q _ _ α μ _ r (E.ext k l) k (.tup (.of upd_same) (k.hasL (HasL.app t1 t2)))
theorem Ev.catT {R : Cn} (h : Ev X a ρ μ fun da μ1 => Ev X b ρ μ1 fun db μ2 => sCatT da db μ2 R) : Ev X (.BinOp a .Add b pos) ρ μ R := .op op_catA rCatT_S h
/-- both are lists that may be changed; the new one is such a list too -/
def sCatM : S2 := fun x y μ R => ∃ i j xs ys, x = .mu i ∧ y = .mu j ∧ μ[i]? = some (.lst xs) ∧ μ[j]? = some (.lst ys) ∧ xs.length + ys.length ≤ sizeLine ∧ R (.mu μ.length) (μ ++ [.lst (xs ++ ys)])
theorem rCatM_S : R2S X rCat sCatM := fun α μ H σ ρ x y da db R Q E hx hy h q => by
  obtain ⟨i, j, xs, ys, rfl, rfl, h1, h2, c, r⟩ := h
  cases hx with
  | mu ha =>
    cases hy with
    | mu hb =>
      obtain ⟨vs, z1, z2⟩ := E.live.ob i _ _ ha h1
      obtain ⟨us, y1, y2⟩ := E.live.ob j _ _ hb h2
      refine ⟨_, _, vs, us, rfl, rfl, z1, y1, by rw [z2.length, y2.length]; exact c, fun p np => ?_⟩
      obtain ⟨k, l, e⟩ := E.live.layM (o := .lst (vs ++ us)) (m := .lst (xs ++ ys)) np (fun _ k => ⟨_, upd_same, k.hasL (HasL.app z2 y2)⟩)
      exact q _ _ _ _ _ r (E.ext k l) k (.mu e)
theorem Ev.catM {R : Cn} (h : Ev X a ρ μ fun da μ1 => Ev X b ρ μ1 fun db μ2 => sCatM da db μ2 R) : Ev X (.BinOp a .Add b pos) ρ μ R := .op op_cat rCatM_S h
/-! ### max, min of numbers -/
def sMax : SA := fun ds μ R => ∃ d ns, ds = [d] ∧ itemsD μ d = some (List.map DV.int ns) ∧ (∀ xs, d ≠ .tup xs) ∧ 0 < ns.length ∧ ∀ m, m ∈ ns → (∀ y, y ∈ ns → y ≤ m) → R (.int m) μ
def sMin : SA := fun ds μ R => ∃ d ns, ds = [d] ∧ itemsD μ d = some (List.map DV.int ns) ∧ (∀ xs, d ≠ .tup xs) ∧ 0 < ns.length ∧ ∀ m, m ∈ ns → (∀ y, y ∈ ns → m ≤ y) → R (.int m) μ
theorem ints_has {w : Wd} : ∀ {vs : List V} {ns : List Int}, HasL w vs (ns.map DV.int) → vs = ns.map V.int
  | _, [], .nil => rfl
  | _, n :: r, .cons h t => by
    cases h
    rw [List.map_cons, ints_has t]
theorem lst_of {w : Wd} {v : V} {d : DV} {ds : List DV} (l : Live w) (h : Has w v d) (e : itemsD w.μ d = some ds) (n : ∀ xs, d ≠ .tup xs) : ∃ p vs, v = .ref p ∧ HasL w vs ds ∧ SqL w.K w.H p vs := by
  cases d with
  | tup xs => exact absurd rfl (n xs)
  | lst xs =>
    cases e
    cases h with
    | lst hz t =>
      rcases hz with ⟨_, hz⟩ | hz
      · exact ⟨_, _, rfl, t, .inl hz⟩
      · exact ⟨_, _, rfl, t, hz.sq⟩
  | mu k =>
    cases h with
    | mu ha =>
      have e' : (match w.μ[k]? with | some (.lst ds) => some ds | _ => none) = some ds := e
      cases hk : w.μ[k]? with
      | none => rw [hk] at e'; cases e'
      | some m =>
        rw [hk] at e'
        cases m with
        | lst zs =>
          cases e'
          obtain ⟨vs, z1, z2⟩ := l.ob k _ _ ha hk
          exact ⟨_, vs, rfl, z2, .inl (.inl z1)⟩
        | _ => cases e'
  | _ => cases e
theorem max_S : RaS X (rMax X.K) sMax := fun α μ H σ ρ vs ds R Q E hv h q => by
  obtain ⟨d, ns, rfl, e, nt, h0, r⟩ := h
  obtain ⟨v, rfl, hw⟩ := hasL1 hv
  obtain ⟨p, us, rfl, hl, s⟩ := lst_of E.live hw e nt
  have eu := ints_has hl
  subst eu
  exact ⟨p, ns, rfl, s, h0, fun m h1 h2 => q.sc E (r m h1 h2) .int⟩
theorem min_S : RaS X (rMin X.K) sMin := fun α μ H σ ρ vs ds R Q E hv h q => by
  obtain ⟨d, ns, rfl, e, nt, h0, r⟩ := h
  obtain ⟨v, rfl, hw⟩ := hasL1 hv
  obtain ⟨p, us, rfl, hl, s⟩ := lst_of E.live hw e nt
  have eu := ints_has hl
  subst eu
  exact ⟨p, ns, rfl, s, h0, fun m h1 h2 => q.sc E (r m h1 h2) .int⟩
theorem Ev.max1 {R : Cn} (hc : X.calm = true) (hg : Gl X "max") (hm : X.mg "max" = none) (h : EvA X [a] ρ μ fun ds μ1 => sMax ds μ1 R) (he : starEach [a] X.env = (false, eval a X.env) :: starEach [] X.env := by rfl) :
    Ev X (.Call (.Name "max" p) [a] [] pos) ρ μ R := .callB (cr_max hc) max_S hg hm PyProof.Rows.boot_max h (by decide) (by decide) he rfl
theorem Ev.min1 {R : Cn} (hc : X.calm = true) (hg : Gl X "min") (hm : X.mg "min" = none) (h : EvA X [a] ρ μ fun ds μ1 => sMin ds μ1 R) (he : starEach [a] X.env = (false, eval a X.env) :: starEach [] X.env := by rfl) :
    Ev X (.Call (.Name "min" p) [a] [] pos) ρ μ R := .callB (cr_min hc) min_S hg hm PyProof.Rows.boot_min h (by decide) (by decide) he rfl
/-! ### isinstance of data -/
def DV.ty : DV → Option String
  | .non => some "NoneType"
  | .bl _ => some "bool"
  | .int _ => some "int"
  | .str _ => some "str"
  | .tup _ => some "tuple"
  | .lst _ => some "list"
  | .dic _ => some "dict"
  | _ => none
theorem ty_has {w : Wd} {v : V} {d : DV} {t : String} (h : Has w v d) (e : DV.ty d = some t) : TyX w.K w.H v (.type t) := by
  cases h with
  | non => cases e; exact .base .non
  | bl => cases e; exact .base (.bl _)
  | int => cases e; exact .base (.int _)
  | str => cases e; exact .base (.str _)
  | tup s _ =>
    cases e
    rcases s with (s | ⟨o, s⟩) | ⟨o, its, n, s, s1, _⟩
    · exact .base (.tup s)
    · exact .fTuple s
    · exact .kTuple s s1
  | lst s _ =>
    cases e
    have sq : ∀ {p : Addr} {vs : List V}, (¬w.lv p ∧ Rd w.H p (HO.lst vs) ∨ WrL w.K p vs) → SqL w.K w.H p vs := fun s => by
      rcases s with ⟨_, s⟩ | s
      · exact .inl s
      · exact s.sq
    rcases sq s with (s | ⟨o, s⟩) | ⟨o, its, n, s, s1, _⟩
    · exact .base (.lst s)
    · exact .base (.frz s)
    · exact .kList s s1
  | dic _ s _ => cases e; exact .base (.dK s)
  | exc _ _ _ => cases e
  | exc0 _ => cases e
  | mu _ => cases e
theorem Ev.isi {R : Cn} {y : Str} {py : Pos} {T : String} (hg : Gl X "isinstance") (hm : X.mg "isinstance" = none) (gy : Gl X y) (my : X.mg y = none) (hy : bootBuiltins y = some (.type T)) (ny : y ≠ "__name__") (dy : (y == ("__debug__" : Str)) = false)
    (h : Ev X e ρ μ fun d μ1 => ∃ t b, DV.ty d = some t ∧ PySem.W.kitOne X.K (.type t) (.type T) = some b ∧ R (.bl b) μ1)
    (he : starEach [e, .Name y py] X.env = (false, eval e X.env) :: starEach [.Name y py] X.env := by rfl) (hpl : (backTo pos (starEach [.Name y py] X.env)).any (·.1) = false := by rfl)
    (hs : starEach [.Name y py] X.env = (false, eval (.Name y py) X.env) :: starEach [] X.env := by rfl) : Ev X (.Call (.Name "isinstance" p) [e, .Name y py] [] pos) ρ μ R :=
  PEw (pe_callB call_isi hg hm PyProof.Rows.boot_isinstance (pa_cons pe_a (pa_cons (pe_bltn (v := .ty T) gy my hy rfl ny dy) pa_nil hs) he) (by decide) (by decide) he hpl) fun σ H Q ⟨α, E, q⟩ => ⟨_, h, α, E, fun v d α1 μ1 H1 ⟨t, b, e1, e2, r⟩ E1 X1 hv =>
    ⟨v, .ty T, .type t, .type T, b, rfl, .ty T, ty_has (w := ⟨X.K, α1, μ1, H1⟩) hv e1, e2, q _ _ α1 μ1 H1 r E1 X1 .bl⟩⟩
end
end Eg

namespace Eg
open PySem PySem.Spec L2
/-! ### own defs called by names -/
def permI {α : Type} (ix : List Nat) (xs : List α) : List α := ix.filterMap fun i => xs[i]?
theorem vals_at {vs : List V} {us : List Value} (h : Vals vs us) : ∀ i : Nat, (∃ v u, vs[i]? = some v ∧ us[i]? = some u ∧ RelV v u) ∨ (vs[i]? = none ∧ us[i]? = none) := by
  induction h with
  | nil => exact fun i => .inr ⟨rfl, rfl⟩
  | cons r t ih =>
    intro i
    cases i with
    | zero => exact .inl ⟨_, _, rfl, rfl, r⟩
    | succ i => exact ih i
theorem vals_perm {vs : List V} {us : List Value} (h : Vals vs us) : ∀ ix : List Nat, Vals (permI ix vs) (permI ix us)
  | [] => .nil
  | i :: r => by
    have ih := vals_perm h r
    unfold permI at ih ⊢
    rcases vals_at h i with ⟨v, u, e1, e2, rv⟩ | ⟨e1, e2⟩
    · rw [List.filterMap_cons_some (f := fun i => vs[i]?) e1, List.filterMap_cons_some (f := fun i => us[i]?) e2]
      exact .cons rv ih
    · rw [List.filterMap_cons_none (f := fun i => vs[i]?) e1, List.filterMap_cons_none (f := fun i => us[i]?) e2]
      exact ih
theorem hasL_perm {w : Wd} {vs : List V} {ds : List DV} (h : HasL w vs ds) : ∀ ix : List Nat, HasL w (permI ix vs) (permI ix ds)
  | [] => .nil
  | i :: r => by
    have ih := hasL_perm h r
    unfold permI at ih ⊢
    by_cases hi : i < ds.length
    · obtain ⟨v, e1, e2⟩ := h.get (List.getElem?_eq_getElem hi)
      rw [List.filterMap_cons_some (f := fun i => vs[i]?) e1, List.filterMap_cons_some (f := fun i => ds[i]?) (List.getElem?_eq_getElem hi)]
      exact .cons e2 ih
    · have e1 : ds[i]? = none := List.getElem?_eq_none (by omega)
      have e2 : vs[i]? = none := List.getElem?_eq_none (by rw [h.length]; omega)
      rw [List.filterMap_cons_none (f := fun i => vs[i]?) e2, List.filterMap_cons_none (f := fun i => ds[i]?) e1]
      exact ih
/-- the def of a name as Fn tells it, and how it takes the names ks -/
def FnW (P : Program) (w : World) (K : PySem.W.Frag) (mg : Str → Option Value) (base : Heap) (x : Str) (k : Nat) (C : Ctr) (ks : List Str) (ix : List Nat) : Prop :=
  ∃ f fd ps, FnG P w K mg base k f fd ps (SpD K C) ∧ mg x = some (.ref f) ∧ PySem.W.keepIn K (.ref f) = true ∧ ∀ (s : Shared) (us : List Value), us.length = ks.length → BindsTo s fd ⟨[], ks.zip us⟩ (ps.zip (permI ix us))
section
variable {P : Program} {w : World} {K : PySem.W.Frag} {mg : Str → Option Value} {base : Heap}
theorem FnW.mk {x : Str} {params : Arguments} {body : List Stmt} {scope : Scope} {kws : List (Str × V)} {f : Addr} {fd : FuncData} {ps : List Str} {k : Nat} {C : Ctr} (F : FunD K x x params body scope [] kws f fd) (G : FnG P w K mg base k f fd ps (SpD K C)) (hm : mg x = some (.ref f))
    (ks : List Str) (ix : List Nat) (hb : ∀ (kV doc pm : Value) (an : Option Addr) (cdv ct : Value) (us : List Value), us.length = ks.length → bindArgs (PySem.W.fnOf x x params body scope .none kV doc pm an cdv ct) ⟨[], ks.zip us⟩ = pure (ps.zip (permI ix us))) : FnW P w K mg base x k C ks ix := by
  refine ⟨f, fd, ps, G, hm, F.kp, ?_⟩
  obtain ⟨oc, od, dV, kV, doc, pm, an, cd, ct, osl, rfl, lk, hcd, hD, _⟩ := F.ex
  have hdV : dV = .none := by
    rcases hD with ⟨_, z⟩ | ⟨z, _⟩
    · exact z
    · exact absurd rfl z
  subst hdV
  intro s us hl M A E Q q
  rw [hb kV doc pm an cd ct us hl]
  exact wpAny_pure q
end
section
variable {X : Cx} {e : Expr} {es : List Expr} {kws : List Keyword} {ρ : RO} {μ : List MO} {pos p : Pos} {R : Cn} {x : Str} {k : Nat} {C : Ctr} {ks : List Str} {ix : List Nat}
theorem Ev.callW (F : FnW X.prog X.w X.K X.mg X.base x k C ks ix) (hA : X.A.guards = some []) (hr : Room k X.A) (hg : Gl X x) (h : EvK X kws ρ μ fun ds μ1 => ds.length = ks.length ∧ C (permI ix ds) μ1 R)
    (hdb : (x == ("__debug__" : Str)) = false := by decide) (hall : (backToKw pos (keywordEach kws X.env)).all (·.1.isSome) = true := by rfl) (hks : (backToKw pos (keywordEach kws X.env)).filterMap (·.1) = ks := by rfl)
    (hpl : ((backTo pos (starEach [] X.env)).any (·.1) || (backToKw pos (keywordEach kws X.env)).any (·.1.isNone)) = false := by rfl) : Ev X (.Call (.Name x p) [] kws pos) ρ μ R := by
  obtain ⟨f, fd, ps, G, hm, hk, hb⟩ := F
  refine ⟨fun pins s σ H Q I ⟨α, E, q⟩ => wpAny_Call_Name_kw (ld_glob I hg hm ?_ hdb)⟩
  have ha : PK X kws (tEvA X ρ μ fun ds μ1 => ds.length = ks.length ∧ C (permI ix ds) μ1 R) := h
  refine PySem.W.callWith_KW0 (h₀ := X.base) I.ok.mod.kin hk hall (thn (ha.run pos pins s σ H (fun vs H1 => vs.length = ks.length ∧ SpD X.K C (permI ix vs) H1 (fun v H' => Q v H') E0) I ⟨α, E, ?_⟩) ?_) hpl
  · intro vs ds α1 μ1 H1 ⟨hn, c⟩ E1 X1 hv
    exact ⟨hv.length.trans hn, α1, μ1, permI ix ds, R, E1.live, hasL_perm hv ix, c, fun v d α' μ' H' r l k' hd => q v d α' μ' H' r (E1.ext k' l) (X1.trans k') hd⟩
  · rintro us s1 ⟨vs, H1, I1, rv, hn, sp⟩
    refine ⟨I1.kIn, ?_⟩
    rw [hks]
    refine wpAny_call (codeAny_mono (G.go X.A X.stack s1 H1 ⟨[], ks.zip us⟩ (permI ix us) (permI ix vs) Q hA hr I1.env0 (hb s1 us (rv.length.symm.trans hn)) (vals_perm rv ix) sp) fun r s2 hq => ?_)
    cases r with
    | error er => exact False.elim hq
    | ok fl =>
      cases fl with
      | ret u => exact I1.after hq
      | next => exact False.elim hq
      | brk => exact False.elim hq
      | cont => exact False.elim hq
end
/-! ### [e for x in xs if c] -/
section
variable {X : Cx} {ρ : RO} {μ : List MO} {pos : Pos}
def LcIf (X : Cx) (scope : Scope) (elt iter c : Expr) (x : Str) (px : Pos) (i : Nat) (ρ : RO) (μ : List MO) (R : Cn) : Prop :=
  EvI X (.Name x px) iter ρ μ fun ds μ1 => ds.length ≤ sizeLine ∧ ∃ I : Nat → List DV → List MO → Prop, I 0 [] μ1 ∧
      (∀ j d acc μ2, ds[j]? = some d → μ2.length = μ1.length → I j acc μ2 → ∀ s H C cl fp, EvT (blkX X s H scope C cl fp) c (ρ.set i (some d)) (μ2 ++ [.lst acc]) fun b μ3 =>
        if b = true then ∀ s H C cl fp, Ev (blkX X s H scope C cl fp) elt (ρ.set i (some d)) μ3 fun y μ5 => ∃ μ4, μ5 = μ4 ++ [.lst acc] ∧ μ4.length = μ1.length ∧ I (j + 1) (acc ++ [y]) μ4
        else ∃ μ4, μ3 = μ4 ++ [.lst acc] ∧ μ4.length = μ1.length ∧ I (j + 1) acc μ4) ∧
      ∀ acc μ2, μ2.length = μ1.length → I ds.length acc μ2 → R (.lst acc) (μ2 ++ [.dead])
theorem lc_SI {R : Cn} {elt iter c : Expr} {scope : Scope} {x : Str} {px : Pos} {i : Nat} (h : LcIf X scope elt iter c x px i ρ μ R) (σ : L2.St) (H : Hp) (Q : VK) (q : tEv X ρ μ R σ H Q) :
    tLc (aI X (.Name x px) iter) (gName i) (aBT X scope [c]) (aB X scope elt) [i] σ H Q :=
  lc_S i (EvI.mono h fun ds μ1 ⟨hz, I, i0, turn, done⟩ => ⟨hz, I, i0, fun j d acc μ2 h1 h2 h3 => ⟨fun ρ' μ' Rt => tEvT X ρ' μ' Rt,
    fun s H C cl fp => pts_one (turn j d acc μ2 h1 h2 h3 s H C cl fp), fun _ _ _ _ _ _ z => z⟩, done⟩) σ H Q q
theorem Ev.lcIf {R : Cn} {elt iter c : Expr} {scope : Scope} {x : Str} {px : Pos} (i : Nat) (hc : X.calm = true) (hN : X.N.Nodup) (hi : X.N[i]? = some x) (ok : BlkOk X.N X.env.scope scope [(x, i)])
    (hl : ∀ (s : Shared) (H : Hp) (C : Addr) (cl : List (Str × Addr)) (fp : List Addr), Loc (blkX X s H scope C cl fp).env.scope x ∧ ((blkX X s H scope C cl fp).fn x = true ∨ (blkX X s H scope C cl fp).env.scope.names.lookup x = some .local))
    (h : LcIf X scope elt iter c x px i ρ μ R) (hs : ∀ x, foldedSetIterable iter X.env x = pure x := by intro _; rfl) : Ev X (.ListComp elt [⟨.Name x px, iter, [c], 0⟩] scope pos) ρ μ R :=
  PEw (pe_lc (own := [(x, i)]) (g := gName i) hc hN pi_a ok (fun s H C cl fp => pg_name hN hi (hl s H C cl fp).1 (hl s H C cl fp).2) (fun s H C cl fp => pts_aB s H C cl fp) (fun s H C cl fp => pe_aB s H C cl fp) hs) (lc_SI h)
theorem St.setLcIf {R : Co} {elt iter c : Expr} {scope : Scope} {x y : Str} {px py spos : Pos} (i j : Nat) (hc : X.calm = true) (hN : X.N.Nodup) (hy : X.N[i]? = some y) (hyl : X.env.scope.names.lookup y = some .local)
    (hsw : swapsWith (.ListComp elt [⟨.Name x px, iter, [c], 0⟩] scope pos) (some (.Name y py)) spos.line X.env = pure true) (hj : X.N[j]? = some x) (ok : BlkOk X.N X.env.scope scope [(x, j)])
    (hl : ∀ (s : Shared) (H : Hp) (C : Addr) (cl : List (Str × Addr)) (fp : List Addr), Loc (blkX X s H scope C cl fp).env.scope x ∧ ((blkX X s H scope C cl fp).fn x = true ∨ (blkX X s H scope C cl fp).env.scope.names.lookup x = some .local))
    (h : LcIf X scope elt iter c x px j ρ μ fun d μ1 => R (.nx (ρ.set i (some d)) μ1)) (hs : ∀ x, foldedSetIterable iter X.env x = pure x := by intro _; rfl) :
    St X (.Assign [.Name y py] (.ListComp elt [⟨.Name x px, iter, [c], 0⟩] scope pos) spos) ρ μ R :=
  PSw (ps_setLc (own := [(x, j)]) (g := gName j) hc hN hy hyl hsw pi_a ok (fun s H C cl fp => pg_name hN hj (hl s H C cl fp).1 (hl s H C cl fp).2) (fun s H C cl fp => pts_aB s H C cl fp) (fun s H C cl fp => pe_aB s H C cl fp) hs)
    fun D σ H ⟨α, E, q⟩ => lc_SI h σ H _ ⟨α, E, fun v d α1 μ1 H1 r1 E1 X1 hv => q.1 _ _ α1 μ1 H1 r1 (E1.set i hv) X1⟩
end
end Eg

namespace Eg
open PySem PySem.Spec L2
/-! ### for a, b in zip(xs, ys) -/
section
variable {X : Cx} {e e2 : Expr} {ρ : RO} {μ : List MO} {p pos tpos : Pos} {elts : List Expr} {kk : Nat} {Ra : Ca}
def zipD (xs ys : List DV) : List DV := List.zipWith (fun a b => DV.tup [a, b]) xs ys
theorem zipD_at {xs ys : List DV} {i : Nat} {d : DV} (h : (zipD xs ys)[i]? = some d) : ∃ x y, xs[i]? = some x ∧ ys[i]? = some y ∧ d = .tup [x, y] := by
  unfold zipD at h
  rw [List.getElem?_zipWith] at h
  cases hx : xs[i]? with
  | none => rw [hx] at h; cases h
  | some x =>
    cases hy : ys[i]? with
    | none => rw [hx, hy] at h; cases h
    | some y =>
      rw [hx, hy] at h
      exact ⟨x, y, rfl, rfl, (Option.some.inj h).symm⟩
theorem zipD_len (xs ys : List DV) : (zipD xs ys).length = min xs.length ys.length := by simp [zipD]
theorem sqT_of {w : Wd} {v : V} {ds : List DV} (h : Has w v (.tup ds)) : ∃ a vs, v = .ref a ∧ SqT w.K w.H a vs ∧ HasL w vs ds := by
  cases h with
  | tup s t => exact ⟨_, _, rfl, s, t⟩
theorem sqL_of {w : Wd} {v : V} {ds : List DV} (h : Has w v (.lst ds)) : ∃ a vs, v = .ref a ∧ SqL w.K w.H a vs ∧ HasL w vs ds := by
  cases h with
  | lst s t =>
    refine ⟨_, _, rfl, ?_, t⟩
    rcases s with ⟨_, s⟩ | s
    · exact .inl s
    · exact s.sq
theorem EvI.zipT (hg : Gl X "zip") (hm : X.mg "zip" = none) (h : EvA X [e, e2] ρ μ fun ds μ1 => ∃ xs ys, ds = [.tup xs, .tup ys] ∧ Ra (zipD xs ys) μ1)
    (hs : starEach [e, e2] X.env = (false, eval e X.env) :: starEach [e2] X.env := by rfl) (hpl : (backTo pos (starEach [e2] X.env)).any (·.1) = false := by rfl) : EvI X (.Tuple elts kk tpos) (.Call (.Name "zip" p) [e, e2] [] pos) ρ μ Ra :=
  PIw (RZ.pi_zipA hg hm pa_a hs hpl) fun σ H Q ⟨α, E, q⟩ => ⟨_, h, α, E, fun vs ds α1 μ1 H1 ⟨xs, ys, e, r⟩ E1 X1 hv => by
    subst e
    obtain ⟨v, u, rfl, h1, h2⟩ := hasL2 hv
    obtain ⟨a, vs1, rfl, s1, t1⟩ := sqT_of h1
    obtain ⟨b, vs2, rfl, s2, t2⟩ := sqT_of h2
    refine ⟨a, b, vs1, vs2, rfl, .inr ⟨s1, s2, q _ _ α1 μ1 H1 r E1 X1 fun α2 μ2 H2 k l => ?_⟩⟩
    obtain ⟨a', ws1, ea, r1, m1⟩ := sqT_of (k.has h1)
    obtain ⟨b', ws2, eb, r2, m2⟩ := sqT_of (k.has h2)
    cases ea
    cases eb
    refine ⟨fun i d hd => ?_, ⟨ws1, ws2, r1, r2, ?_⟩⟩
    · obtain ⟨x, y, e1, e2, rfl⟩ := zipD_at hd
      obtain ⟨x1, f1, g1⟩ := m1.get e1
      obtain ⟨y1, f2, g2⟩ := m2.get e2
      refine ⟨⟨ws1, ws2, x1, y1, r1, r2, f1, f2⟩, ?_⟩
      rintro z H' ⟨T, x2, y2, rfl, nT, rfl, c1, c2⟩
      have q1 := c1 ws1 r1
      have q2 := c2 ws2 r2
      rw [f1] at q1
      rw [f2] at q2
      cases q1
      cases q2
      obtain ⟨k2, l2⟩ := l.lay (o := .tup [x1, y1]) nT
      exact ⟨k2, l2, .tup (.of upd_same) (.cons (k2.has g1) (.cons (k2.has g2) .nil))⟩
    · rw [zipD_len, m1.length, m2.length]
      omega⟩
theorem EvI.zipL (hg : Gl X "zip") (hm : X.mg "zip" = none) (h : EvA X [e, e2] ρ μ fun ds μ1 => ∃ xs ys, ds = [.lst xs, .lst ys] ∧ Ra (zipD xs ys) μ1)
    (hs : starEach [e, e2] X.env = (false, eval e X.env) :: starEach [e2] X.env := by rfl) (hpl : (backTo pos (starEach [e2] X.env)).any (·.1) = false := by rfl) : EvI X (.Tuple elts kk tpos) (.Call (.Name "zip" p) [e, e2] [] pos) ρ μ Ra :=
  PIw (RZ.pi_zipA hg hm pa_a hs hpl) fun σ H Q ⟨α, E, q⟩ => ⟨_, h, α, E, fun vs ds α1 μ1 H1 ⟨xs, ys, e, r⟩ E1 X1 hv => by
    subst e
    obtain ⟨v, u, rfl, h1, h2⟩ := hasL2 hv
    obtain ⟨a, vs1, rfl, s1, t1⟩ := sqL_of h1
    obtain ⟨b, vs2, rfl, s2, t2⟩ := sqL_of h2
    refine ⟨a, b, vs1, vs2, rfl, .inl ⟨s1, s2, q _ _ α1 μ1 H1 r E1 X1 fun α2 μ2 H2 k l => ?_⟩⟩
    obtain ⟨a', ws1, ea, r1, m1⟩ := sqL_of (k.has h1)
    obtain ⟨b', ws2, eb, r2, m2⟩ := sqL_of (k.has h2)
    cases ea
    cases eb
    refine ⟨fun i d hd => ?_, ⟨ws1, ws2, r1, r2, ?_⟩⟩
    · obtain ⟨x, y, e1, e2, rfl⟩ := zipD_at hd
      obtain ⟨x1, f1, g1⟩ := m1.get e1
      obtain ⟨y1, f2, g2⟩ := m2.get e2
      refine ⟨⟨ws1, ws2, x1, y1, r1, r2, f1, f2⟩, ?_⟩
      rintro z H' ⟨T, x2, y2, rfl, nT, rfl, c1, c2⟩
      have q1 := c1 ws1 r1
      have q2 := c2 ws2 r2
      rw [f1] at q1
      rw [f2] at q2
      cases q1
      cases q2
      obtain ⟨k2, l2⟩ := l.lay (o := .tup [x1, y1]) nT
      exact ⟨k2, l2, .tup (.of upd_same) (.cons (k2.has g1) (.cons (k2.has g2) .nil))⟩
    · rw [zipD_len, m1.length, m2.length]
      omega⟩
end
end Eg

namespace Eg
open PySem PySem.Spec PyProof.Rows L2
section
variable {X : Cx} {ρ : RO} {μ : List MO} {pos : Pos} {R : Cn}
/-- the walk of a comprehension by what holds behind j items: I j what is made so far -/
theorem lc_S2 {elt iter : Expr} {ifs : List Expr} {scope : Scope} {x x' : Str} {px px' pt : Pos} {kt : Nat} (i i' : Nat) (hne : i ≠ i')
    (h : EvI X (.Tuple [.Name x px, .Name x' px'] kt pt) iter ρ μ fun ds μ1 => ds.length ≤ sizeLine ∧ ∃ I : Nat → List DV → List MO → Prop, I 0 [] μ1 ∧
      (∀ j d, ds[j]? = some d → ∃ d1 d2, d = .tup [d1, d2] ∧ ∀ acc μ2, μ2.length = μ1.length → I j acc μ2 → ∃ tt : RO → List MO → Ct → TT, (∀ s H C cl fp, PTs (blkX X s H scope C cl fp) ifs (tt ((ρ.set i (some d1)).set i' (some d2)) (μ2 ++ [.lst acc]) fun b μ3 =>
        if b = true then ∀ s H C cl fp, Ev (blkX X s H scope C cl fp) elt ((ρ.set i (some d1)).set i' (some d2)) μ3 fun y μ5 => ∃ μ4, μ5 = μ4 ++ [.lst acc] ∧ μ4.length = μ1.length ∧ I (j + 1) (acc ++ [y]) μ4
        else ∃ μ4, μ3 = μ4 ++ [.lst acc] ∧ μ4.length = μ1.length ∧ I (j + 1) acc μ4)) ∧ ∀ ρ' μ' Rt σ H Q, tEvT X ρ' μ' Rt σ H Q → tt ρ' μ' Rt σ H Q) ∧
      ∀ acc μ2, μ2.length = μ1.length → I ds.length acc μ2 → R (.lst acc) (μ2 ++ [.dead]))
    (σ : L2.St) (H : Hp) (Q : VK) (q : tEv X ρ μ R σ H Q) : tLc (aI X (.Tuple [.Name x px, .Name x' px'] kt pt) iter) (gTup X.K 2 (gCons (gName i) (gCons (gName i') gNil))) (aBT X scope ifs) (aB X scope elt) [i, i'] σ H Q := by
  obtain ⟨α, E, q⟩ := q
  refine ⟨_, h, α, E, ?_⟩
  rintro J ds α1 μ1 H1 ⟨hz, I, i0, turn, done⟩ E1 X1 ok D hD
  have hlen : α1.length = μ1.length := E1.live.len
  obtain ⟨kM, lM, eM⟩ := E1.live.layM (o := .lst []) (m := .lst []) hD (fun _ k => ⟨[], upd_same, .nil⟩)
  let P : Nat → Hp → Prop := fun j H' => ∃ acc μ' α', acc.length ≤ j ∧ I j acc μ' ∧ μ'.length = μ1.length ∧ α'[μ1.length]? = some D ∧ Live ⟨X.K, α', μ' ++ [.lst acc], H'⟩ ∧ Kp ⟨X.K, α1, μ1, H1⟩ ⟨X.K, α', μ' ++ [.lst acc], H'⟩
  refine ⟨fun j m H' => m = ds.length - j ∧ j ≤ ds.length ∧ P j H', ⟨ds.length, by simp, Nat.zero_le _, [], μ1, α1 ++ [D], Nat.le_refl _, i0, rfl, eM, lM, kM⟩, ?_⟩
  rintro j m H2 ⟨rfl, hj, acc, μ2, α2, ha, hI, hμ, hα, l2, k2⟩
  obtain ⟨go, stop⟩ := ok α2 _ H2 k2 l2
  have kD : (μ2 ++ [MO.lst acc])[μ1.length]? = some (.lst acc) := by
    rw [List.getElem?_append_right (by omega), hμ, Nat.sub_self]
    rfl
  have setl : ∀ (μ4 : List MO) (m m' : MO), μ4.length = μ1.length → (μ4 ++ [m]).set μ1.length m' = μ4 ++ [m'] := fun μ4 m m' e => by
    rw [← e]
    simp
  by_cases hlt : j < ds.length
  · obtain ⟨g1, g2⟩ := go j ds[j] (by simp [hlt])
    refine .inr ⟨g1, P (j + 1), fun H' p => ⟨ds.length - (j + 1), by omega, rfl, hlt, p⟩, fun y H3 yy => ?_⟩
    obtain ⟨ky, ly, hy⟩ := g2 y H3 yy
    obtain ⟨d1, d2, ed, turn'⟩ := turn j ds[j] (by simp [hlt])
    obtain ⟨tt, ht, hm⟩ := turn' acc μ2 hμ hI
    rw [ed] at hy
    obtain ⟨aT, ws, rfl, sT, tT⟩ := sqT_of hy
    obtain ⟨v1, v2, rfl, g1', g2'⟩ := hasL2 tT
    have ws2 : ∀ (τ : L2.St) (u v : Option V), wipe (((wipe τ [i, i']).set i u).set i' v) [i, i'] = wipe τ [i, i'] := fun τ u v => by
      simp only [wipe]
      rw [List.set_set, List.set_comm u none hne, List.set_set, List.set_comm none none hne, List.set_set, List.set_set]
    refine ⟨aT, _, rfl, sT, rfl, v1, [v2], rfl, v2, [], rfl, rfl, ws2 _ _ _, _, ht, ?_⟩
    have k3 := k2.trans ky
    have E3 : En ⟨X.K, α2, μ2 ++ [.lst acc], H3⟩ (((wipe σ [i, i']).set i (some v1)).set i' (some v2)) ((ρ.set i (some d1)).set i' (some d2)) := by
      have z := ((((E1.ext k3 ly).wipe i').wipe i).set i g1').set i' g2'
      have eρ : (((ρ.set i' none).set i none).set i (some d1)).set i' (some d2) = (ρ.set i (some d1)).set i' (some d2) := by
        rw [List.set_set, List.set_comm none (some d1) (Ne.symm hne), List.set_set]
      rw [eρ] at z
      exact z
    refine hm _ _ _ _ _ _ ⟨α2, E3, ?_⟩
    intro b α3 μ3 H4 r3 E4 k4
    cases b with
    | false =>
      refine iteF ?_
      obtain ⟨μ4, rfl, h4, hI4⟩ := r3
      exact ⟨acc, μ4, α3, Nat.le_succ_of_le ha, hI4, h4, k4.α _ _ hα, E4.live, k3.trans k4⟩
    | true =>
      refine iteT ⟨tEv X ((ρ.set i (some d1)).set i' (some d2)) μ3 _, r3, α3, E4, ?_⟩
      rintro v d α5 μ5 H5 ⟨μ4, rfl, h4, hI4⟩ E5 k5 hv
      have hα5 := k5.α _ _ (k4.α _ _ hα)
      have kD5 : (μ4 ++ [MO.lst acc])[μ1.length]? = some (.lst acc) := by
        rw [List.getElem?_append_right (by omega), h4, Nat.sub_self]
        rfl
      obtain ⟨vs, e1, e2⟩ := E5.live.ob _ _ _ hα5 kD5
      have hl := e2.length
      refine ⟨vs, e1, by omega, ?_⟩
      obtain ⟨k6, l6⟩ := E5.live.put (o := .lst (vs ++ [v])) (m := .lst (acc ++ [d])) hα5 kD5 (fun z => nomatch z) fun k => ⟨_, upd_same, HasL.app (k.hasL e2) (.cons (k.has hv) .nil)⟩
      rw [setl _ _ _ h4] at k6 l6
      exact ⟨acc ++ [d], μ4, α5, by rw [List.length_append]; exact Nat.succ_le_succ ha, hI4, h4, hα5, l6, k3.trans (k4.trans (k5.trans k6))⟩
  · have e : j = ds.length := by omega
    subst e
    refine .inl ⟨stop, ?_⟩
    obtain ⟨vs, e1, e2⟩ := l2.ob _ _ _ hα kD
    obtain ⟨k6, l6, nl⟩ := l2.freeze (k := μ1.length)
    rw [setl _ _ _ hμ] at k6 l6 nl
    have k7 := k2.trans k6
    exact q _ _ _ _ _ (done acc μ2 hμ hI) (E1.ext k7 l6) (X1.trans k7) (.lst (.inl ⟨nl _ hα, .inl e1⟩) (k6.hasL e2))
/-- [e for a, b in ..] -/
def Lc2 (X : Cx) (scope : Scope) (elt iter : Expr) (x x' : Str) (px px' pt : Pos) (kt i i' : Nat) (ρ : RO) (μ : List MO) (R : Cn) : Prop :=
  EvI X (.Tuple [.Name x px, .Name x' px'] kt pt) iter ρ μ fun ds μ1 => ds.length ≤ sizeLine ∧ ∃ I : Nat → List DV → List MO → Prop, I 0 [] μ1 ∧
      (∀ j d, ds[j]? = some d → ∃ d1 d2, d = .tup [d1, d2] ∧ ∀ acc μ2, μ2.length = μ1.length → I j acc μ2 → ∀ s H C cl fp, Ev (blkX X s H scope C cl fp) elt ((ρ.set i (some d1)).set i' (some d2)) (μ2 ++ [.lst acc]) fun y μ5 => ∃ μ4, μ5 = μ4 ++ [.lst acc] ∧ μ4.length = μ1.length ∧ I (j + 1) (acc ++ [y]) μ4) ∧
      ∀ acc μ2, μ2.length = μ1.length → I ds.length acc μ2 → R (.lst acc) (μ2 ++ [.dead])
theorem lc_S20 {elt iter : Expr} {scope : Scope} {x x' : Str} {px px' pt : Pos} {kt i i' : Nat} (hne : i ≠ i') (h : Lc2 X scope elt iter x x' px px' pt kt i i' ρ μ R) (σ : L2.St) (H : Hp) (Q : VK) (q : tEv X ρ μ R σ H Q) :
    tLc (aI X (.Tuple [.Name x px, .Name x' px'] kt pt) iter) (gTup X.K 2 (gCons (gName i) (gCons (gName i') gNil))) (aBT X scope []) (aB X scope elt) [i, i'] σ H Q :=
  lc_S2 i i' hne (EvI.mono h fun ds μ1 ⟨hz, I, i0, turn, done⟩ => ⟨hz, I, i0, fun j d h1 => by
    obtain ⟨d1, d2, ed, tn⟩ := turn j d h1
    exact ⟨d1, d2, ed, fun acc μ2 h2 h3 => ⟨fun ρ' μ' Rt σ H Q => ∃ α, En ⟨X.K, α, μ', H⟩ σ ρ' ∧ ∀ b α' μ'' H', Rt b μ'' → En ⟨X.K, α', μ'', H'⟩ σ ρ' → Kp ⟨X.K, α, μ', H⟩ ⟨X.K, α', μ'', H'⟩ → Q b H',
      fun s H C cl fp => ⟨fun pins s' σ H' Q' J ⟨α, E, q⟩ => pts_nil.run pins s' σ H' Q' J (q true α _ H' (tn acc μ2 h2 h3) E E.live.refl)⟩, fun _ _ _ _ _ _ z => z⟩⟩, done⟩) σ H Q q
theorem Ev.lc2 {elt iter : Expr} {scope : Scope} {x x' : Str} {px px' pt : Pos} {kt : Nat} (i i' : Nat) (hne : i ≠ i') (hc : X.calm = true) (hN : X.N.Nodup) (hi : X.N[i]? = some x) (hi' : X.N[i']? = some x') (ok : BlkOk X.N X.env.scope scope [(x, i), (x', i')])
    (hcb : ∀ (s : Shared) (H : Hp) (C : Addr) (cl : List (Str × Addr)) (fp : List Addr), (blkX X s H scope C cl fp).calm = true)
    (hl : ∀ (s : Shared) (H : Hp) (C : Addr) (cl : List (Str × Addr)) (fp : List Addr), Loc (blkX X s H scope C cl fp).env.scope x ∧ ((blkX X s H scope C cl fp).fn x = true ∨ (blkX X s H scope C cl fp).env.scope.names.lookup x = some .local))
    (hl' : ∀ (s : Shared) (H : Hp) (C : Addr) (cl : List (Str × Addr)) (fp : List Addr), Loc (blkX X s H scope C cl fp).env.scope x' ∧ ((blkX X s H scope C cl fp).fn x' = true ∨ (blkX X s H scope C cl fp).env.scope.names.lookup x' = some .local))
    (h : Lc2 X scope elt iter x x' px px' pt kt i i' ρ μ R) (hs : ∀ x, foldedSetIterable iter X.env x = pure x := by intro _; rfl) : Ev X (.ListComp elt [⟨.Tuple [.Name x px, .Name x' px'] kt pt, iter, [], 0⟩] scope pos) ρ μ R :=
  PEw (pe_lc (own := [(x, i), (x', i')]) (g := gTup X.K 2 (gCons (gName i) (gCons (gName i') gNil))) hc hN pi_a ok
    (fun s H C cl fp => pg_tup (hcb s H C cl fp) (pgs_cons (pg_name hN hi (hl s H C cl fp).1 (hl s H C cl fp).2) (pgs_cons (pg_name hN hi' (hl' s H C cl fp).1 (hl' s H C cl fp).2) pgs_nil)))
    (fun s H C cl fp => pts_aB s H C cl fp) (fun s H C cl fp => pe_aB s H C cl fp) hs) (lc_S20 hne h)
end
end Eg

namespace Eg
open PySem PySem.Spec L2
/-! ### what may be raised: a class and what it keeps -/
abbrev RXt := Addr → List (Str × DV) → List MO → Prop
/-- all that the context takes -/
def Wmax (X : Cx) : WX := fun c d σ H => ∀ u s', XE X (fun c' d' σ' H' => c' = c ∧ d' = d ∧ σ' = σ ∧ H' = H) u s' → X.xe u s'
theorem takes_max {X : Cx} : Takes X (Wmax X) := fun u s' ⟨a, B, sI, pins, σ, H, cls, d, e, I, nb, up, sky, na, os, ag, w⟩ =>
  w u s' ⟨a, B, sI, pins, σ, H, cls, d, e, I, nb, up, sky, na, os, ag, rfl, rfl, rfl, rfl⟩
theorem wmax_of {X : Cx} {W : WX} (t : Takes X W) {c : Value} {d : Option Addr} {σ : L2.St} {H : Hp} (h : σ.length = X.N.length → W c d σ H) : Wmax X c d σ H :=
  fun u s' ⟨a, B, sI, pins, σ', H', cls, d', e, I, nb, up, sky, na, os, ag, e1, e2, e3, e4⟩ => by
    subst e1 e2 e3 e4
    exact t u s' ⟨a, B, sI, pins, σ', H', cls, d', e, I, nb, up, sky, na, os, ag, h I.len⟩
/-- the wish at a raise, seen from the world w -/
def xq (X : Cx) (w : Wd) (RX : RXt) : Prop := ∀ C ds d fs σ' α' μ' H', RX C ds μ' → Live ⟨X.K, α', μ', H'⟩ → Kp w ⟨X.K, α', μ', H'⟩ → H' d = some (.xd fs) → HasF ⟨X.K, α', μ', H'⟩ fs ds → Wmax X (.ref C) (some d) σ' H'
theorem xq.next {X : Cx} {w : Wd} {RX : RXt} (q : xq X w RX) {w' : Wd} (k : Kp w w') : xq X w' RX := fun C ds d fs σ' α' μ' H' r l k' h1 h2 => q C ds d fs σ' α' μ' H' r l (k.trans k') h1 h2
section
variable {X : Cx} {a b c e : Expr} {es : List Expr} {s : Stmt} {rest xs ys : List Stmt} {ρ : RO} {μ : List MO} {pos p : Pos} {RX : RXt}
def tStX (X : Cx) (ρ : RO) (μ : List MO) (R : Co) (RX : RXt) : TS := fun D σ H => ∃ α, En ⟨X.K, α, μ, H⟩ σ ρ ∧
  ((∀ ρ' σ' α' μ' H', R (.nx ρ' μ') → En ⟨X.K, α', μ', H'⟩ σ' ρ' → Kp ⟨X.K, α, μ, H⟩ ⟨X.K, α', μ', H'⟩ → D.nx σ' H') ∧
   (∀ v d α' μ' H', R (.rt d μ') → Live ⟨X.K, α', μ', H'⟩ → Kp ⟨X.K, α, μ, H⟩ ⟨X.K, α', μ', H'⟩ → Has ⟨X.K, α', μ', H'⟩ v d → D.rt v H') ∧
   (∀ ρ' σ' α' μ' H', R (.bk ρ' μ') → En ⟨X.K, α', μ', H'⟩ σ' ρ' → Kp ⟨X.K, α, μ, H⟩ ⟨X.K, α', μ', H'⟩ → D.bk σ' H') ∧
   (∀ ρ' σ' α' μ' H', R (.ct ρ' μ') → En ⟨X.K, α', μ', H'⟩ σ' ρ' → Kp ⟨X.K, α, μ, H⟩ ⟨X.K, α', μ', H'⟩ → D.ct σ' H')) ∧ xq X ⟨X.K, α, μ, H⟩ RX
def StX (X : Cx) (s : Stmt) (ρ : RO) (μ : List MO) (R : Co) (RX : RXt) : Prop := PS X s (tStX X ρ μ R RX)
def StsX (X : Cx) (s : List Stmt) (ρ : RO) (μ : List MO) (R : Co) (RX : RXt) : Prop := PSs X s (tStX X ρ μ R RX)
theorem St.x {R : Co} (h : St X s ρ μ R) : StX X s ρ μ R RX := PSw h fun D σ H ⟨α, E, q, _⟩ => ⟨α, E, q⟩
theorem Sts.x {R : Co} (h : Sts X xs ρ μ R) : StsX X xs ρ μ R RX := PSsw h fun D σ H ⟨α, E, q, _⟩ => ⟨α, E, q⟩
def seqX (X : Cx) (rest : List Stmt) (R : Co) (RX : RXt) : Co := fun o => match o with
  | .nx ρ μ => StsX X rest ρ μ R RX
  | o => R o
theorem StsX.nil {R : Co} (h : R (.nx ρ μ)) : StsX X [] ρ μ R RX := Sts.x (Sts.nil h)
theorem StsX.cons {R : Co} (h : StX X s ρ μ (seqX X rest R RX) RX) : StsX X (s :: rest) ρ μ R RX :=
  PSsw (pss_cons (t := fun D σ H => ∃ t, PS X s t ∧ t D σ H) (u := fun D σ H => ∃ t, PSs X rest t ∧ t D σ H) ⟨fun pins s' σ H D I ⟨_, h, q⟩ => h.run pins s' σ H D I q⟩ ⟨fun pins s' σ H D I ⟨_, h, q⟩ => h.run pins s' σ H D I q⟩)
    fun D σ H ⟨α, E, ⟨q1, q2, q3, q4⟩, qx⟩ => ⟨_, h, α, E, ⟨fun ρ' σ' α' μ' H' (r : StsX X rest ρ' μ' R RX) E' X' => ⟨_, r, α', E',
      ⟨fun ρ2 σ2 α2 μ2 H2 r2 E2 X2 => q1 ρ2 σ2 α2 μ2 H2 r2 E2 (X'.trans X2), fun v d α2 μ2 H2 r2 l2 X2 => q2 v d α2 μ2 H2 r2 l2 (X'.trans X2),
      fun ρ2 σ2 α2 μ2 H2 r2 E2 X2 => q3 ρ2 σ2 α2 μ2 H2 r2 E2 (X'.trans X2), fun ρ2 σ2 α2 μ2 H2 r2 E2 X2 => q4 ρ2 σ2 α2 μ2 H2 r2 E2 (X'.trans X2)⟩, qx.next X'⟩, q2, q3, q4⟩, qx⟩
theorem StX.ifS {R : Co} (h : EvT X c ρ μ fun k μ1 => if k = true then StsX X xs ρ μ1 R RX else StsX X ys ρ μ1 R RX) : StX X (.If c xs ys pos) ρ μ R RX :=
  PSw (ps_if pt_a (t := fun D σ H => ∃ t, PSs X xs t ∧ t D σ H) (u := fun D σ H => ∃ t, PSs X ys t ∧ t D σ H) ⟨fun pins s' σ H D I ⟨_, h, q⟩ => h.run pins s' σ H D I q⟩ ⟨fun pins s' σ H D I ⟨_, h, q⟩ => h.run pins s' σ H D I q⟩)
    fun D σ H ⟨α, E, ⟨q1, q2, q3, q4⟩, qx⟩ => ⟨_, h, α, E, fun k α' μ' H' r E' X' => by
      have all : tStX X ρ μ' R RX D σ H' := ⟨α', E', ⟨fun ρ2 σ2 α2 μ2 H2 r2 E2 X2 => q1 ρ2 σ2 α2 μ2 H2 r2 E2 (X'.trans X2), fun v d α2 μ2 H2 r2 l2 X2 => q2 v d α2 μ2 H2 r2 l2 (X'.trans X2),
        fun ρ2 σ2 α2 μ2 H2 r2 E2 X2 => q3 ρ2 σ2 α2 μ2 H2 r2 E2 (X'.trans X2), fun ρ2 σ2 α2 μ2 H2 r2 E2 X2 => q4 ρ2 σ2 α2 μ2 H2 r2 E2 (X'.trans X2)⟩, qx.next X'⟩
      cases k with
      | true => exact iteT ⟨_, (show StsX X xs ρ μ' R RX from r), all⟩
      | false => exact iteF ⟨_, (show StsX X ys ρ μ' R RX from r), all⟩⟩
/-! ### a call that may raise, as the whole of an expression -/
def tEvX (X : Cx) (ρ : RO) (μ : List MO) (R : Cn) (RX : RXt) : TE := fun σ H Q => ∃ α, En ⟨X.K, α, μ, H⟩ σ ρ ∧
  (∀ v d α' μ' H', R d μ' → En ⟨X.K, α', μ', H'⟩ σ ρ → Kp ⟨X.K, α, μ, H⟩ ⟨X.K, α', μ', H'⟩ → Has ⟨X.K, α', μ', H'⟩ v d → Q v H') ∧ xq X ⟨X.K, α, μ, H⟩ RX
def EvX (X : Cx) (e : Expr) (ρ : RO) (μ : List MO) (R : Cn) (RX : RXt) : Prop := PE X e (tEvX X ρ μ R RX)
theorem Ev.x {R : Cn} (h : Ev X e ρ μ R) : EvX X e ρ μ R RX := PEw h fun σ H Q ⟨α, E, q, _⟩ => ⟨α, E, q⟩
theorem StX.expr {R : Co} (h : EvX X e ρ μ (fun _ μ1 => R (.nx ρ μ1)) RX) (hs : swapsWith e none pos.line X.env = pure false := by rfl) : StX X (.Expr e pos) ρ μ R RX :=
  PSw (ps_expr h hs) fun D σ H ⟨α, E, ⟨q1, q2, q3, q4⟩, qx⟩ => ⟨α, E, fun v d α' μ' H' r E' X' hv => q1 ρ σ α' μ' H' r E' X', qx⟩
theorem StX.ret {R : Co} (h : EvX X e ρ μ (fun d μ1 => R (.rt d μ1)) RX) : StX X (.Return (some e) pos) ρ μ R RX :=
  PSw (ps_ret h) fun D σ H ⟨α, E, ⟨q1, q2, q3, q4⟩, qx⟩ => ⟨α, E, fun v d α' μ' H' r E' X' hv => q2 v d α' μ' H' r E'.live X' hv, qx⟩
theorem StX.set {R : Co} (i : Nat) {x : Str} {pos' : Pos} (hN : X.N.Nodup) (hi : X.N[i]? = some x) (hx : Loc X.env.scope x) (hf : X.fn x = true ∨ X.env.scope.names.lookup x = some .local) (h : EvX X e ρ μ (fun d μ1 => R (.nx (ρ.set i (some d)) μ1)) RX) (hs : swapsWith e (some (.Name x pos')) pos.line X.env = pure false := by rfl) :
    StX X (.Assign [.Name x pos'] e pos) ρ μ R RX :=
  PSw (ps_set hN hi hx h hs hf) fun D σ H ⟨α, E, ⟨q1, q2, q3, q4⟩, qx⟩ => ⟨α, E, fun v d α1 μ1 H1 r1 E1 X1 hv => q1 _ _ α1 μ1 H1 r1 (E1.set i hv) X1, qx⟩
end
end Eg

namespace Eg
open PySem PySem.Spec PyProof.Rows L2
/-! ### defs that may raise -/
structure FnR (P : Program) (w : World) (K : PySem.W.Frag) (mg : Str → Option Value) (base : Heap) (k : Nat) (f : Addr) (fd : FuncData) (ps : List Str) (sp : Sp) : Prop where
  len : ∀ vs H Q E, sp vs H Q E → vs.length = ps.length
  go : ∀ (A : Around) (outer : List PySem.Env) (s : Shared) (H : Hp) (args : Args) (us : List Value) (vs : List V) (Q : VK) (E : XK), A.guards = some [] → Room k A → Env0 P w K mg base A outer s H →
    BindsTo s fd args (ps.zip us) → Vals vs us → sp vs H Q E → codeAny (model P w) A (.call (.ref f) args) (CR (L2.CX P w) outer P w H s Q E) s
/-- the context of a body that may raise -/
abbrev bxE (P : Program) (w : World) (K : PySem.W.Frag) (mg : Str → Option Value) (base : Heap) (N : List Str) (qual : Str) (scope : Scope) (f : Addr) (cd : Value) (A : Around) (outer : List PySem.Env) (s : Shared) (H : Hp) (E : XK) : Cx :=
  cxOf (L2.CX P w) P w K mg base N qual scope f cd A outer s H E
section
variable {P : Program} {w : World} {K : PySem.W.Frag} {mg : Str → Option Value} {base : Heap}
theorem takes_bx {N : List Str} {qual : Str} {scope : Scope} {f : Addr} {cd : Value} {A : Around} {outer : List PySem.Env} {s : Shared} {H : Hp} {E : XK} : Takes (bxE P w K mg base N qual scope f cd A outer s H E) (fun cls d _ H' => E cls d H') :=
  takes_of rfl rfl rfl rfl
theorem FnR.of {x qual : Str} {params : Arguments} {body : List Stmt} {scope : Scope} {dvs : List V} {kws : List (Str × V)} {f : Addr} {fd : FuncData} {N ps : List Str} {k : Nat} {sp : Sp}
    (F : FunD K x qual params body scope dvs kws f fd) (S : FnScope N ps scope) (len : ∀ vs H Q E, sp vs H Q E → vs.length = ps.length)
    (hb : ∀ (cd : Value) (A : Around) (outer : List PySem.Env) (s : Shared) (H : Hp) (vs : List V) (Q : VK) (E : XK), (A.deeper (envOfC qual scope s.heap.objs.size f cd)).guards = some [] → Room k (A.deeper (envOfC qual scope s.heap.objs.size f cd)) → sp vs H Q E →
      ∃ t, PSs (bxE P w K mg base N qual scope f cd A outer s H E) body t ∧ t { nx := fun _ H' => Q .non H', rt := Q } (L2.start N vs) H) : FnR P w K mg base (k + 1) f fd ps sp := by
  obtain ⟨oc, od, dV, kV, doc, pm, an, cd, ct, osl, rfl, lk, hcd, _, _⟩ := F.ex
  refine ⟨len, ?_⟩
  intro A outer s H args us vs Q E hg hr e0 hbind rv hsp
  have room := hr.deeper (envOfC qual scope s.heap.objs.size f cd)
  obtain ⟨t, ht, hq⟩ := hb cd A outer s H vs Q E (guards_in _ hg) room hsp
  have keep : ∀ b o, base.get? b = some o → s.heap.get? b = some o := fun b o z => (e0.bs b o z).1
  have KX : K.In s.heap := e0.mod.kin.keeps keep
  refine codeAny_call_function hr.depth (KX _ _ lk) rfl S.co S.gen rfl (PySem.W.codeRec_of KX hcd) (hbind _ _ _ _ ?_)
  have kinds : ∀ y ∈ ps.zip us, scope.names.lookup y.1 = some .local ∨ (scope.names.lookup y.1 = some .cell ∧ ((cellsFrom (s.heap.objs.size + 1) scope.names []).lookup y.1).isSome = true) := by
    rintro ⟨n, u⟩ hy
    have z := S.par n (List.of_mem_zip hy).1
    exact z.imp id fun z => ⟨z, PySem.W.cellsFrom_some _ _ _ (.inl z)⟩
  refine wpAny_newFunctionEnv_cells S.kind kinds fun env he s1 ic => ?_
  cases he
  refine ⟨(e0.mod.nolimit.keeps keep).keeps ic.toInCall.keep, codeAny_func ?_⟩
  have I : L2.Inv (bxE P w K mg base N qual scope f cd A outer s H E) [] (L2.start N vs) H s1 := inv_start S hr.hd e0 (len _ _ _ _ hsp) rv ic
  refine wpAny_mono (ht.run [] s1 (L2.start N vs) H _ I hq) (fun fl s' q => ?_) (fun _ _ z => z)
  cases fl with
  | ret u =>
    obtain ⟨v, σ', H', J, r, q⟩ := q
    exact ⟨v, H', J.os, J.bare, J.base, J.hok, r, q⟩
  | next =>
    obtain ⟨σ', H', J, q⟩ := q
    exact ⟨.non, H', J.os, J.bare, J.base, J.hok, rfl, q⟩
  | brk => exact (by obtain ⟨_, _, _, q⟩ := q; exact False.elim q)
  | cont => exact (by obtain ⟨_, _, _, q⟩ := q; exact False.elim q)
end
/-! ### promises over data, with what may be raised -/
abbrev CtrX := List DV → List MO → Cn → RXt → Prop
def SpX (K : PySem.W.Frag) (C : CtrX) : Sp := fun vs H Q E => ∃ α μ ds R RX, Live ⟨K, α, μ, H⟩ ∧ HasL ⟨K, α, μ, H⟩ vs ds ∧ C ds μ R RX ∧
  (∀ v d α' μ' H', R d μ' → Live ⟨K, α', μ', H'⟩ → Kp ⟨K, α, μ, H⟩ ⟨K, α', μ', H'⟩ → Has ⟨K, α', μ', H'⟩ v d → Q v H') ∧
  ∀ Cx ds d fs α' μ' H', RX Cx ds μ' → Live ⟨K, α', μ', H'⟩ → Kp ⟨K, α, μ, H⟩ ⟨K, α', μ', H'⟩ → H' d = some (.xd fs) → HasF ⟨K, α', μ', H'⟩ fs ds → E (.ref Cx) (some d) H'
def FnX (P : Program) (w : World) (K : PySem.W.Frag) (mg : Str → Option Value) (base : Heap) (x : Str) (k : Nat) (C : CtrX) : Prop :=
  ∃ f fd ps, FnR P w K mg base k f fd ps (SpX K C) ∧ mg x = some (.ref f) ∧ PySem.W.keepIn K (.ref f) = true ∧ Binds K fd ps []
theorem FnX.mono {P : Program} {w : World} {K : PySem.W.Frag} {mg : Str → Option Value} {base : Heap} {x : Str} {j k : Nat} {C : CtrX} (F : FnX P w K mg base x j C) (h : j ≤ k) : FnX P w K mg base x k C := by
  obtain ⟨f, fd, ps, ⟨l, g⟩, r⟩ := F
  exact ⟨f, fd, ps, ⟨l, fun A outer s H args us vs Q E hg hr => g A outer s H args us vs Q E hg (hr.mono h)⟩, r⟩
/-- what is raised behind a body; what was made beside may be forgotten -/
def finX (n : Nat) (RX : RXt) : RXt := fun C fs μ => RX C fs μ ∨ (DV.belF n fs = true ∧ (μ.take n).all (MO.bel n) = true ∧ RX C fs (μ.take n))
theorem hasF_cut {w : Wd} {n : Nat} {fs : List (Str × V)} {ds : List (Str × DV)} (h : HasF w fs ds) (p : DV.belF n ds = true) : HasF (w.cut n) fs ds := HasF.move (w := w) (w' := w.cut n) (n := n) rfl rfl (fun _ z => cut_lv z) cut_α h p
section
variable {P : Program} {w : World} {K : PySem.W.Frag} {mg : Str → Option Value} {base : Heap}
/-- THE RULE for a def that may raise -/
theorem FnR.mk2 {x : Str} {params : Arguments} {body : List Stmt} {scope : Scope} {kws : List (Str × V)} {f : Addr} {fd : FuncData} {N ps : List Str} {k : Nat} {C : CtrX}
    (F : FunD K x x params body scope [] kws f fd) (S : FnScope N ps scope) (len : ∀ ds μ R RX, C ds μ R RX → ds.length = ps.length)
    (hb : ∀ (cd : Value) (A : Around) (outer : List PySem.Env) (s : Shared) (H : Hp) (E : XK), (bxE P w K mg base N x scope f cd A outer s H E).A.guards = some [] → Room k (bxE P w K mg base N x scope f cd A outer s H E).A → (bxE P w K mg base N x scope f cd A outer s H E).N.Nodup →
      ∀ ds μ R RX, C ds μ R RX → StsX (bxE P w K mg base N x scope f cd A outer s H E) body (startD N ds) μ (fin μ.length R) (finX μ.length RX)) : FnR P w K mg base (k + 1) f fd ps (SpX K C) := by
  refine FnR.of F S (fun vs H Q E => ?_) (fun cd A outer s H vs Q E hg hr => ?_)
  · rintro ⟨α, μ, ds, R, RX, l, h, c, _⟩
    rw [h.length]
    exact len _ _ _ _ c
  · rintro ⟨α, μ, ds, R, RX, l, h, c, q, qx⟩
    refine ⟨_, hb cd A outer s H E hg hr S.nd ds μ R RX c, α, start_en l h, ⟨?_, ?_, ?_, ?_⟩, ?_⟩
    · intro ρ' σ' α' μ' H' r E' k'
      rcases r with r | ⟨r1, r2⟩
      · exact q _ _ α' μ' H' r E'.live k' .non
      · exact q _ _ _ _ _ r2 (E'.live.cutL μ.length r1) (Live.cut l E'.live k') .non
    · intro v d α' μ' H' r l' k' hv
      rcases r with r | ⟨r0, r1, r2⟩
      · exact q _ _ α' μ' H' r l' k' hv
      · exact q _ _ _ _ _ r2 (l'.cutL μ.length r1) (Live.cut l l' k') (hv.cut r0)
    · intro _ _ _ _ _ r
      exact r.elim
    · intro _ _ _ _ _ r
      exact r.elim
    · intro C' ds' d fs σ' α' μ' H' r l' k' h1 h2
      refine wmax_of takes_bx fun _ => ?_
      rcases r with r | ⟨r0, r1, r2⟩
      · exact qx _ _ _ _ _ _ _ r l' k' h1 h2
      · exact qx _ _ _ _ _ _ _ r2 (l'.cutL μ.length r1) (Live.cut l l' k') h1 (hasF_cut h2 r0)
theorem FnX.mk {x : Str} {params : Arguments} {body : List Stmt} {scope : Scope} {kws : List (Str × V)} {f : Addr} {fd : FuncData} {N ps : List Str} {k : Nat} {C : CtrX}
    (F : FunD K x x params body scope [] kws f fd) (S : FnScope N ps scope) (hm : mg x = some (.ref f))
    (hbd : ∀ (kV doc pm : Value) (an : Option Addr) (cdv ct : Value) (us : List Value), us.length = ps.length → bindArgs (PySem.W.fnOf x x params body scope .none kV doc pm an cdv ct) ⟨us, []⟩ = pure (ps.zip us))
    (len : ∀ ds μ R RX, C ds μ R RX → ds.length = ps.length)
    (hb : ∀ (cd : Value) (A : Around) (outer : List PySem.Env) (s : Shared) (H : Hp) (E : XK), (bxE P w K mg base N x scope f cd A outer s H E).A.guards = some [] → Room k (bxE P w K mg base N x scope f cd A outer s H E).A → (bxE P w K mg base N x scope f cd A outer s H E).N.Nodup →
      ∀ ds μ R RX, C ds μ R RX → StsX (bxE P w K mg base N x scope f cd A outer s H E) body (startD N ds) μ (fin μ.length R) (finX μ.length RX)) : FnX P w K mg base x (k + 1) C :=
  ⟨f, fd, ps, FnR.mk2 F S len hb, hm, F.kp, F.bindsN hbd⟩
end
section
variable {X : Cx} {e : Expr} {es : List Expr} {ρ : RO} {μ : List MO} {pos p : Pos} {R : Cn} {RX : RXt} {x : Str} {k : Nat} {C : CtrX}
theorem EvX.call (F : FnX X.prog X.w X.K X.mg X.base x k C) (hA : X.A.guards = some []) (hr : Room k X.A) (hg : Gl X x) (h : EvA X (e :: es) ρ μ fun ds μ1 => C ds μ1 R RX)
    (hdb : (x == ("__debug__" : Str)) = false := by decide) (he : starEach (e :: es) X.env = (false, eval e X.env) :: starEach es X.env := by rfl) (hpl : (backTo pos (starEach es X.env)).any (·.1) = false := by rfl) :
    EvX X (.Call (.Name x p) (e :: es) [] pos) ρ μ R RX := by
  obtain ⟨f, fd, ps, G, hm, hk, hb⟩ := F
  refine ⟨fun pins s σ H Q I ⟨α, E, q, qx⟩ => wpAny_Call_Name_kw (ld_glob I hg hm ?_ hdb)⟩
  have ha : PA X (e :: es) (tEvA X ρ μ fun ds μ1 => C ds μ1 R RX) := h
  refine PySem.W.callWith_K (h₀ := X.base) I.ok.mod.kin hk (thn (ha.run pos pins s σ H (fun vs H1 => SpX X.K C vs H1 (fun v H' => Q v H') (fun c d H' => Wmax X c d σ H')) I ⟨α, E, ?_⟩) ?_) he hpl
  · intro vs ds α1 μ1 H1 c E1 X1 hv
    exact ⟨α1, μ1, ds, R, RX, E1.live, hv, c, fun v d α' μ' H' r l k' hd => q v d α' μ' H' r (E1.ext k' l) (X1.trans k') hd,
      fun C' ds' d fs α' μ' H' r l k' h1 h2 => qx C' ds' d fs σ α' μ' H' r l (X1.trans k') h1 h2⟩
  · rintro us s1 ⟨vs, H1, I1, rv, sp⟩
    refine ⟨I1.kIn, ?_⟩
    have hl : us.length = ps.length := rv.length ▸ G.len _ _ _ _ sp
    refine wpAny_call (codeAny_mono (G.go X.A X.stack s1 H1 ⟨us, []⟩ us vs Q _ hA hr I1.env0 ?_ rv sp) fun r s2 hq => ?_)
    · have z := hb s1 us I1.kIn (by rw [List.append_nil]; exact hl)
      rw [List.append_nil] at z
      exact z
    · cases r with
      | error er => exact takes_max er s2 (XE.of_call I1 (fun _ _ _ h => h) hq)
      | ok fl =>
        cases fl with
        | ret u => exact I1.after hq
        | next => exact False.elim hq
        | brk => exact False.elim hq
        | cont => exact False.elim hq
end
end Eg

namespace Eg
open PySem PySem.Spec L2
/-! ### raise X(e, ..) of an own class whose __init__ stores -/
structure XR (P : Program) (w : World) (K : PySem.W.Frag) (mg : Str → Option Value) (base : Heap) (x : Str) (C : Addr) (k n : Nat) (fl : List V → List (Str × V)) : Prop where
  gC : mg x = some (.ref C)
  oc : OexC K C
  ini : ∃ fI fd ps, PySem.W.findIn K (.ref C) "__init__" = some (some (.ref fI)) ∧ PySem.W.typeIn K (.ref fI) = some (.type "function") ∧ FnOk P w K mg base L2.CX0 k fI fd ps (spI C n fl) ∧ Binds K fd ps []
section
variable {X : Cx} {e : Expr} {es : List Expr} {ρ : RO} {μ : List MO} {pos p pos1 : Pos} {R : Co} {RX : RXt} {x : Str} {C : Addr} {k n : Nat} {fl : List V → List (Str × V)}
theorem StX.raise {fdf : List DV → List (Str × DV)} (T : XR X.prog X.w X.K X.mg X.base x C k n fl) (hr : Room (k + 1) X.A) (hg : Gl X x) (hc : X.calm = true) (h0 : n ≤ 1000) (hf : ∀ ys ds w, HasL w ys ds → ys.length = n → HasF w (fl ys) (fdf ds))
    (h : EvA X (e :: es) ρ μ fun ds μ1 => ds.length = n ∧ RX C (fdf ds) μ1)
    (hdb : (x == ("__debug__" : Str)) = false := by decide) (he : starEach (e :: es) X.env = (false, eval e X.env) :: starEach es X.env := by rfl) (hpl : (backTo pos1 (starEach es X.env)).any (·.1) = false := by rfl) :
    StX X (.Raise (some (.Call (.Name x p) (e :: es) [] pos1)) none pos) ρ μ R RX := by
  obtain ⟨gC, oc, fI, fd, ps, iC, tI, F1, hb⟩ := T
  have ha : PA X (e :: es) (tEvA X ρ μ fun ds μ1 => ds.length = n ∧ RX C (fdf ds) μ1) := h
  refine PSw (ps_raise hc takes_max (pmk_oex oc iC tI F1 hr hb .nil pass0 hg gC ha hdb he hpl)) fun D σ H ⟨α, E, _, qx⟩ => ?_
  refine ⟨α, E, fun vs ds α1 μ1 H1 ⟨hn, r⟩ E1 X1 hv => ?_⟩
  have hl : vs.length = n := hv.length.trans hn
  refine ⟨by omega, fun a na => ⟨a, vs ++ [], rfl, by rw [List.append_nil]; exact hl, upd_same, fun d H' h1 h2 h3 h4 => ?_⟩⟩
  rw [List.append_nil] at h3
  have nd : d ≠ a := fun z => by
    rw [z, upd_same] at h1
    cases h1
  rw [upd_ne nd] at h1
  have keep : ∀ b, H1 b ≠ none → (upd (del H' a) d (.xd (fl vs))) b = H1 b := fun b hb => by
    have n1 : b ≠ a := fun z => hb (by rw [z]; exact na)
    have n2 : b ≠ d := fun z => hb (by rw [z]; exact h1)
    rw [upd_ne n2]
    show (if b = a then none else H' b) = H1 b
    rw [if_neg n1, h4 b (by rw [upd_ne n1]; exact hb) n1, upd_ne n1]
  obtain ⟨kp, l⟩ := E1.live.lays keep
  exact ⟨rfl, d, fl vs, h2, h3, h1, qx C (fdf ds) d (fl vs) σ α1 μ1 _ r l (X1.trans kp) upd_same (hf _ _ _ (kp.hasL hv) hl)⟩
end
/-! ### try: .. except X as n: return [s, n.f, n.g] -/
section
variable {X : Cx} {ρ : RO} {μ : List MO} {pos pos' np p1 p2 p3 p4 p5 p6 p7 : Pos} {R : Co} {x n s f1 f2 : Str} {C : Addr} {body : List Stmt} {j : Nat}
theorem St.try2 (i : Nat) (hs : X.stack = X.env :: X.outer) (hf : X.env.frame = some X.env.locals) (hN : X.N.Nodup) (hi : X.N[i]? = some n) (hln : X.env.kindOf n = some .local) (hc : Names X x (.ref C)) (hv : Vis X.env.scope n)
    (hd : (n == ("__debug__" : Str)) = false) (hcd : (n == ("__classdict__" : Str)) = false) (XF : XfC X.K C) (no1 : PySem.W.findIn X.K (.ref C) f1 = some none) (no2 : PySem.W.findIn X.K (.ref C) f2 = some none) (hx : PySem.W.exmOne X.K (.ref C) (.ref C) = some true)
    (h : ∀ pn xe, PassesOwn (model X.prog X.w) X.A X.env xe → StsX (X.tr pn xe) body ρ μ R fun C' fs μ' => C' = C ∧ ∃ d1 d2, fs.lookup f1 = some d1 ∧ fs.lookup f2 = some d2 ∧ R (.rt (.lst [.str s, d1, d2]) μ')) :
    St X (.Try body [.ExceptHandler (some (.Name x np)) (some n) [.Return (some (.List [.Constant (.str s) j p1, .Attribute (.Name n p2) f1 p3, .Attribute (.Name n p4) f2 p5] p6)) p7] pos'] [] [] pos) ρ μ R := by
  refine PSw (ps_try_as (i := i) (tb := fun W D σ H => ∃ α, En ⟨X.K, α, μ, H⟩ σ ρ ∧
      ((∀ ρ' σ' α' μ' H', R (.nx ρ' μ') → En ⟨X.K, α', μ', H'⟩ σ' ρ' → Kp ⟨X.K, α, μ, H⟩ ⟨X.K, α', μ', H'⟩ → D.nx σ' H') ∧
       (∀ v d α' μ' H', R (.rt d μ') → Live ⟨X.K, α', μ', H'⟩ → Kp ⟨X.K, α, μ, H⟩ ⟨X.K, α', μ', H'⟩ → Has ⟨X.K, α', μ', H'⟩ v d → D.rt v H') ∧
       (∀ ρ' σ' α' μ' H', R (.bk ρ' μ') → En ⟨X.K, α', μ', H'⟩ σ' ρ' → Kp ⟨X.K, α, μ, H⟩ ⟨X.K, α', μ', H'⟩ → D.bk σ' H') ∧
       (∀ ρ' σ' α' μ' H', R (.ct ρ' μ') → En ⟨X.K, α', μ', H'⟩ σ' ρ' → Kp ⟨X.K, α, μ, H⟩ ⟨X.K, α', μ', H'⟩ → D.ct σ' H')) ∧
      ∀ C' ds d fs σ' α' μ' H', (C' = C ∧ ∃ d1 d2, List.lookup f1 ds = some d1 ∧ List.lookup f2 ds = some d2 ∧ R (.rt (.lst [.str s, d1, d2]) μ')) → Live ⟨X.K, α', μ', H'⟩ → Kp ⟨X.K, α, μ, H⟩ ⟨X.K, α', μ', H'⟩ → H' d = some (.xd fs) → HasF ⟨X.K, α', μ', H'⟩ fs ds → σ'.length = X.N.length → W (.ref C') (some d) σ' H')
    hs hf hN hi hln hc takes0 (fun W pn xe tk po => PSsw (h pn xe po) fun D σ H ⟨α, E, q, qx⟩ => ⟨α, E, q, fun C' ds d fs σ' α' μ' H' r l k h1 h2 => ?_⟩)
    (fun a oe cls d pn hz hfl => pss_one (ps_ret (pe_lst (pa_cons pe_str (pa_cons (pe_xf XF no1 hz hfl (pe_var hi hv hd hcd)) (pa_cons (pe_xf XF no2 hz hfl (pe_var hi hv hd hcd)) pa_nil))))))) fun D σ H ⟨α, E, q⟩ => ?_
  · exact wmax_of tk fun hl => qx C' ds d fs σ' α' μ' H' r l k h1 h2 hl
  · refine ⟨α, E, q, ?_⟩
    rintro C' ds d fs σ' α' μ' H' ⟨rfl, d1, d2, l1, l2, r⟩ l k h1 h2 hl
    obtain ⟨v1, e1, g1⟩ := hasF_look h2 l1
    obtain ⟨v2, e2, g2⟩ := hasF_look h2 l2
    refine ⟨true, hx, fun _ a na => ?_, fun z => nomatch z⟩
    have hat : (List.set σ' i (some (V.ref a)))[i]? = some (some (V.ref a)) := by
      have hi' : i < σ'.length := by
        rw [hl]
        exact (List.getElem?_eq_some_iff.mp hi).1
      simp [hi']
    refine ⟨.ref a, hat, rfl, rfl, d, fs, v1, rfl, h1, e1, .ref a, hat, rfl, rfl, d, fs, v2, rfl, h1, e2, by show 3 ≤ sizeLine; decide, fun p np => ?_⟩
    obtain ⟨kp, lp⟩ := l.lay (o := .lst [.str s, v1, v2]) np
    exact q.2.1 _ _ α' μ' _ r lp (k.trans kp) (.lst (.inl ⟨l.fresh np, .inl upd_same⟩) (kp.hasL (.cons .str (.cons g1 (.cons g2 .nil)))))
end
end Eg

namespace Eg
open PySem PySem.Spec L2
section
variable {X : Cx} {a b c e o : Expr} {ρ : RO} {μ : List MO} {pos p pos' : Pos}
/-! ### x += e -/
theorem St.augAdd {R : Co} (i : Nat) {x : Str} (n : Int) (hN : X.N.Nodup) (hi : X.N[i]? = some x) (hx : Loc X.env.scope x) (hn : ρ[i]? = some (some (.int n))) (hf : X.fn x = true ∨ X.env.scope.names.lookup x = some .local)
    (h : Ev X e ρ μ fun d μ1 => ∃ j, d = .int j ∧ R (.nx (ρ.set i (some (.int (n + j)))) μ1)) : St X (.AugAssign (.Name x pos') .Add e pos) ρ μ R :=
  PSw (ps_aug hN hi hx h ip_add hf) fun D σ H ⟨α, E, q⟩ => by
    obtain ⟨v, e1, e2⟩ := E.at_ i _ hn
    cases e2
    refine ⟨.int n, e1, α, E, ?_⟩
    rintro v d α1 μ1 H1 ⟨j, rfl, r⟩ E1 X1 hv
    cases hv
    exact ⟨n, j, rfl, rfl, q.1 _ _ α1 μ1 H1 r (E1.set i .int) X1⟩
theorem St.augSub {R : Co} (i : Nat) {x : Str} (n : Int) (hN : X.N.Nodup) (hi : X.N[i]? = some x) (hx : Loc X.env.scope x) (hn : ρ[i]? = some (some (.int n))) (hf : X.fn x = true ∨ X.env.scope.names.lookup x = some .local)
    (h : Ev X e ρ μ fun d μ1 => ∃ j, d = .int j ∧ R (.nx (ρ.set i (some (.int (n - j)))) μ1)) : St X (.AugAssign (.Name x pos') .Sub e pos) ρ μ R :=
  PSw (ps_aug hN hi hx h ip_sub hf) fun D σ H ⟨α, E, q⟩ => by
    obtain ⟨v, e1, e2⟩ := E.at_ i _ hn
    cases e2
    refine ⟨.int n, e1, α, E, ?_⟩
    rintro v d α1 μ1 H1 ⟨j, rfl, r⟩ E1 X1 hv
    cases hv
    exact ⟨n, j, rfl, rfl, q.1 _ _ α1 μ1 H1 r (E1.set i .int) X1⟩
/-! ### parts of texts -/
theorem Ev.sliceS {lo hi : Option Expr} {p2 : Pos} {R : Cn} (h : Ev X a ρ μ fun d μ1 => ∃ z, d = .str z ∧ z.length ≤ sizeLine ∧ EvP X lo ρ μ1 fun l μ2 => EvP X hi ρ μ2 fun u μ3 => R (.str (cutS z l u)) μ3) : Ev X (.Subscript a (.Slice lo hi none p2) pos) ρ μ R :=
  PEw (pe_slice sl_str pe_a po_a po_a) fun σ H Q ⟨α, E, q⟩ => ⟨_, h, α, E, fun v d α1 μ1 H1 ⟨z, e, hz, h1⟩ E1 X1 hv => by
    subst e
    cases hv
    exact ⟨_, h1, α1, E1, fun l α2 μ2 H2 h2 E2 X2 => ⟨_, h2, α2, E2, fun u α3 μ3 H3 h3 E3 X3 => ⟨z, rfl, hz, q _ _ α3 μ3 H3 h3 E3 (X1.trans (X2.trans X3)) .str⟩⟩⟩⟩
/-- xs[::-1] -/
theorem Ev.revL {k : Nat} {p1 p2 p3 : Pos} {R : Cn} (h : Ev X e ρ μ fun d μ1 => ∃ ds, d = .lst ds ∧ R (.lst ds.reverse) μ1) : Ev X (.Subscript e (.Slice none none (some (.UnaryOp .USub (.Constant (.int 1) k p1) p2)) p3) pos) ρ μ R :=
  PEw (pe_revL pe_a) fun σ H Q ⟨α, E, q⟩ => ⟨_, h, α, E, fun v d α1 μ1 H1 ⟨ds, e, r⟩ E1 X1 hv => by
    subst e
    obtain ⟨a, vs, rfl, s, t⟩ := sqL_of hv
    refine ⟨a, vs, rfl, s, fun p np => ?_⟩
    obtain ⟨k, l⟩ := E1.live.lay (o := .lst vs.reverse) np
    exact q _ _ α1 μ1 _ r (E1.ext k l) (X1.trans k) (.lst (.inl ⟨E1.live.fresh np, .inl upd_same⟩) (k.hasL (HasL.rev t)))⟩
where HasL.rev {w : Wd} : ∀ {vs : List V} {ds : List DV}, HasL w vs ds → HasL w vs.reverse ds.reverse
  | _, _, .nil => .nil
  | _, _, .cons h t => by
    rw [List.reverse_cons, List.reverse_cons]
    exact HasL.app (HasL.rev t) (.cons h .nil)
/-! ### s.split(t), s.find(t, i), str(n) -/
theorem strs_has {w : Wd} : ∀ ys : List Str, HasL w (ys.map V.str) (ys.map DV.str)
  | [] => .nil
  | _ :: r => .cons .str (strs_has r)
theorem Ev.split {R : Cn} {apos cpos : Pos} (h : Ev X o ρ μ fun dO μ1 => ∃ z, dO = .str z ∧ z.length + 2 ≤ sizeLine ∧ EvA X [e] ρ μ1 fun ds μ2 => ∃ t, ds = [.str t] ∧ (t.length == 0) = false ∧ R (.lst ((Txt.split z t).map DV.str)) μ2)
    (hbase : attributeBase o "split" X.env (eval o X.env) = eval o X.env := by rfl)
    (hfew : ((backTo cpos (starEach [e] X.env)).all (fun x => !x.1) && (backToKw cpos (keywordEach [] X.env)).all (fun x => x.1.isSome)
      && decide ([e].length + ([] : List Keyword).length + (if ([] : List Keyword).isEmpty then 0 else 1) < 30)) = true := by rfl)
    (hline : (apos.endLine == cpos.line) = true := by rfl) (hs : starEach [e] X.env = (false, eval e X.env) :: starEach [] X.env := by rfl) :
    Ev X (.Call (.Attribute o "split" apos) [e] [] cpos) ρ μ R :=
  PEw (pe_bm PySem.F.plainAttrs_str PySem.F.slot_str_split PySem.F.type_str_split mt_split pe_a pa_a hbase hfew hline hs rfl) fun σ H Q ⟨α, E, q⟩ => ⟨_, h, α, E, fun v dO α1 μ1 H1 ⟨z, e1, hz, h1⟩ E1 X1 hv => by
    subst e1
    cases hv
    refine ⟨rfl, _, h1, α1, E1, ?_⟩
    rintro us ds α2 μ2 H2 ⟨t, rfl, ht, r⟩ E2 X2 hus
    obtain ⟨u, rfl, hu⟩ := hasL1 hus
    cases hu
    refine ⟨z, t, rfl, rfl, ht, hz, fun p np => ?_⟩
    obtain ⟨k, l⟩ := E2.live.lay (o := .lst ((Txt.split z t).map V.str)) np
    exact q _ _ α2 μ2 _ r (E2.ext k l) (X1.trans (X2.trans k)) (.lst (.inl ⟨E2.live.fresh np, .inl upd_same⟩) (strs_has _))⟩
theorem Ev.find3 {R : Cn} {apos cpos : Pos} (h : Ev X o ρ μ fun dO μ1 => ∃ z, dO = .str z ∧ EvA X [a, b] ρ μ1 fun ds μ2 => ∃ t i, ds = [.str t, .int i] ∧ R (.int (Txt.find3 z t i)) μ2)
    (hbase : attributeBase o "find" X.env (eval o X.env) = eval o X.env := by rfl)
    (hfew : ((backTo cpos (starEach [a, b] X.env)).all (fun x => !x.1) && (backToKw cpos (keywordEach [] X.env)).all (fun x => x.1.isSome)
      && decide ([a, b].length + ([] : List Keyword).length + (if ([] : List Keyword).isEmpty then 0 else 1) < 30)) = true := by rfl)
    (hline : (apos.endLine == cpos.line) = true := by rfl) (hs : starEach [a, b] X.env = (false, eval a X.env) :: starEach [b] X.env := by rfl) (hp : (backTo cpos (starEach [b] X.env)).any (·.1) = false := by rfl) :
    Ev X (.Call (.Attribute o "find" apos) [a, b] [] cpos) ρ μ R :=
  PEw (pe_bm PySem.F.plainAttrs_str PySem.F.slot_str_find PySem.F.type_str_find mt_find3 pe_a pa_a hbase hfew hline hs hp) fun σ H Q ⟨α, E, q⟩ => ⟨_, h, α, E, fun v dO α1 μ1 H1 ⟨z, e1, h1⟩ E1 X1 hv => by
    subst e1
    cases hv
    refine ⟨rfl, _, h1, α1, E1, ?_⟩
    rintro us ds α2 μ2 H2 ⟨t, i, rfl, r⟩ E2 X2 hus
    obtain ⟨u, w, rfl, hu, hw⟩ := hasL2 hus
    cases hu
    cases hw
    exact ⟨z, t, i, rfl, rfl, q _ _ α2 μ2 _ r E2 (X1.trans X2) .int⟩⟩
def sStrI : SA := fun ds μ R => ∃ i, ds = [.int i] ∧ i.natAbs.log2 < 1920 ∧ R (.str (Str.ofString (toString i))) μ
theorem strI_S : RaS X (fun xs H Q => ∃ i, xs = [.int i] ∧ i.natAbs.log2 < 1920 ∧ Q (.str (Str.ofString (toString i))) H) sStrI := fun α μ H σ ρ vs ds R Q E hv h q => by
  obtain ⟨i, rfl, c, r⟩ := h
  obtain ⟨v, rfl, hw⟩ := hasL1 hv
  cases hw
  exact ⟨i, rfl, c, q.sc E r .str⟩
theorem Ev.toStr {R : Cn} (hg : Gl X "str") (hm : X.mg "str" = none) (h : EvA X [e] ρ μ fun ds μ1 => sStrI ds μ1 R) (he : starEach [e] X.env = (false, eval e X.env) :: starEach [] X.env := by rfl) :
    Ev X (.Call (.Name "str" p) [e] [] pos) ρ μ R := .callTy call_str_int strI_S hg hm PyProof.Rows.boot_str h (by decide) (by decide) he rfl
end
end Eg

namespace Eg
open PySem PySem.Spec PyProof.Rows L2
/-! ### for i, x in enumerate(xs, start=k) -/
/-- pairs of a count from k on and an item of the list at a -/
def Itn (K : PySem.W.Frag) (a : Addr) (k : Int) : It where
  go := fun i H => ∃ (xs : List V) (x : V), SqL K H a xs ∧ xs[i]? = some x
  yld := fun i H v H' => ∃ (T : Addr) (x : V), v = .ref T ∧ H T = none ∧ H' = upd H T (.tup [.int (k + (i : Int)), x]) ∧ ∀ xs, SqL K H a xs → xs[i]? = some x
  stop := fun i H => ∃ xs : List V, SqL K H a xs ∧ xs.length = i
theorem turn_count {P : Program} {w : World} {K : PySem.W.Frag} {elts : List Expr} {kk : Nat} {tpos : Pos} (a e it : Addr) (k : Int) :
    Turn P w K (.Tuple elts kk tpos) (Itn K a k) [e, it] e fun i h => (∃ old, IsEnum h e it (k + (i : Int)) old) ∧ h.IsListIter it a i ∧ e ≠ it ∧ a ≠ it ∧ a ≠ e where
  mem := List.mem_cons_self
  obj := by
    rintro i h ⟨⟨old, he⟩, ⟨o, ho, hc, hd⟩, _⟩ b hb
    rcases List.mem_cons.mp hb with z | z
    · subst z
      exact ⟨_, he, fun v q => nomatch q⟩
    · obtain rfl := List.mem_singleton.mp z
      exact ⟨o, ho, fun v q => by rw [hd] at q; cases q⟩
  keep := by
    rintro i h h' ⟨⟨old, he⟩, hi, r⟩ kp
    exact ⟨⟨old, kp e List.mem_cons_self _ he⟩, hi.at fun o q => kp it (List.mem_cons_of_mem _ List.mem_cons_self) o q, r⟩
  item := by
    rintro X rfl rfl rfl hc i pins s σ H E I hf ⟨⟨old, he⟩, hit, n1, n2, n3⟩ ⟨xs, x, hq, hx⟩
    obtain ⟨its, rv, p, hz⟩ := I.list hq
    obtain ⟨u, hu, ru⟩ := rv.get hx
    have hlt : i < its.toArray.size := by
      rw [List.size_toArray]
      exact (List.getElem?_eq_some_iff.mp hu).1
    have le : e < s.heap.objs.size := Heap.lt_size he
    have li : it < s.heap.objs.size := by
      obtain ⟨_, q, _⟩ := hit
      exact Heap.lt_size q
    have hef : e ∉ [it, a] := by
      intro z
      rcases List.mem_cons.mp z with z | z
      · exact n1 z
      · exact n3 (List.mem_singleton.mp z).symm
    refine wpAny_pyNext_enum_itemC (Draws.list (A := X.A.in1) (I.ok.hd hc) it a n2 its.toArray) he ⟨hit, p.isList⟩ hlt n1 hef ?_
    rintro x' h' tk hx' out ⟨hit', _⟩ hT hsz keep
    have ex : x' = u := by
      have z : its.toArray[i]? = some u := by
        rw [List.getElem?_toArray]
        exact hu
      have hx2 : its.toArray[i]? = some x' := hx'
      rw [hx2] at z
      exact Option.some.inj z
    subst ex
    refine ⟨_, rfl, wpAny_letOwnedTupleGo_enum (s := { s with heap := h', toks := tk + 1 }) out fun h2 he2 sb => ?_⟩
    have at2 : h2.get? s.heap.objs.size = some { cls := .type "tuple", data := .seq #[.int (k + (i : Int)) tk, x'] } := (sb.2 _ (Nat.ne_of_gt le)).trans hT
    have new : ObjOk X.prog X.w (upd H s.heap.objs.size (.tup [.int (k + (i : Int)), x])) h2 s.heap.objs.size (.tup [.int (k + (i : Int)), x]) :=
      ⟨by show 2 ≤ sizeLine; decide, [.int (k + (i : Int)) tk, x'], .cons ⟨_, rfl⟩ (.cons ru .nil), ⟨_, at2, rfl, _, rfl⟩⟩
    have I2 : L2.Inv X pins σ (upd H s.heap.objs.size (.tup [.int (k + (i : Int)), x])) { s with heap := h2, toks := tk + 1 } := by
      refine I.turnedNew (ch := [e, it]) (fun b ob hb q => ?_) hf (Nat.le_refl _) new
      have b1 : b ≠ e := fun z => hb (by rw [z]; exact List.mem_cons_self)
      have b2 : b ≠ it := fun z => hb (by rw [z]; exact List.mem_cons_of_mem _ List.mem_cons_self)
      exact (sb.2 b b1).trans (keep b ob b1 b2 q)
    have cnt : k + ((i + 1 : Nat) : Int) = k + (i : Int) + 1 := by omega
    refine ⟨.ref s.heap.objs.size, _, I2, rfl, ⟨_, x, rfl, I.hok.fresh (Nat.le_refl _), rfl, fun ys hy => ?_⟩, ⟨⟨x', ?_⟩, hit'.at fun o q => (sb.2 it (Ne.symm n1)).trans q, n1, n2, n3⟩, fun b hb => ?_⟩
    · rw [I.list_inj hy hq]
      exact hx
    · rw [cnt]
      exact he2
    · have lb : b < s.heap.objs.size := by
        rcases List.mem_cons.mp hb with z | z
        · rw [z]; exact le
        · rw [List.mem_singleton.mp z]; exact li
      rw [upd_ne (Nat.ne_of_lt lb)]
      exact (hf b hb).1
  done := by
    rintro X rfl rfl rfl hc i pins s σ H E I hf ⟨⟨old, he⟩, hit, n1, n2, n3⟩ ⟨xs, hq, hx⟩
    obtain ⟨its, rv, p, hz⟩ := I.list hq
    obtain ⟨f0, f1, f2, f3, f4, f5⟩ := hf it (List.mem_cons_of_mem _ List.mem_cons_self)
    have en : its.toArray.size = i := by
      rw [List.size_toArray, ← rv.length]
      exact hx
    exact wpAny_pyNext_enum_endD (Draws.list (A := X.A.in1) (I.ok.hd hc) it a n2 its.toArray) he (by rw [en]; exact ⟨hit, p.isList⟩) fun h' eb => ⟨rfl, I.turned (t' := s.toks) (fun b o hb q => eb b o hb q) f0 f1 f3 f4 f5⟩
  self := by
    rintro A i s Q E ⟨⟨_, he⟩, _⟩ h
    exact wpAny_pyIter_enum he h
section
variable {X : Cx} {e ek : Expr} {ρ : RO} {μ : List MO} {p pos tpos kpos : Pos} {elts : List Expr} {kk : Nat} {Ra : Ca}
/-- the pairs that come -/
def cntD (k : Int) : List DV → List DV
  | [] => []
  | d :: r => .tup [.int k, d] :: cntD (k + 1) r
theorem cntD_at : ∀ (ds : List DV) (k : Int) (i : Nat) (d : DV), (cntD k ds)[i]? = some d → ∃ x, ds[i]? = some x ∧ d = .tup [.int (k + (i : Int)), x]
  | [], _, _, _, h => by simp [cntD] at h
  | x :: r, k, 0, d, h => by
    have h' : some (DV.tup [.int k, x]) = some d := h
    refine ⟨x, rfl, ?_⟩
    rw [← Option.some.inj h']
    simp
  | x :: r, k, i + 1, d, h => by
    obtain ⟨y, h1, h2⟩ := cntD_at r (k + 1) i d h
    refine ⟨y, h1, ?_⟩
    rw [h2]
    have : k + 1 + (i : Int) = k + ((i + 1 : Nat) : Int) := by omega
    rw [this]
theorem cntD_len : ∀ (ds : List DV) (k : Int), (cntD k ds).length = ds.length
  | [], _ => rfl
  | _ :: r, k => by
    show (cntD (k + 1) r).length + 1 = r.length + 1
    rw [cntD_len r]
theorem type_kw {M : Model} {A : Around} {E : Value → Shared → Prop} {s : Shared} {cp : Pos} {T : String} {args : List (Bool × Sem Value)} {kws : List (Option Str × Sem Value)} {Q : Value → Shared → Prop} (hp : (args.any (·.1) || kws.any (·.1.isNone)) = false)
    (h : wpAny M A (evalArgs (.type T) true args kws) (fun a s1 => wpAny M A (call (.type T) a.pos a.kw) Q E s1) E s) : wpAny M A (callWith cp (.type T) [] args kws) Q E s := by
  unfold callWith
  refine wpAny_bind (wpAny_holding ?_)
  refine wpAny_mono h (fun a s1 h1 => ?_) fun _ _ x => x
  refine wpAny_bind (wpAny_standAt ?_)
  simp only [hp]
  refine wpAny_bind (wpAny_pure (wpAny_bind ?_))
  refine wpAny_mono h1 (fun r s2 hr => ?_) fun _ _ x => x
  refine wpAny_bind (wpAny_holding ?_)
  exact wpAny_point (wpAny_pure hr)
def iCnt (K : PySem.W.Frag) (ta tk : TA) : TI := fun σ H R => ta σ H fun vs H1 => tk σ H1 fun ks H2 => ∃ a xs k, vs = [.ref a] ∧ ks = [.int k] ∧ SqL K H2 a xs ∧ -(2 ^ 63) ≤ k ∧ k < 2 ^ 63 ∧ R (Itn K a k) H2
theorem pi_count {ta tk : TA} (hg : Gl X "enumerate") (hm : X.mg "enumerate" = none) (ha : PA X [e] ta) (hk : PK X [⟨some "start", ek, kpos⟩] tk)
    (hs : starEach [e] X.env = (false, eval e X.env) :: starEach [] X.env := by rfl)
    (hall : (backToKw pos (keywordEach [⟨some "start", ek, kpos⟩] X.env)).all (·.1.isSome) = true := by rfl) (hks : (backToKw pos (keywordEach [⟨some "start", ek, kpos⟩] X.env)).filterMap (·.1) = [Str.ofString "start"] := by rfl)
    (hpl : ((backTo pos (starEach [e] X.env)).any (·.1) || (backToKw pos (keywordEach [⟨some "start", ek, kpos⟩] X.env)).any (·.1.isNone)) = false := by rfl) :
    PI X (.Tuple elts kk tpos) (.Call (.Name "enumerate" p) [e] [⟨some "start", ek, kpos⟩] pos) (iCnt X.K ta tk) := by
  refine ⟨fun pins s σ H R I h => ?_⟩
  refine wpAny_Call_Name_kw (ld_blt I hg hm boot_enumerate ?_ (by decide) (by decide))
  refine type_kw hpl (evalArgs_kw2 hall (thn (ha.run pos pins s σ H _ I h) fun us s1 ⟨vs, H1, I1, r1, q1⟩ => thn (hk.run pos pins s1 σ H1 _ I1 q1) fun ws s2 ⟨ks, H2, I2, r2, a, xs, k, ev, ek, hq, k0, k1, q⟩ => ?_) hs)
  subst ev ek
  rw [hks]
  obtain ⟨u, rfl, ru⟩ := vals1 r1
  obtain ⟨v, rfl, rv⟩ := vals1 r2
  have eu : u = Value.ref a := ru
  subst eu
  obtain ⟨t, rfl⟩ := rv
  obtain ⟨its, rvs, p', hz⟩ := I2.list hq
  show wpAny _ _ (call (.type "enumerate") [.ref a] [(Str.ofString "start", .int k t)]) _ _ s2
  refine enum_begins_start (begins_list a its.toArray) p'.isList k0 k1 fun h' he hit hsz hkp => wpAny_pyIter_enum he ?_
  have I3 : L2.Inv X pins σ H2 { s2 with heap := h' } := I2.kept (t' := s2.toks) hkp
  have ha : a < s2.heap.objs.size := by
    obtain ⟨o, q, _⟩ := p'.isList
    exact Heap.lt_size q
  refine ⟨s2.heap.objs.size + 1, [s2.heap.objs.size + 1, s2.heap.objs.size], _, _, H2, rfl, I3, turn_count a (s2.heap.objs.size + 1) s2.heap.objs.size k, ⟨⟨.none, by simpa using he⟩, ⟨_, hit, rfl, rfl⟩, Nat.succ_ne_self _, Nat.ne_of_lt ha, Nat.ne_of_lt (Nat.lt_succ_of_lt ha)⟩, fun b hb => ?_, q⟩
  have hle : s2.heap.objs.size ≤ b := by
    rcases List.mem_cons.mp hb with z | z
    · rw [z]
      exact Nat.le_succ _
    · rw [List.mem_singleton.mp z]
      exact Nat.le_refl _
  exact I2.fpOk hle (I2.hok.fresh hle)
theorem EvI.count (hg : Gl X "enumerate") (hm : X.mg "enumerate" = none) (h : EvA X [e] ρ μ fun ds μ1 => ∃ xs, ds = [.lst xs] ∧ EvK X [⟨some "start", ek, kpos⟩] ρ μ1 fun ks μ2 => ∃ k, ks = [.int k] ∧ -(2 ^ 63) ≤ k ∧ k < 2 ^ 63 ∧ Ra (cntD k xs) μ2)
    (hs : starEach [e] X.env = (false, eval e X.env) :: starEach [] X.env := by rfl)
    (hall : (backToKw pos (keywordEach [⟨some "start", ek, kpos⟩] X.env)).all (·.1.isSome) = true := by rfl) (hks : (backToKw pos (keywordEach [⟨some "start", ek, kpos⟩] X.env)).filterMap (·.1) = [Str.ofString "start"] := by rfl)
    (hpl : ((backTo pos (starEach [e] X.env)).any (·.1) || (backToKw pos (keywordEach [⟨some "start", ek, kpos⟩] X.env)).any (·.1.isNone)) = false := by rfl) :
    EvI X (.Tuple elts kk tpos) (.Call (.Name "enumerate" p) [e] [⟨some "start", ek, kpos⟩] pos) ρ μ Ra :=
  PIw (pi_count hg hm pa_a pk_a hs hall hks hpl) fun σ H Q ⟨α, E, q⟩ => ⟨_, h, α, E, fun vs ds α1 μ1 H1 ⟨xs, e1, h1⟩ E1 X1 hv => ⟨_, h1, α1, E1, fun us ks α2 μ2 H2 ⟨k, e2, k0, k1, r⟩ E2 X2 hu => by
    subst e1 e2
    obtain ⟨v, rfl, hv'⟩ := hasL1 hv
    obtain ⟨w, rfl, hw⟩ := hasL1 hu
    cases hw
    obtain ⟨a, ws, rfl, s1, t1⟩ := sqL_of (X2.has hv')
    refine ⟨a, ws, k, rfl, rfl, s1, k0, k1, q _ _ α2 μ2 H2 r E2 (X1.trans X2) fun α3 μ3 H3 kp l => ?_⟩
    obtain ⟨a', ws', ea, s3, t3⟩ := sqL_of (kp.has (X2.has hv'))
    cases ea
    refine ⟨fun i d hd => ?_, ⟨ws', s3, by rw [cntD_len, t3.length]⟩⟩
    obtain ⟨x, f1, rfl⟩ := cntD_at _ _ _ _ hd
    obtain ⟨y, g1, g2⟩ := t3.get f1
    refine ⟨⟨ws', y, s3, g1⟩, ?_⟩
    rintro z H' ⟨T, y2, rfl, nT, rfl, c1⟩
    have q1 := c1 ws' s3
    rw [g1] at q1
    cases q1
    obtain ⟨k2, l2⟩ := l.lay (o := .tup [.int (k + (i : Int)), y]) nT
    exact ⟨k2, l2, .tup (.of upd_same) (.cons .int (.cons (k2.has g2) .nil))⟩⟩⟩
end
end Eg

namespace Eg
open PySem PySem.Spec L2
/-! ### for c in s, s a text -/
section
variable {X : Cx} {e : Expr} {ρ : RO} {μ : List MO}
def sgD (z : Str) : List DV := z.cps.toList.map fun c => DV.str ⟨#[c]⟩
theorem EvI.str {tg : Expr} {Ra : Ca} (h : Ev X e ρ μ fun d μ1 => ∃ z, d = .str z ∧ Ra (sgD z) μ1) : EvI X tg e ρ μ Ra :=
  PIw (pi_str pe_a) fun σ H Q ⟨α, E, q⟩ => ⟨_, h, α, E, fun v d α1 μ1 H1 ⟨z, e, r⟩ E1 X1 hv => by
    subst e
    cases hv
    refine ⟨z, rfl, q _ _ α1 μ1 H1 r E1 X1 fun α2 μ2 H2 k l => ⟨fun i d hd => ?_, ?_⟩⟩
    · unfold sgD at hd
      rw [List.getElem?_map] at hd
      obtain ⟨c, h1, rfl⟩ := Option.map_eq_some_iff.mp hd
      obtain ⟨hi, he⟩ := List.getElem?_eq_some_iff.mp h1
      refine ⟨by rw [Array.length_toList] at hi; exact hi, ?_⟩
      rintro y H' ⟨rfl, c', h2, rfl⟩
      have e2 : c' = c := by
        have : z.cps.toList[i]? = some c' := by rw [Array.getElem?_toList]; exact h2
        rw [h1] at this
        exact (Option.some.inj this).symm
      subst e2
      exact ⟨l.refl, l, .str⟩
    · show z.cps.size ≤ (sgD z).length
      unfold sgD
      rw [List.length_map, Array.length_toList]
      exact Nat.le_refl _⟩
/-- the order of two signs -/
theorem le_sign (c d : Nat) : (!decide ((⟨#[d]⟩ : Str).cps.toList < (⟨#[c]⟩ : Str).cps.toList)) = decide (c ≤ d) := by
  have e : ((⟨#[d]⟩ : Str).cps.toList < (⟨#[c]⟩ : Str).cps.toList) ↔ d < c := by
    show ([d] < [c]) ↔ d < c
    rw [List.cons_lt_cons_iff]
    simp
  by_cases h : c ≤ d
  · rw [decide_eq_true h, decide_eq_false fun z => absurd (e.mp z) (by omega)]
    rfl
  · rw [decide_eq_false h, decide_eq_true (e.mpr (by omega))]
    rfl
/-- lo <= c <= hi of signs -/
theorem EvT.between {b : Expr} {la lc : Str} {lo hi j1 j2 : Nat} {p1 p2 pos : Pos} {R : Ct} (e1 : la = ⟨#[lo]⟩) (e2 : lc = ⟨#[hi]⟩) (h : Ev X b ρ μ fun d μ1 => ∃ k, d = .str ⟨#[k]⟩ ∧ R (decide (lo ≤ k ∧ k ≤ hi)) μ1)
    (hm : lastMarks [.LtE, .LtE] [b, .Constant (.str lc) j2 p2] = false := by with_unfolding_all rfl) : EvT X (.Compare (.Constant (.str la) j1 p1) [.LtE, .LtE] [b, .Constant (.str lc) j2 p2] pos) ρ μ R := by
  subst e1 e2
  refine EvT.chain op_le_str rCmpS_S op_le_str rCmpS_S (Ev.str (Ev.mono h ?_)) hm
  rintro d μ1 ⟨k, rfl, r⟩
  refine ⟨_, _, rfl, rfl, _, rfl, ?_⟩
  show if (!decide ((⟨#[k]⟩ : Str).cps.toList < (⟨#[lo]⟩ : Str).cps.toList)) = true then _ else _
  rw [le_sign]
  refine ifd (fun hlo => Ev.str ⟨_, _, rfl, rfl, _, rfl, ?_⟩) (fun hlo => ?_)
  · show R (!decide ((⟨#[hi]⟩ : Str).cps.toList < (⟨#[k]⟩ : Str).cps.toList)) μ1
    rw [le_sign]
    have e : decide (lo ≤ k ∧ k ≤ hi) = decide (k ≤ hi) := decide_eq_decide.mpr ⟨fun z => z.2, fun z => ⟨hlo, z⟩⟩
    rw [e] at r
    exact r
  · rw [decide_eq_false fun z => hlo z.1] at r
    exact r
theorem Ev.between {b : Expr} {la lc : Str} {lo hi j1 j2 : Nat} {p1 p2 pos : Pos} {R : Cn} (e1 : la = ⟨#[lo]⟩) (e2 : lc = ⟨#[hi]⟩) (h : Ev X b ρ μ fun d μ1 => ∃ k, d = .str ⟨#[k]⟩ ∧ R (.bl (decide (lo ≤ k ∧ k ≤ hi))) μ1)
    (hm : lastMarks [.LtE, .LtE] [b, .Constant (.str lc) j2 p2] = false := by with_unfolding_all rfl) : Ev X (.Compare (.Constant (.str la) j1 p1) [.LtE, .LtE] [b, .Constant (.str lc) j2 p2] pos) ρ μ R := by
  subst e1 e2
  refine Ev.chain op_le_str rCmpS_S op_le_str rCmpS_S (Ev.str (Ev.mono h ?_)) hm
  rintro d μ1 ⟨k, rfl, r⟩
  refine ⟨_, _, rfl, rfl, _, rfl, ?_⟩
  show if (!decide ((⟨#[k]⟩ : Str).cps.toList < (⟨#[lo]⟩ : Str).cps.toList)) = true then _ else _
  rw [le_sign]
  refine ifd (fun hlo => Ev.str ⟨_, _, rfl, rfl, ?_⟩) (fun hlo => ?_)
  · show R (.bl (!decide ((⟨#[hi]⟩ : Str).cps.toList < (⟨#[k]⟩ : Str).cps.toList))) μ1
    rw [le_sign]
    have e : decide (lo ≤ k ∧ k ≤ hi) = decide (k ≤ hi) := decide_eq_decide.mpr ⟨fun z => z.2, fun z => ⟨hlo, z⟩⟩
    rw [e] at r
    exact r
  · rw [decide_eq_false fun z => hlo z.1] at r
    exact r
end
end Eg

namespace Eg
open PySem PySem.Spec L2
/-! What an expression comes to, as a function; the function's word holds of the expression. -/
abbrev RE := Option (DV × List MO)
abbrev Den := RO → List MO → RE
abbrev DenA := RO → List MO → Option (List DV × List MO)
def okE (o : RE) (R : Cn) : Prop := match o with
  | some (d, μ) => R d μ
  | none => False
def okA (o : Option (List DV × List MO)) (R : Ca) : Prop := match o with
  | some (d, μ) => R d μ
  | none => False
def SE (X : Cx) (e : Expr) (f : Den) : Prop := ∀ ρ μ R, okE (f ρ μ) R → Ev X e ρ μ R
def ST (X : Cx) (e : Expr) (f : Den) : Prop := ∀ ρ μ R, okE (f ρ μ) (toT R) → EvT X e ρ μ R
def SW (X : Cx) (e : Expr) (f : Den) : Prop := ∀ ρ μ R, okE (f ρ μ) (toT R) → EvW X e ρ μ R
def SAr (X : Cx) (es : List Expr) (f : DenA) : Prop := ∀ ρ μ R, okA (f ρ μ) R → EvA X es ρ μ R
theorem okE_some {o : RE} {R : Cn} (h : okE o R) : ∃ d μ, o = some (d, μ) ∧ R d μ := by
  match o, h with
  | some (d, μ), h => exact ⟨d, μ, rfl, h⟩
theorem okA_some {o : Option (List DV × List MO)} {R : Ca} (h : okA o R) : ∃ d μ, o = some (d, μ) ∧ R d μ := by
  match o, h with
  | some (d, μ), h => exact ⟨d, μ, rfl, h⟩
def bnd {α β γ : Type} (o : Option (α × β)) (k : α → β → Option γ) : Option γ := match o with
  | some (d, μ) => k d μ
  | none => none
@[simp] theorem bnd_some {α β γ : Type} (d : α) (μ : β) (k : α → β → Option γ) : bnd (some (d, μ)) k = k d μ := rfl
@[simp] theorem bnd_none {α β γ : Type} (k : α → β → Option γ) : bnd (none : Option (α × β)) k = none := rfl
theorem okE_bnd {o : RE} {k : DV → List MO → RE} {R : Cn} (h : okE (bnd o k) R) : ∃ d μ, o = some (d, μ) ∧ okE (k d μ) R := by
  match o, h with
  | some (d, μ), h => exact ⟨d, μ, rfl, h⟩
theorem okE_bndA {o : Option (List DV × List MO)} {k : List DV → List MO → RE} {R : Cn} (h : okE (bnd o k) R) : ∃ d μ, o = some (d, μ) ∧ okE (k d μ) R := by
  match o, h with
  | some (d, μ), h => exact ⟨d, μ, rfl, h⟩
theorem okA_bnd {o : RE} {k : DV → List MO → Option (List DV × List MO)} {R : Ca} (h : okA (bnd o k) R) : ∃ d μ, o = some (d, μ) ∧ okA (k d μ) R := by
  match o, h with
  | some (d, μ), h => exact ⟨d, μ, rfl, h⟩
theorem okA_bndA {o : Option (List DV × List MO)} {k : List DV → List MO → Option (List DV × List MO)} {R : Ca} (h : okA (bnd o k) R) : ∃ d μ, o = some (d, μ) ∧ okA (k d μ) R := by
  match o, h with
  | some (d, μ), h => exact ⟨d, μ, rfl, h⟩
section
variable {X : Cx} {a b c e : Expr} {es : List Expr} {fa fb fc f : Den} {fs : DenA} {pos p : Pos}
theorem SE.at {ρ : RO} {μ μ' : List MO} {d : DV} {R : Cn} (s : SE X e f) (h : f ρ μ = some (d, μ')) (r : R d μ') : Ev X e ρ μ R := s ρ μ R (by rw [h]; exact r)
theorem ST.at {ρ : RO} {μ μ' : List MO} {k : Bool} {R : Ct} (s : ST X e f) (h : f ρ μ = some (.bl k, μ')) (r : R k μ') : EvT X e ρ μ R := s ρ μ R (by rw [h]; exact ⟨k, rfl, r⟩)
theorem SW.at {ρ : RO} {μ μ' : List MO} {k : Bool} {R : Ct} (s : SW X e f) (h : f ρ μ = some (.bl k, μ')) (r : R k μ') : EvW X e ρ μ R := s ρ μ R (by rw [h]; exact ⟨k, rfl, r⟩)
theorem SAr.at {ρ : RO} {μ μ' : List MO} {d : List DV} {R : Ca} (s : SAr X es fs) (h : fs ρ μ = some (d, μ')) (r : R d μ') : EvA X es ρ μ R := s ρ μ R (by rw [h]; exact r)
/-- what is never reached -/
def dNo : Den := fun _ _ => none
theorem SE.no : SE X e dNo := fun _ _ _ h => h.elim
theorem ST.no : ST X e dNo := fun _ _ _ h => h.elim
/-! ### leaves -/
def dVar (i : Nat) : Den := fun ρ μ => match ρ[i]? with
  | some (some d) => some (d, μ)
  | _ => none
theorem SE.var (i : Nat) {x : Str} (hN : X.N[i]? = some x) (hv : Vis X.env.scope x) (hd : (x == ("__debug__" : Str)) = false := by decide) (hcd : (x == ("__classdict__" : Str)) = false := by decide) : SE X (.Name x pos) (dVar i) := fun ρ μ R h => by
  unfold dVar at h
  split at h
  · rename_i d e
    exact Ev.name i hN hv e h hd hcd
  · exact h.elim
def dC (d : DV) : Den := fun _ μ => some (d, μ)
theorem SE.int {i : Int} {j} : SE X (.Constant (.int i) j pos) (dC (.int i)) := fun _ _ _ h => Ev.int h
theorem SE.bl {i : Bool} {j} : SE X (.Constant (.bool i) j pos) (dC (.bl i)) := fun _ _ _ h => Ev.bl h
theorem SE.non {j} : SE X (.Constant .none j pos) (dC .non) := fun _ _ _ h => Ev.non h
theorem SE.str {x : Str} {j} : SE X (.Constant (.str x) j pos) (dC (.str x)) := fun _ _ _ h => Ev.str h
theorem SE.glob {x : Str} {v : V} {u : Value} {d : DV} (hg : Gl X x) (hm : X.mg x = some u) (r : RelV v u) (hv : ∀ α μ H, Has ⟨X.K, α, μ, H⟩ v d) (hd : (x == ("__debug__" : Str)) = false := by decide) : SE X (.Name x pos) (dC d) :=
  fun _ _ _ h => Ev.glob hg hm r hv h hd
/-! ### two places -/
def dOp2 (o : DV → DV → List MO → RE) (fa fb : Den) : Den := fun ρ μ => bnd (fa ρ μ) fun x μ1 => bnd (fb ρ μ1) fun y μ2 => o x y μ2
theorem SE.op2 {o : DV → DV → List MO → RE} (sa : SE X a fa) (sb : SE X b fb)
    (h : ∀ x y μ2 R, okE (o x y μ2) R → ∃ S : S2, S x y μ2 R ∧ ∀ ρ μ, Ev X a ρ μ (fun da μ1 => Ev X b ρ μ1 fun db μ2 => S da db μ2 R) → Ev X e ρ μ R) : SE X e (dOp2 o fa fb) := fun ρ μ R k => by
  obtain ⟨x, μ1, e1, k⟩ := okE_bnd k
  obtain ⟨y, μ2, e2, k⟩ := okE_bnd k
  obtain ⟨S, r, q⟩ := h x y μ2 R k
  exact q ρ μ (sa.at e1 (sb.at e2 r))
theorem ST.op2 {o : DV → DV → List MO → RE} (sa : SE X a fa) (sb : SE X b fb)
    (h : ∀ x y μ2 R, okE (o x y μ2) R → ∃ S : S2, S x y μ2 R ∧ ∀ (R' : Ct), R = toT R' → ∀ ρ μ, Ev X a ρ μ (fun da μ1 => Ev X b ρ μ1 fun db μ2 => S da db μ2 R) → EvT X e ρ μ R') : ST X e (dOp2 o fa fb) := fun ρ μ R k => by
  obtain ⟨x, μ1, e1, k⟩ := okE_bnd k
  obtain ⟨y, μ2, e2, k⟩ := okE_bnd k
  obtain ⟨S, r, q⟩ := h x y μ2 _ k
  exact q R rfl ρ μ (sa.at e1 (sb.at e2 r))
/-- + -/
def oAdd : DV → DV → List MO → RE
  | .int i, .int j, μ => some (.int (i + j), μ)
  | .str x, .str y, μ => if x.length + y.length ≤ sizeLine then some (.str (x ++ y), μ) else none
  | .tup xs, .tup ys, μ => if xs.length + ys.length ≤ sizeLine then some (.tup (xs ++ ys), μ) else none
  | .lst xs, .lst ys, μ => if xs.length + ys.length ≤ sizeLine then some (.lst (xs ++ ys), μ) else none
  | _, _, _ => none
def oSub : DV → DV → List MO → RE
  | .int i, .int j, μ => some (.int (i - j), μ)
  | _, _, _ => none
def oMul : DV → DV → List MO → RE
  | .int i, .int j, μ => if i.natAbs.log2 + j.natAbs.log2 < 1000000 then some (.int (i * j), μ) else none
  | _, _, _ => none
def oDiv : DV → DV → List MO → RE
  | .int i, .int j, μ => if 0 < j ∧ j.natAbs.log2 < 9000 then some (.int (i / j), μ) else if j < 0 ∧ j.natAbs.log2 < 9000 then some (.int (i.fdiv j), μ) else none
  | _, _, _ => none
def oMod : DV → DV → List MO → RE
  | .int i, .int j, μ => if j ≠ 0 then some (.int (i.fmod j), μ) else none
  | _, _, _ => none
def oPow : DV → DV → List MO → RE
  | .int i, .int j, μ => if 0 ≤ j ∧ j ≤ 1000000 ∧ i.natAbs < 2 ^ 64 then some (.int (i ^ j.toNat), μ) else none
  | _, _, _ => none
theorem okE_if {c : Prop} [Decidable c] {o : RE} {R : Cn} (h : okE (if c then o else none) R) : c ∧ okE o R := by
  by_cases hc : c
  · rw [if_pos hc] at h
    exact ⟨hc, h⟩
  · rw [if_neg hc] at h
    exact h.elim
def rCatL (K : PySem.W.Frag) : R2 := fun x y H Q => ∃ l b xs zs, x = .ref l ∧ y = .ref b ∧ SqL K H l xs ∧ SqL K H b zs ∧ xs.length + zs.length ≤ sizeLine ∧ ∀ p, H p = none → Q (.ref p) (upd H p (.lst (xs ++ zs)))
theorem op_catL : OpR X (binaryOp .Add) (rCatL X.K) := by
  intro pins s σ H x y v u Q I rx ry h
  obtain ⟨l, b, xs, zs, rfl, rfl, hH, hB, hz, q⟩ := h
  cases rx
  cases ry
  obtain ⟨its, r, pl, _⟩ := I.list hH
  obtain ⟨its2, r2, pl2, _⟩ := I.list hB
  obtain ⟨⟨cls, dd, data, sl⟩, ho, hc, n, hd⟩ := pl.isList
  obtain ⟨⟨cls2, dd2, data2, sl2⟩, ho2, hc2, n2, hd2⟩ := pl2.isList
  simp only at hc hd hc2 hd2
  subst hc hd hc2 hd2
  have e : its.toArray ++ its2.toArray = (its ++ its2).toArray := by simp
  have z1 := r.length
  have z2 := r2.length
  refine PySem.concat_meets ⟨_, ho, rfl⟩ ⟨_, ho2, rfl⟩ PySem.noFill_list_add PySem.seq_list_add PySem.F.slot_list_add PySem.F.entry_list_add (PySem.F.args_list_add_2 _ _) (PyProof.Rows.list_addW l b its.toArray its2.toArray n n2 dd dd2 sl sl2 (by simp only [List.size_toArray]; omega)) ⟨ho, ho2, ?_⟩
  rw [e]
  exact ⟨.ref _, _, I.lnew (t' := s.toks) (r.append r2) (by rw [List.length_append]; omega), rfl, q _ I.fresh⟩
def sCatL : S2 := fun x y μ R => ∃ xs ys, x = .lst xs ∧ y = .lst ys ∧ xs.length + ys.length ≤ sizeLine ∧ R (.lst (xs ++ ys)) μ
theorem rCatL_S : R2S X (rCatL X.K) sCatL := fun α μ H σ ρ x y da db R Q E hx hy h q => by
  obtain ⟨xs, ys, rfl, rfl, c, r⟩ := h
  obtain ⟨a, vs, rfl, s1, t1⟩ := sqL_of hx
  obtain ⟨b, us, rfl, s2, t2⟩ := sqL_of hy
  refine ⟨a, b, vs, us, rfl, rfl, s1, s2, by rw [t1.length, t2.length]; exact c, fun p np => ?_⟩
  obtain ⟨k, l⟩ := E.live.lay (o := .lst (vs ++ us)) np
  exact q _ _ α μ _ r (E.ext k l) k (.lst (.inl ⟨E.live.fresh np, .inl upd_same⟩) (k.hasL (HasL.app t1 t2)))
theorem SE.add (sa : SE X a fa) (sb : SE X b fb) : SE X (.BinOp a .Add b pos) (dOp2 oAdd fa fb) := SE.op2 sa sb fun x y μ2 R h => by
  unfold oAdd at h
  split at h
  · exact ⟨sAdd, sAdd.mk h, fun ρ μ k => Ev.addI k⟩
  · obtain ⟨c, h⟩ := okE_if h
    exact ⟨sAddS, ⟨_, _, rfl, rfl, c, h⟩, fun ρ μ k => Ev.addS k⟩
  · obtain ⟨c, h⟩ := okE_if h
    exact ⟨sCatT, ⟨_, _, rfl, rfl, c, h⟩, fun ρ μ k => Ev.catT k⟩
  · obtain ⟨c, h⟩ := okE_if h
    exact ⟨sCatL, ⟨_, _, rfl, rfl, c, h⟩, fun ρ μ k => Ev.op op_catL rCatL_S k⟩
  · exact h.elim
theorem SE.sub (sa : SE X a fa) (sb : SE X b fb) : SE X (.BinOp a .Sub b pos) (dOp2 oSub fa fb) := SE.op2 sa sb fun x y μ2 R h => by
  unfold oSub at h
  split at h
  · exact ⟨sSub, sSub.mk h, fun ρ μ k => Ev.sub k⟩
  · exact h.elim
theorem SE.mul (sa : SE X a fa) (sb : SE X b fb) : SE X (.BinOp a .Mult b pos) (dOp2 oMul fa fb) := SE.op2 sa sb fun x y μ2 R h => by
  unfold oMul at h
  split at h
  · obtain ⟨c, h⟩ := okE_if h
    exact ⟨sMul, sMul.mk c h, fun ρ μ k => Ev.mul k⟩
  · exact h.elim
/-- // by a divisor other than 0, below 2 ^ 9000 in size -/
def CDivNW (_ j : Int) : Prop := j ≠ 0 ∧ j.natAbs.log2 < 9000
theorem op_fdivNW : OpR X (binaryOp .FloorDiv) (rI CDivNW fun i j => .int (i.fdiv j)) := opI fun _ _ _ _ _ _ _ hc q => PyProof.Rows.floordiv_int hc.1 q (.inl (PyProof.noPylong_of_log2 hc.2))
def sDivN : S2 := fun x y μ R => ∃ i j, x = .int i ∧ y = .int j ∧ CDivNW i j ∧ R (.int (i.fdiv j)) μ
theorem SE.fdiv (sa : SE X a fa) (sb : SE X b fb) : SE X (.BinOp a .FloorDiv b pos) (dOp2 oDiv fa fb) := SE.op2 sa sb fun x y μ2 R h => by
  unfold oDiv at h
  split at h
  · rename_i i j
    by_cases c : 0 < j ∧ j.natAbs.log2 < 9000
    · rw [if_pos c] at h
      exact ⟨sDiv, sDiv.mk c h, fun ρ μ k => Ev.fdiv k⟩
    · rw [if_neg c] at h
      obtain ⟨c2, h⟩ := okE_if h
      exact ⟨sDivN, ⟨_, _, rfl, rfl, ⟨by omega, c2.2⟩, h⟩, fun ρ μ k => Ev.op op_fdivNW (rI_S fun _ _ _ => .int) k⟩
  · exact h.elim
theorem SE.mod (sa : SE X a fa) (sb : SE X b fb) : SE X (.BinOp a .Mod b pos) (dOp2 oMod fa fb) := SE.op2 sa sb fun x y μ2 R h => by
  unfold oMod at h
  split at h
  · obtain ⟨c, h⟩ := okE_if h
    exact ⟨sMod, sMod.mk c h, fun ρ μ k => Ev.mod k⟩
  · exact h.elim
theorem SE.pow (sa : SE X a fa) (sb : SE X b fb) : SE X (.BinOp a .Pow b pos) (dOp2 oPow fa fb) := SE.op2 sa sb fun x y μ2 R h => by
  unfold oPow at h
  split at h
  · obtain ⟨c, h⟩ := okE_if h
    exact ⟨sPow, sPow.mk c h, fun ρ μ k => Ev.pow k⟩
  · exact h.elim
/-! ### comparisons -/
def oLt : DV → DV → List MO → RE
  | .int i, .int j, μ => some (.bl (decide (i < j)), μ)
  | _, _, _ => none
def oLe : DV → DV → List MO → RE
  | .int i, .int j, μ => some (.bl (decide (i ≤ j)), μ)
  | _, _, _ => none
def oGt : DV → DV → List MO → RE
  | .int i, .int j, μ => some (.bl (decide (j < i)), μ)
  | _, _, _ => none
def oGe : DV → DV → List MO → RE
  | .int i, .int j, μ => some (.bl (decide (j ≤ i)), μ)
  | _, _, _ => none
mutual
def eqvD : DV → DV → Bool
  | .non, .non => true
  | .bl a, .bl b => a == b
  | .int i, .int j => decide (i = j)
  | .str x, .str y => x == y
  | .tup xs, .tup ys => eqvL xs ys
  | .lst xs, .lst ys => eqvL xs ys
  | .bl a, .int j => (if a then 1 else 0) == j
  | .int i, .bl b => i == (if b then 1 else 0)
  | _, _ => false
def eqvL : List DV → List DV → Bool
  | [], [] => true
  | x :: xs, y :: ys => eqvD x y && eqvL xs ys
  | _, _ => false
end
mutual
/-- of a shape that may be compared, d deep -/
def shD : Nat → DV → Bool
  | _, .non => true
  | _, .bl _ => true
  | _, .int _ => true
  | _, .str x => PySem.PyData.strOk x
  | n + 1, .tup xs => shL n xs
  | n + 1, .lst xs => shL n xs
  | _, _ => false
def shL : Nat → List DV → Bool
  | _, [] => true
  | n, x :: xs => shD n x && shL n xs
end
mutual
theorem sh_py : ∀ {n : Nat} {d : DV}, shD n d = true → ∃ pd, toPy d = some pd ∧ pd.hasDict = false ∧ pd.canLay0 = true ∧ pd.depth ≤ n
  | n, .non, _ => ⟨_, rfl, rfl, rfl, by simp [PyData.depth]⟩
  | n, .bl _, _ => ⟨_, rfl, rfl, rfl, by simp [PyData.depth]⟩
  | n, .int _, _ => ⟨_, rfl, rfl, rfl, by simp [PyData.depth]⟩
  | n, .str x, h => ⟨_, rfl, rfl, by
      simpa [shD, PyData.canLay0] using h, by simp [PyData.depth]⟩
  | 0, .tup _, h => by simp [shD] at h
  | 0, .lst _, h => by simp [shD] at h
  | n + 1, .tup xs, h => by
    obtain ⟨ps, e, h1, h2, h3⟩ := sh_pyL (n := n) (ds := xs) (by simpa [shD] using h)
    exact ⟨.tuple ps, by show (toPyL xs).map _ = _; rw [e]; rfl, by simpa [PyData.hasDict] using h1, by simpa [PyData.canLay0] using h2, by simp [PyData.depth]; omega⟩
  | n + 1, .lst xs, h => by
    obtain ⟨ps, e, h1, h2, h3⟩ := sh_pyL (n := n) (ds := xs) (by simpa [shD] using h)
    exact ⟨.list ps, by show (toPyL xs).map _ = _; rw [e]; rfl, by simpa [PyData.hasDict] using h1, by simpa [PyData.canLay0] using h2, by simp [PyData.depth]; omega⟩
  | _, .dic _, h => by simp [shD] at h
  | _, .exc _ _, h => by simp [shD] at h
  | _, .mu _, h => by simp [shD] at h
theorem sh_pyL : ∀ {n : Nat} {ds : List DV}, shL n ds = true → ∃ ps, toPyL ds = some ps ∧ PyData.hasDictAll ps = false ∧ PyData.canLayAll0 ps = true ∧ PyData.depthAll ps ≤ n
  | n, [], _ => ⟨[], rfl, rfl, rfl, by simp [PyData.depthAll]⟩
  | n, x :: xs, h => by
    have h' : (shD n x && shL n xs) = true := by simpa [shL] using h
    obtain ⟨p, e1, a1, a2, a3⟩ := sh_py (Bool.and_eq_true_iff.mp h').1
    obtain ⟨ps, e2, b1, b2, b3⟩ := sh_pyL (Bool.and_eq_true_iff.mp h').2
    refine ⟨p :: ps, ?_, ?_, ?_, ?_⟩
    · show (toPy x).bind _ = _
      rw [e1]
      show (toPyL xs).map _ = _
      rw [e2]
      rfl
    · simp [PyData.hasDictAll, a1, b1]
    · simp [PyData.canLayAll0, a2, b2]
    · simp [PyData.depthAll]
      omega
end
def DV.notSq : DV → Bool
  | .tup _ => false
  | .lst _ => false
  | _ => true
theorem py_dic {z : List (Key × DV)} {q : PyData} (e : toPy (.dic z) = some q) (n : q.hasDict = false) : False := by
  cases z with
  | nil => cases e; simp [PyData.hasDict] at n
  | cons _ _ => cases e
theorem py_tup {z : List DV} {q : PyData} (e : toPy (.tup z) = some q) : ∃ ps, toPyL z = some ps ∧ q = .tuple ps := by
  obtain ⟨ps, h1, h2⟩ := Option.map_eq_some_iff.mp (show (toPyL z).map PyData.tuple = some q from e)
  exact ⟨ps, h1, h2.symm⟩
theorem py_lst {z : List DV} {q : PyData} (e : toPy (.lst z) = some q) : ∃ ps, toPyL z = some ps ∧ q = .list ps := by
  obtain ⟨ps, h1, h2⟩ := Option.map_eq_some_iff.mp (show (toPyL z).map PyData.list = some q from e)
  exact ⟨ps, h1, h2.symm⟩
theorem eqv_flat {x y : DV} {p q : PyData} (e1 : toPy x = some p) (e2 : toPy y = some q) (n1 : p.hasDict = false) (n2 : q.hasDict = false) (hx : x.notSq = true ∨ y.notSq = true) : PyData.eqv p q = eqvD x y := by
  cases x with
  | dic z => exact (py_dic e1 n1).elim
  | exc _ _ => cases e1
  | mu _ => cases e1
  | tup xs =>
    obtain ⟨ps, _, rfl⟩ := py_tup e1
    cases y with
    | dic z => exact (py_dic e2 n2).elim
    | exc _ _ => cases e2
    | mu _ => cases e2
    | tup ys => simp [DV.notSq] at hx
    | lst ys => simp [DV.notSq] at hx
    | _ => cases e2; simp [PyData.eqv, eqvD]
  | lst xs =>
    obtain ⟨ps, _, rfl⟩ := py_lst e1
    cases y with
    | dic z => exact (py_dic e2 n2).elim
    | exc _ _ => cases e2
    | mu _ => cases e2
    | tup ys => simp [DV.notSq] at hx
    | lst ys => simp [DV.notSq] at hx
    | _ => cases e2; simp [PyData.eqv, eqvD]
  | _ =>
    cases e1
    cases y with
    | dic z => exact (py_dic e2 n2).elim
    | exc _ _ => cases e2
    | mu _ => cases e2
    | tup ys => obtain ⟨ps, _, rfl⟩ := py_tup e2; simp [PyData.eqv, eqvD]
    | lst ys => obtain ⟨ps, _, rfl⟩ := py_lst e2; simp [PyData.eqv, eqvD]
    | int j => cases e2; simp [PyData.eqv, eqvD] <;> rfl
    | _ => cases e2; simp [PyData.eqv, eqvD]
mutual
theorem eqv_py : ∀ (x y : DV) (p q : PyData), toPy x = some p → toPy y = some q → p.hasDict = false → q.hasDict = false → PyData.eqv p q = eqvD x y
  | .tup xs, .tup ys, p, q, e1, e2, n1, n2 => by
    obtain ⟨ps, h1, rfl⟩ := py_tup e1
    obtain ⟨qs, h2, rfl⟩ := py_tup e2
    simpa [PyData.eqv, eqvD] using eqvL_py xs ys ps qs h1 h2 (by simpa [PyData.hasDict] using n1) (by simpa [PyData.hasDict] using n2)
  | .lst xs, .lst ys, p, q, e1, e2, n1, n2 => by
    obtain ⟨ps, h1, rfl⟩ := py_lst e1
    obtain ⟨qs, h2, rfl⟩ := py_lst e2
    simpa [PyData.eqv, eqvD] using eqvL_py xs ys ps qs h1 h2 (by simpa [PyData.hasDict] using n1) (by simpa [PyData.hasDict] using n2)
  | .tup xs, .lst ys, p, q, e1, e2, n1, n2 => by
    obtain ⟨ps, _, rfl⟩ := py_tup e1
    obtain ⟨qs, _, rfl⟩ := py_lst e2
    simp [PyData.eqv, eqvD]
  | .lst xs, .tup ys, p, q, e1, e2, n1, n2 => by
    obtain ⟨ps, _, rfl⟩ := py_lst e1
    obtain ⟨qs, _, rfl⟩ := py_tup e2
    simp [PyData.eqv, eqvD]
  | .non, y, p, q, e1, e2, n1, n2 => eqv_flat e1 e2 n1 n2 (.inl rfl)
  | .bl _, y, p, q, e1, e2, n1, n2 => eqv_flat e1 e2 n1 n2 (.inl rfl)
  | .int _, y, p, q, e1, e2, n1, n2 => eqv_flat e1 e2 n1 n2 (.inl rfl)
  | .str _, y, p, q, e1, e2, n1, n2 => eqv_flat e1 e2 n1 n2 (.inl rfl)
  | .dic _, y, p, q, e1, e2, n1, n2 => eqv_flat e1 e2 n1 n2 (.inl rfl)
  | .exc _ _, y, p, q, e1, e2, n1, n2 => eqv_flat e1 e2 n1 n2 (.inl rfl)
  | .mu _, y, p, q, e1, e2, n1, n2 => eqv_flat e1 e2 n1 n2 (.inl rfl)
  | x, .non, p, q, e1, e2, n1, n2 => eqv_flat e1 e2 n1 n2 (.inr rfl)
  | x, .bl _, p, q, e1, e2, n1, n2 => eqv_flat e1 e2 n1 n2 (.inr rfl)
  | x, .int _, p, q, e1, e2, n1, n2 => eqv_flat e1 e2 n1 n2 (.inr rfl)
  | x, .str _, p, q, e1, e2, n1, n2 => eqv_flat e1 e2 n1 n2 (.inr rfl)
  | x, .dic _, p, q, e1, e2, n1, n2 => eqv_flat e1 e2 n1 n2 (.inr rfl)
  | x, .exc _ _, p, q, e1, e2, n1, n2 => eqv_flat e1 e2 n1 n2 (.inr rfl)
  | x, .mu _, p, q, e1, e2, n1, n2 => eqv_flat e1 e2 n1 n2 (.inr rfl)
theorem eqvL_py : ∀ (xs ys : List DV) (ps qs : List PyData), toPyL xs = some ps → toPyL ys = some qs → PyData.hasDictAll ps = false → PyData.hasDictAll qs = false → PyData.eqvAll ps qs = eqvL xs ys
  | [], [], _, _, e1, e2, _, _ => by cases e1; cases e2; rfl
  | [], y :: ys, _, _, e1, e2, _, _ => by
    cases e1
    obtain ⟨q, a1, a2⟩ := Option.bind_eq_some_iff.mp e2
    obtain ⟨qs, a3, rfl⟩ := Option.map_eq_some_iff.mp a2
    simp [PyData.eqvAll, eqvL]
  | x :: xs, [], _, _, e1, e2, _, _ => by
    cases e2
    obtain ⟨q, a1, a2⟩ := Option.bind_eq_some_iff.mp e1
    obtain ⟨qs, a3, rfl⟩ := Option.map_eq_some_iff.mp a2
    simp [PyData.eqvAll, eqvL]
  | x :: xs, y :: ys, _, _, e1, e2, n1, n2 => by
    obtain ⟨p, a1, a2⟩ := Option.bind_eq_some_iff.mp e1
    obtain ⟨ps, a3, rfl⟩ := Option.map_eq_some_iff.mp a2
    obtain ⟨q, b1, b2⟩ := Option.bind_eq_some_iff.mp e2
    obtain ⟨qs, b3, rfl⟩ := Option.map_eq_some_iff.mp b2
    have n1' : p.hasDict = false ∧ PyData.hasDictAll ps = false := by simpa [PyData.hasDictAll] using n1
    have n2' : q.hasDict = false ∧ PyData.hasDictAll qs = false := by simpa [PyData.hasDictAll] using n2
    simp [PyData.eqvAll, eqvL, eqv_py x y p q a1 b1 n1'.1 n2'.1, eqvL_py xs ys ps qs a3 b3 n1'.2 n2'.2]
end
def oEq (x y : DV) (μ : List MO) : RE := if (shD 60 x && shD 60 y) = true then some (.bl (eqvD x y), μ) else none
def oNe (x y : DV) (μ : List MO) : RE := if (shD 60 x && shD 60 y) = true then some (.bl (!eqvD x y), μ) else none
theorem sEqD_of {x y : DV} {μ : List MO} {R : Cn} (h : okE (oEq x y μ) R) : sEqD x y μ R := by
  obtain ⟨c, h⟩ := okE_if h
  obtain ⟨p, e1, a1, a2, a3⟩ := sh_py (Bool.and_eq_true_iff.mp c).1
  obtain ⟨q, e2, b1, b2, b3⟩ := sh_py (Bool.and_eq_true_iff.mp c).2
  refine ⟨p, q, e1, e2, a1, b1, ?_, ?_, ?_⟩
  · simp only [SeqAt.shaped, a2, Bool.true_and]
    exact decide_eq_true (by omega)
  · simp only [SeqAt.shaped, b2, Bool.true_and]
    exact decide_eq_true (by omega)
  · rw [eqv_py _ _ _ _ e1 e2 a1 b1]
    exact h
theorem sNeD_of {x y : DV} {μ : List MO} {R : Cn} (h : okE (oNe x y μ) R) : sNeD x y μ R := by
  obtain ⟨c, h⟩ := okE_if h
  obtain ⟨p, e1, a1, a2, a3⟩ := sh_py (Bool.and_eq_true_iff.mp c).1
  obtain ⟨q, e2, b1, b2, b3⟩ := sh_py (Bool.and_eq_true_iff.mp c).2
  refine ⟨p, q, e1, e2, a1, b1, ?_, ?_, ?_⟩
  · simp only [SeqAt.shaped, a2, Bool.true_and]
    exact decide_eq_true (by omega)
  · simp only [SeqAt.shaped, b2, Bool.true_and]
    exact decide_eq_true (by omega)
  · rw [eqv_py _ _ _ _ e1 e2 a1 b1]
    exact h
def oIs : DV → DV → List MO → RE
  | x, .non, μ => some (.bl (DV.isN x), μ)
  | _, _, _ => none
def oIsnt : DV → DV → List MO → RE
  | x, .non, μ => some (.bl (!DV.isN x), μ)
  | _, _, _ => none
/-- x in xs of flat things -/
def inD (x : DV) : List DV → Bool
  | [] => false
  | y :: r => eqvD x y || inD x r
def dOpC (op : CmpOp) : Option (DV → DV → List MO → RE) := match op with
  | .Lt => some oLt
  | .LtE => some oLe
  | .Gt => some oGt
  | .GtE => some oGe
  | .Eq => some oEq
  | .NotEq => some oNe
  | .Is => some oIs
  | .IsNot => some oIsnt
  | _ => none
/-- a comparison's rule: an operation and its place in the code -/
theorem cmp_rule {op : CmpOp} {o : DV → DV → List MO → RE} (hu : X.A.units + 64 < cLine) (ho : dOpC op = some o) : ∀ x y μ R, okE (o x y μ) R → ∃ (r : R2) (S : S2), OpR X (compareOp op) r ∧ R2S X r S ∧ S x y μ R := by
  intro x y μ R h
  cases op <;> (first | (cases ho; skip) | skip)
  case Eq => exact ⟨_, _, op_eqD hu, rEqD_S, sEqD_of h⟩
  case NotEq => exact ⟨_, _, op_neD hu, rNeD_S, sNeD_of h⟩
  case Lt =>
    unfold oLt at h
    split at h
    · exact ⟨_, _, op_lt, (rI0_S fun _ _ _ => .bl : R2S X _ sLt), sLt.mk h⟩
    · exact h.elim
  case LtE =>
    unfold oLe at h
    split at h
    · exact ⟨_, _, op_le, (rI0_S fun _ _ _ => .bl : R2S X _ sLe), sLe.mk h⟩
    · exact h.elim
  case Gt =>
    unfold oGt at h
    split at h
    · exact ⟨_, _, op_gt, (rI0_S fun _ _ _ => .bl : R2S X _ sGt), sGt.mk h⟩
    · exact h.elim
  case GtE =>
    unfold oGe at h
    split at h
    · exact ⟨_, _, op_ge, (rI0_S fun _ _ _ => .bl : R2S X _ sGe), sGe.mk h⟩
    · exact h.elim
  case Is =>
    unfold oIs at h
    split at h
    · exact ⟨_, _, op_isN, rIsN_S, sIsN.mk h⟩
    · exact h.elim
  case IsNot =>
    unfold oIsnt at h
    split at h
    · exact ⟨_, _, op_notN, rNotN_S, sNotN.mk h⟩
    · exact h.elim
theorem SE.cmp {op : CmpOp} {o : DV → DV → List MO → RE} (ho : dOpC op = some o) (hu : X.A.units + 64 < cLine) (sa : SE X a fa) (sb : SE X b fb) (hm : behindInMarks op b = false := by rfl) : SE X (.Compare a [op] [b] pos) (dOp2 o fa fb) := SE.op2 sa sb fun x y μ2 R h => by
  obtain ⟨r, S, h1, h2, h3⟩ := cmp_rule hu ho x y μ2 R h
  exact ⟨S, h3, fun ρ μ k => Ev.cmp h1 h2 hm k⟩
theorem ST.cmp {op : CmpOp} {o : DV → DV → List MO → RE} (ho : dOpC op = some o) (hu : X.A.units + 64 < cLine) (sa : SE X a fa) (sb : SE X b fb) (hm : behindInMarks op b = false := by rfl) : ST X (.Compare a [op] [b] pos) (dOp2 o fa fb) := ST.op2 sa sb fun x y μ2 R h => by
  obtain ⟨r, S, h1, h2, h3⟩ := cmp_rule hu ho x y μ2 R h
  exact ⟨S, h3, fun R' e ρ μ k => by subst e; exact EvT.cmpS h1 h2 hm k⟩
/-- a < b < c -/
def dChain (o o' : DV → DV → List MO → RE) (fa fb fc : Den) : Den := fun ρ μ => bnd (fa ρ μ) fun x μ1 => bnd (fb ρ μ1) fun y μ2 => bnd (o x y μ2) fun t μ3 => match t with
  | .bl true => bnd (fc ρ μ3) fun z μ4 => o' y z μ4
  | .bl false => some (.bl false, μ3)
  | _ => none
theorem chain_aux {op op' : CmpOp} {o o' : DV → DV → List MO → RE} (ho : dOpC op = some o) (ho' : dOpC op' = some o') (hu : X.A.units + 64 < cLine) (sc : SE X c fc) {ρ : RO} {x y : DV} {μ2 : List MO} {R : Cn}
    (k : okE (bnd (o x y μ2) fun t μ3 => match t with
      | .bl true => bnd (fc ρ μ3) fun z μ4 => o' y z μ4
      | .bl false => some (.bl false, μ3)
      | _ => none) R) : ∃ (r r' : R2) (S S' : S2), OpR X (compareOp op) r ∧ R2S X r S ∧ OpR X (compareOp op') r' ∧ R2S X r' S' ∧ S x y μ2 fun d μ3 => ∃ t, d = .bl t ∧ if t = true then Ev X c ρ μ3 fun dc μ4 => S' y dc μ4 R else R (.bl false) μ3 := by
  obtain ⟨t, μ3, e3, k⟩ := okE_bnd k
  cases t with
  | bl t =>
    cases t with
    | true =>
      obtain ⟨z, μ4, e4, k⟩ := okE_bnd (show okE (bnd (fc ρ μ3) fun z μ4 => o' y z μ4) R from k)
      obtain ⟨r', S', h1', h2', h3'⟩ := cmp_rule hu ho' y z μ4 R k
      obtain ⟨r, S, h1, h2, h3⟩ := cmp_rule hu ho x y μ2 (fun d μ3 => ∃ t, d = .bl t ∧ if t = true then Ev X c ρ μ3 fun dc μ4 => S' y dc μ4 R else R (.bl false) μ3) (by
        rw [e3]
        exact ⟨true, rfl, iteT (sc.at e4 h3')⟩)
      exact ⟨r, r', S, S', h1, h2, h1', h2', h3⟩
    | false =>
      have k' : R (.bl false) μ3 := k
      obtain ⟨r, S, h1, h2, h3⟩ := cmp_rule hu ho x y μ2 (fun d μ3 => ∃ t, d = .bl t ∧ if t = true then Ev X c ρ μ3 fun dc μ4 => (fun _ _ _ _ => False : S2) y dc μ4 R else R (.bl false) μ3) (by
        rw [e3]
        exact ⟨false, rfl, iteF k'⟩)
      refine ⟨r, fun _ _ _ _ => False, S, fun _ _ _ _ => False, h1, h2, ?_, ?_, h3⟩
      · intro pins s σ H x y v u Q I rx ry h
        exact h.elim
      · intro α μ H σ ρ x y da db R Q E hx hy h q
        exact h
  | _ => exact k.elim
theorem SE.chain {op op' : CmpOp} {o o' : DV → DV → List MO → RE} (ho : dOpC op = some o) (ho' : dOpC op' = some o') (hu : X.A.units + 64 < cLine) (sa : SE X a fa) (sb : SE X b fb) (sc : SE X c fc) (hm : lastMarks [op, op'] [b, c] = false := by with_unfolding_all rfl) :
    SE X (.Compare a [op, op'] [b, c] pos) (dChain o o' fa fb fc) := fun ρ μ R k => by
  obtain ⟨x, μ1, e1, k⟩ := okE_bnd k
  obtain ⟨y, μ2, e2, k⟩ := okE_bnd k
  obtain ⟨r, r', S, S', h1, h2, h3, h4, h5⟩ := chain_aux ho ho' hu sc k
  exact Ev.chain h1 h2 h3 h4 (sa.at e1 (sb.at e2 h5)) hm
theorem ST.chain {op op' : CmpOp} {o o' : DV → DV → List MO → RE} (ho : dOpC op = some o) (ho' : dOpC op' = some o') (hu : X.A.units + 64 < cLine) (sa : SE X a fa) (sb : SE X b fb) (sc : SE X c fc) (hm : lastMarks [op, op'] [b, c] = false := by with_unfolding_all rfl) :
    ST X (.Compare a [op, op'] [b, c] pos) (dChain o o' fa fb fc) := fun ρ μ R k => by
  obtain ⟨x, μ1, e1, k⟩ := okE_bnd k
  obtain ⟨y, μ2, e2, k⟩ := okE_bnd k
  obtain ⟨r, r', S, S', h1, h2, h3, h4, h5⟩ := chain_aux (R := toT R) ho ho' hu sc k
  refine EvT.chain h1 h2 h3 h4 (sa.at e1 (sb.at e2 ?_)) hm
  have mono : ∀ d μ3, (∃ t, d = DV.bl t ∧ if t = true then Ev X c ρ μ3 fun dc μ4 => S' y dc μ4 (toT R) else toT R (.bl false) μ3) → ∃ t, d = DV.bl t ∧ if t = true then Ev X c ρ μ3 fun dc μ4 => S' y dc μ4 (toT R) else R false μ3 := by
    rintro d μ3 ⟨t, rfl, h⟩
    refine ⟨t, rfl, ?_⟩
    cases t with
    | true => exact iteT h
    | false =>
      obtain ⟨k, e, h⟩ := (show toT R (.bl false) μ3 from h)
      cases e
      exact iteF h
  have e : (fun d μ3 => ∃ t, d = DV.bl t ∧ if t = true then Ev X c ρ μ3 fun dc μ4 => S' y dc μ4 (toT R) else toT R (.bl false) μ3) = fun d μ3 => ∃ t, d = DV.bl t ∧ if t = true then Ev X c ρ μ3 fun dc μ4 => S' y dc μ4 (toT R) else R false μ3 := by
    funext d μ3
    refine propext ⟨mono d μ3, ?_⟩
    rintro ⟨t, rfl, h⟩
    refine ⟨t, rfl, ?_⟩
    cases t with
    | true => exact iteT h
    | false => exact iteF ⟨false, rfl, h⟩
  rw [e] at h5
  exact h5
/-! ### and, or, not, if -/
def dAnd (fa fb : Den) : Den := fun ρ μ => bnd (fa ρ μ) fun t μ1 => match t with
  | .bl true => fb ρ μ1
  | .bl false => some (.bl false, μ1)
  | _ => none
def dOr (fa fb : Den) : Den := fun ρ μ => bnd (fa ρ μ) fun t μ1 => match t with
  | .bl false => fb ρ μ1
  | .bl true => some (.bl true, μ1)
  | _ => none
def dNot (fa : Den) : Den := fun ρ μ => bnd (fa ρ μ) fun t μ1 => match t with
  | .bl k => some (.bl (!k), μ1)
  | _ => none
def dNeg (fa : Den) : Den := fun ρ μ => bnd (fa ρ μ) fun t μ1 => match t with
  | .int k => some (.int (-k), μ1)
  | _ => none
def dIf (fc fa fb : Den) : Den := fun ρ μ => bnd (fc ρ μ) fun t μ1 => match t with
  | .bl true => fa ρ μ1
  | .bl false => fb ρ μ1
  | _ => none
theorem SE.one {op} (sa : SE X a fa) : SE X (.BoolOp op [a] pos) fa := fun ρ μ R k => Ev.one (sa ρ μ R k)
theorem SE.and {rest : List Expr} (sa : SE X a fa) (sb : SE X (.BoolOp .And (b :: rest) pos) fb) : SE X (.BoolOp .And (a :: b :: rest) pos) (dAnd fa fb) := fun ρ μ R k => by
  obtain ⟨t, μ1, e1, k⟩ := okE_bnd k
  split at k
  · exact Ev.and (sa.at e1 ⟨true, rfl, iteT (sb ρ μ1 R k)⟩)
  · exact Ev.and (sa.at e1 ⟨false, rfl, iteF k⟩)
  · exact k.elim
theorem SE.or {rest : List Expr} (sa : SE X a fa) (sb : SE X (.BoolOp .Or (b :: rest) pos) fb) : SE X (.BoolOp .Or (a :: b :: rest) pos) (dOr fa fb) := fun ρ μ R k => by
  obtain ⟨t, μ1, e1, k⟩ := okE_bnd k
  split at k
  · exact Ev.or (sa.at e1 ⟨false, rfl, iteF (sb ρ μ1 R k)⟩)
  · exact Ev.or (sa.at e1 ⟨true, rfl, iteT k⟩)
  · exact k.elim
theorem SE.not (sa : SE X a fa) : SE X (.UnaryOp .Not a pos) (dNot fa) := fun ρ μ R k => by
  obtain ⟨t, μ1, e1, k⟩ := okE_bnd k
  split at k
  · exact Ev.not (sa.at e1 ⟨_, rfl, k⟩)
  · exact k.elim
theorem SE.neg (sa : SE X a fa) : SE X (.UnaryOp .USub a pos) (dNeg fa) := fun ρ μ R k => by
  obtain ⟨t, μ1, e1, k⟩ := okE_bnd k
  split at k
  · exact Ev.neg (sa.at e1 ⟨_, rfl, k⟩)
  · exact k.elim
theorem ST.val (sa : SE X e fa) (he : ∀ whole, isTrue e X.env whole = (do let v ← whole; standAt e.pos; holding [v] (truthy v)) := by intro _; rfl) : ST X e fa := fun ρ μ R k => EvT.val (sa ρ μ _ k) he
theorem ST.not (sa : ST X a fa) : ST X (.UnaryOp .Not a pos) (dNot fa) := fun ρ μ R k => by
  obtain ⟨t, μ1, e1, k⟩ := okE_bnd k
  split at k
  · obtain ⟨t, e, k⟩ := (show toT R (.bl (!_)) μ1 from k)
    cases e
    exact EvT.not (sa.at e1 k)
  · exact k.elim
theorem ST.w (s : SW X e f) : ST X e f := fun ρ μ R k => EvT.w (s ρ μ R k)
theorem SW.and1 (s : ST X a fa) : SW X (.BoolOp .And [a] pos) fa := fun ρ μ R k => EvW.and1 (s ρ μ R k)
theorem SW.or1 (s : ST X a fa) : SW X (.BoolOp .Or [a] pos) fa := fun ρ μ R k => EvW.or1 (s ρ μ R k)
theorem SW.and {rest : List Expr} (sa : ST X a fa) (sb : SW X (.BoolOp .And (b :: rest) pos) fb) : SW X (.BoolOp .And (a :: b :: rest) pos) (dAnd fa fb) := fun ρ μ R k => by
  obtain ⟨t, μ1, e1, k⟩ := okE_bnd k
  split at k
  · exact EvW.and (sa.at e1 (iteT (sb ρ μ1 R k)))
  · obtain ⟨t, e, k⟩ := (show toT R (.bl false) μ1 from k)
    cases e
    exact EvW.and (sa.at e1 (iteF k))
  · exact k.elim
theorem SW.or {rest : List Expr} (sa : ST X a fa) (sb : SW X (.BoolOp .Or (b :: rest) pos) fb) : SW X (.BoolOp .Or (a :: b :: rest) pos) (dOr fa fb) := fun ρ μ R k => by
  obtain ⟨t, μ1, e1, k⟩ := okE_bnd k
  split at k
  · exact EvW.or (sa.at e1 (iteF (sb ρ μ1 R k)))
  · obtain ⟨t, e, k⟩ := (show toT R (.bl true) μ1 from k)
    cases e
    exact EvW.or (sa.at e1 (iteT k))
  · exact k.elim
theorem SE.ifE (sc : ST X c fc) (sa : SE X a fa) (sb : SE X b fb) : SE X (.IfExp c a b pos) (dIf fc fa fb) := fun ρ μ R k => by
  obtain ⟨t, μ1, e1, k⟩ := okE_bnd k
  split at k
  · exact Ev.ifE (sc.at e1 (iteT (sa ρ μ1 R k)))
  · exact Ev.ifE (sc.at e1 (iteF (sb ρ μ1 R k)))
  · exact k.elim
/-! ### arguments, displays -/
def aNil : DenA := fun _ μ => some ([], μ)
def aCons (fa : Den) (fs : DenA) : DenA := fun ρ μ => bnd (fa ρ μ) fun d μ1 => bnd (fs ρ μ1) fun ds μ2 => some (d :: ds, μ2)
theorem SAr.nil : SAr X [] aNil := fun ρ μ R k => EvA.nil k
theorem SAr.cons (sa : SE X e fa) (ss : SAr X es fs) (hs : starEach (e :: es) X.env = (false, eval e X.env) :: starEach es X.env := by rfl) : SAr X (e :: es) (aCons fa fs) := fun ρ μ R k => by
  obtain ⟨d, μ1, e1, k⟩ := okA_bnd k
  obtain ⟨ds, μ2, e2, k⟩ := okA_bndA k
  exact EvA.cons (sa.at e1 (ss.at e2 k)) hs
def dTup (fs : DenA) : Den := fun ρ μ => bnd (fs ρ μ) fun ds μ1 => if ds.length ≤ 1000 then some (.tup ds, μ1) else none
def dLst (fs : DenA) : Den := fun ρ μ => bnd (fs ρ μ) fun ds μ1 => if ds.length ≤ 1000 then some (.lst ds, μ1) else none
def dLstM (fs : DenA) : Den := fun ρ μ => bnd (fs ρ μ) fun ds μ1 => if ds.length ≤ 1000 then some (.mu μ1.length, μ1 ++ [.lst ds]) else none
theorem sl_ge : 1000 ≤ sizeLine := by rw [sizeLine_eq]; decide
theorem SE.tup {x1} (ss : SAr X es fs) : SE X (.Tuple es x1 pos) (dTup fs) := fun ρ μ R k => by
  obtain ⟨ds, μ1, e1, k⟩ := okE_bndA k
  obtain ⟨c, k⟩ := okE_if k
  exact Ev.tup (ss.at e1 ⟨Nat.le_trans c sl_ge, k⟩)
theorem SE.lst (ss : SAr X es fs) : SE X (.List es pos) (dLst fs) := fun ρ μ R k => by
  obtain ⟨ds, μ1, e1, k⟩ := okE_bndA k
  obtain ⟨c, k⟩ := okE_if k
  exact Ev.lst (ss.at e1 ⟨Nat.le_trans c sl_ge, k⟩)
theorem SE.lstM (ss : SAr X es fs) : SE X (.List es pos) (dLstM fs) := fun ρ μ R k => by
  obtain ⟨ds, μ1, e1, k⟩ := okE_bndA k
  obtain ⟨c, k⟩ := okE_if k
  exact Ev.lstM (ss.at e1 ⟨Nat.le_trans c sl_ge, k⟩)
/-! ### subscripts -/
def oIx (x y : DV) (μ : List MO) : RE := match x, y with
  | .str z, .int i => if z.length ≤ sizeLine then (atI z.cps.toList i).map fun c => (.str ⟨#[c]⟩, μ) else none
  | x, .int i => match itemsD μ x with
    | some ds => (atI ds i).map fun d => (d, μ)
    | none => none
  | _, _ => none
theorem okE_map {α : Type} {o : Option α} {g : α → DV} {μ : List MO} {R : Cn} (h : okE (o.map fun d => (g d, μ)) R) : ∃ d, o = some d ∧ R (g d) μ := by
  cases o with
  | none => exact h.elim
  | some d => exact ⟨d, rfl, h⟩
theorem SE.ix (sa : SE X a fa) (sb : SE X b fb) (hs : PlainIx b := by intro _ _; rfl) : SE X (.Subscript a b pos) (dOp2 oIx fa fb) := SE.op2 sa sb fun x y μ2 R h => by
  refine ⟨sIx, ?_, fun ρ μ k => Ev.at k hs⟩
  unfold oIx at h
  split at h
  · obtain ⟨c, h⟩ := okE_if h
    obtain ⟨d, e, r⟩ := okE_map h
    exact .inr ⟨_, _, d, rfl, rfl, c, e, r⟩
  · rename_i i _
    cases hi : itemsD μ2 x with
    | none => rw [hi] at h; exact h.elim
    | some ds =>
      rw [hi] at h
      obtain ⟨d, e, r⟩ := okE_map (show okE ((atI ds i).map fun d => (d, μ2)) R from h)
      exact .inl ⟨ds, i, d, hi, rfl, e, r⟩
  · exact h.elim
end
end Eg

namespace Eg
open PySem PySem.Spec PyProof.Rows L2
/-! ### what was made beside is forgotten -/
mutual
theorem Has.bel {w : Wd} (hl : w.α.length = w.μ.length) : ∀ {v : V} {d : DV}, Has w v d → DV.bel w.μ.length d = true
  | _, _, .non => rfl
  | _, _, .bl => rfl
  | _, _, .int => rfl
  | _, _, .str => rfl
  | _, _, .tup _ t => HasL.bel hl t
  | _, _, .lst _ t => HasL.bel hl t
  | _, _, .dic _ _ t => HasK.bel hl t
  | _, _, .exc _ _ t => HasF.bel hl t
  | _, _, .exc0 _ => rfl
  | _, _, .mu h => decide_eq_true (by rw [← hl]; exact (List.getElem?_eq_some_iff.mp h).1)
theorem HasL.bel {w : Wd} (hl : w.α.length = w.μ.length) : ∀ {vs : List V} {ds : List DV}, HasL w vs ds → DV.belL w.μ.length ds = true
  | _, _, .nil => rfl
  | _, _, .cons h t => Bool.and_eq_true_iff.mpr ⟨Has.bel hl h, HasL.bel hl t⟩
theorem HasK.bel {w : Wd} (hl : w.α.length = w.μ.length) : ∀ {vs : List (Key × V)} {ds : List (Key × DV)}, HasK w vs ds → DV.belK w.μ.length ds = true
  | _, _, .nil => rfl
  | _, _, .cons h t => Bool.and_eq_true_iff.mpr ⟨Has.bel hl h, HasK.bel hl t⟩
theorem HasF.bel {w : Wd} (hl : w.α.length = w.μ.length) : ∀ {vs : List (Str × V)} {ds : List (Str × DV)}, HasF w vs ds → DV.belF w.μ.length ds = true
  | _, _, .nil => rfl
  | _, _, .cons h t => Bool.and_eq_true_iff.mpr ⟨Has.bel hl h, HasF.bel hl t⟩
end
theorem Live.clo {w : Wd} (l : Live w) : w.μ.all (MO.bel w.μ.length) = true := by
  rw [List.all_eq_true]
  intro m hm
  obtain ⟨i, hi⟩ := List.getElem?_of_mem hm
  have hi2 : i < w.α.length := by
    rw [l.len]
    exact (List.getElem?_eq_some_iff.mp hi).1
  have q := l.ob i _ m (List.getElem?_eq_getElem hi2) hi
  cases m with
  | dead => rfl
  | lst ds => obtain ⟨vs, _, t⟩ := q; exact t.bel l.len
  | dic ds => obtain ⟨vs, _, t⟩ := q; exact t.bel l.len
  | ins C ds => obtain ⟨dx, vs, _, t⟩ := q; exact t.bel l.len
/-- what was there is as it was, or holds nothing that was made beside -/
def Kept (μ μ' : List MO) : Prop := ∀ j, j < μ.length → μ'[j]? = μ[j]? ∨ ∃ o, μ'[j]? = some o ∧ MO.bel μ.length o = true
theorem Kept.clo {μ μ' : List MO} (k : Kept μ μ') (h : μ.all (MO.bel μ.length) = true) : (μ'.take μ.length).all (MO.bel μ.length) = true := by
  rw [List.all_eq_true]
  intro m hm
  obtain ⟨j, hj⟩ := List.getElem?_of_mem hm
  rw [List.getElem?_take] at hj
  split at hj
  · rename_i hl
    rcases k j hl with e | ⟨o, e, b⟩
    · rw [e] at hj
      exact List.all_eq_true.mp h m (List.mem_of_getElem? hj)
    · rw [e] at hj
      cases hj
      exact b
  · cases hj
open Classical in
noncomputable def cutd (μ : List MO) (d : DV) (μ' : List MO) : RE :=
  if DV.bel μ.length d = true ∧ Kept μ μ' then some (d, μ'.take μ.length) else some (d, μ')
/-- the end of a thing that was begun with μ -/
theorem cutd_ok {K : PySem.W.Frag} {α α' : List Addr} {μ μ' : List MO} {H H' : Hp} {v : V} {d : DV} {R : Cn} (h : okE (cutd μ d μ') R) (l : Live ⟨K, α, μ, H⟩) (l' : Live ⟨K, α', μ', H'⟩) (k : Kp ⟨K, α, μ, H⟩ ⟨K, α', μ', H'⟩) (hv : Has ⟨K, α', μ', H'⟩ v d) :
    ∃ α2 μ2, R d μ2 ∧ Live ⟨K, α2, μ2, H'⟩ ∧ Kp ⟨K, α, μ, H⟩ ⟨K, α2, μ2, H'⟩ ∧ Has ⟨K, α2, μ2, H'⟩ v d := by
  unfold cutd at h
  split at h
  · rename_i c
    have cl : (μ'.take μ.length).all (MO.bel μ.length) = true := c.2.clo l.clo
    exact ⟨_, _, h, l'.cutL μ.length cl, Live.cut l l' k, hv.cut c.1⟩
  · exact ⟨α', μ', h, l', k, hv⟩
section
variable {X : Cx} {a b c e : Expr} {es : List Expr} {fa fb fc f : Den} {fs : DenA} {pos p : Pos} {ρ : RO} {μ : List MO}
theorem Ev.cutd {R : Cn} (h : Ev X e ρ μ fun d μ1 => okE (Eg.cutd μ d μ1) R) : Ev X e ρ μ R :=
  PEw h fun σ H Q ⟨α, E, q⟩ => ⟨α, E, fun v d α1 μ1 H1 r E1 X1 hv => by
    obtain ⟨α2, μ2, r2, l2, k2, hv2⟩ := cutd_ok r E.live E1.live X1 hv
    exact q v d _ _ _ r2 (E.ext k2 l2) k2 hv2⟩
/-! ### calls of defs -/
abbrev FD := List DV → List MO → RE
def CtrOf (g : FD) : Ctr := fun ds μ R => okE (g ds μ) R
def dCall (g : FD) (fs : DenA) : Den := fun ρ μ => bnd (fs ρ μ) g
theorem SE.call {x : Str} {k : Nat} {g : FD} (F : Fn X.prog X.w X.K X.mg X.base x k (CtrOf g)) (hA : X.A.guards = some []) (hr : Room k X.A) (hg : Gl X x) (ss : SAr X (e :: es) fs)
    (hdb : (x == ("__debug__" : Str)) = false := by decide) (he : starEach (e :: es) X.env = (false, eval e X.env) :: starEach es X.env := by rfl) (hpl : (backTo pos (starEach es X.env)).any (·.1) = false := by rfl) :
    SE X (.Call (.Name x p) (e :: es) [] pos) (dCall g fs) := fun ρ μ R k => by
  obtain ⟨ds, μ1, e1, k⟩ := okE_bndA k
  exact Ev.call F hA hr hg (ss.at e1 k) hdb he hpl
def SK (X : Cx) (ks : List Keyword) (f : DenA) : Prop := ∀ ρ μ R, okA (f ρ μ) R → EvK X ks ρ μ R
theorem SK.nil : SK X [] aNil := fun ρ μ R k => EvK.nil k
theorem SK.cons {nmO : Option Str} {kpos} {kws : List Keyword} (sa : SE X e fa) (ss : SK X kws fs) : SK X (⟨nmO, e, kpos⟩ :: kws) (aCons fa fs) := fun ρ μ R k => by
  obtain ⟨d, μ1, e1, k⟩ := okA_bnd k
  obtain ⟨ds, μ2, e2, k⟩ := okA_bndA k
  exact EvK.cons (sa.at e1 (ss ρ μ1 _ (by rw [e2]; exact k)))
def dCallW (n : Nat) (ix : List Nat) (g : FD) (fs : DenA) : Den := fun ρ μ => bnd (fs ρ μ) fun ds μ1 => if ds.length = n then g (permI ix ds) μ1 else none
theorem SE.callW {x : Str} {k n : Nat} {g : FD} {ks : List Str} {ix : List Nat} {kws : List Keyword} (F : FnW X.prog X.w X.K X.mg X.base x k (CtrOf g) ks ix) (hA : X.A.guards = some []) (hr : Room k X.A) (hg : Gl X x) (hn : ks.length = n) (ss : SK X kws fs)
    (hdb : (x == ("__debug__" : Str)) = false := by decide) (hall : (backToKw pos (keywordEach kws X.env)).all (·.1.isSome) = true := by rfl) (hks : (backToKw pos (keywordEach kws X.env)).filterMap (·.1) = ks := by rfl)
    (hpl : ((backTo pos (starEach [] X.env)).any (·.1) || (backToKw pos (keywordEach kws X.env)).any (·.1.isNone)) = false := by rfl) : SE X (.Call (.Name x p) [] kws pos) (dCallW n ix g fs) := fun ρ μ R k => by
  obtain ⟨ds, μ1, e1, k⟩ := okE_bndA k
  obtain ⟨c, k⟩ := okE_if k
  exact Ev.callW F hA hr hg (ss ρ μ _ (by rw [e1]; exact ⟨by rw [c, hn], k⟩)) hdb hall hks hpl
/-! ### built-ins -/
def dBlt (o : List DV → List MO → RE) (fs : DenA) : Den := fun ρ μ => bnd (fs ρ μ) o
theorem SE.blt {o : List DV → List MO → RE} {S : SA} (ss : SAr X (a :: es) fs) (hS : ∀ ds μ R, okE (o ds μ) R → S ds μ R) (rule : ∀ ρ μ R, EvA X (a :: es) ρ μ (fun ds μ1 => S ds μ1 R) → Ev X e ρ μ R) : SE X e (dBlt o fs) := fun ρ μ R k => by
  obtain ⟨ds, μ1, e1, k⟩ := okE_bndA k
  exact rule ρ μ R (ss.at e1 (hS _ _ _ k))
def oLen : List DV → List MO → RE
  | [d], μ => match lenD μ d with
    | some n => some (.int (n : Int), μ)
    | none => none
  | _, _ => none
theorem SE.len (hg : Gl X "len") (hm : X.mg "len" = none) (ss : SAr X [a] fs) (he : starEach [a] X.env = (false, eval a X.env) :: starEach [] X.env := by rfl) : SE X (.Call (.Name "len" p) [a] [] pos) (dBlt oLen fs) :=
  SE.blt ss (S := sLen) (fun ds μ R h => by
    unfold oLen at h
    split at h
    · split at h
      · rename_i d _ n e
        exact ⟨d, n, rfl, e, h⟩
      · exact h.elim
    · exact h.elim) fun ρ μ R k => Ev.len hg hm k he
def oInt : List DV → List MO → RE
  | [.int i], μ => some (.int i, μ)
  | [.bl k], μ => some (.int (if k then 1 else 0), μ)
  | _, _ => none
theorem SE.toInt (hg : Gl X "int") (hm : X.mg "int" = none) (ss : SAr X [a] fs) (he : starEach [a] X.env = (false, eval a X.env) :: starEach [] X.env := by rfl) : SE X (.Call (.Name "int" p) [a] [] pos) (dBlt oInt fs) :=
  SE.blt ss (S := sInt) (fun ds μ R h => by
    unfold oInt at h
    split at h
    · exact .inl ⟨_, rfl, h⟩
    · exact .inr ⟨_, rfl, h⟩
    · exact h.elim) fun ρ μ R k => Ev.toInt hg hm k he
def oAbs : List DV → List MO → RE
  | [.int i], μ => some (.int (if i < 0 then -i else i), μ)
  | _, _ => none
theorem SE.abs (hg : Gl X "abs") (hm : X.mg "abs" = none) (ss : SAr X [a] fs) (he : starEach [a] X.env = (false, eval a X.env) :: starEach [] X.env := by rfl) : SE X (.Call (.Name "abs" p) [a] [] pos) (dBlt oAbs fs) :=
  SE.blt ss (S := sAbs) (fun ds μ R h => by
    unfold oAbs at h
    split at h
    · exact ⟨_, rfl, h⟩
    · exact h.elim) fun ρ μ R k => Ev.abs hg hm k he
def oMM (g : Int → Int → Int) : List DV → List MO → RE
  | [.int i, .int j], μ => some (.int (g i j), μ)
  | _, _ => none
abbrev oMax2 := oMM (fun i j => if j > i then j else i)
abbrev oMin2 := oMM (fun i j => if j < i then j else i)
theorem oMM_S {g : Int → Int → Int} (ds : List DV) (μ : List MO) (R : Cn) (h : okE (oMM g ds μ) R) : sMM g ds μ R := by
  unfold oMM at h
  split at h
  · exact ⟨_, _, rfl, h⟩
  · exact h.elim
theorem SE.max2 (hc : X.calm = true) (hg : Gl X "max") (hm : X.mg "max" = none) (ss : SAr X [a, b] fs) (he : starEach [a, b] X.env = (false, eval a X.env) :: starEach [b] X.env := by rfl) (hpl : (backTo pos (starEach [b] X.env)).any (·.1) = false := by rfl) :
    SE X (.Call (.Name "max" p) [a, b] [] pos) (dBlt oMax2 fs) := SE.blt ss oMM_S fun ρ μ R k => Ev.max2 hc hg hm k he hpl
theorem SE.min2 (hc : X.calm = true) (hg : Gl X "min") (hm : X.mg "min" = none) (ss : SAr X [a, b] fs) (he : starEach [a, b] X.env = (false, eval a X.env) :: starEach [b] X.env := by rfl) (hpl : (backTo pos (starEach [b] X.env)).any (·.1) = false := by rfl) :
    SE X (.Call (.Name "min" p) [a, b] [] pos) (dBlt oMin2 fs) := SE.blt ss oMM_S fun ρ μ R k => Ev.min2 hc hg hm k he hpl
def sDivmodW : SA := fun ds μ R => ∃ i j, ds = [.int i, .int j] ∧ CDivP i j ∧ R (.tup [.int (i / j), .int (i % j)]) μ
theorem divmodW_S : RaS X (fun xs H Q => ∃ i j, xs = [.int i, .int j] ∧ CDivP i j ∧ ∀ p, H p = none → Q (.ref p) (upd H p (.tup [.int (i / j), .int (i % j)]))) sDivmodW := fun α μ H σ ρ vs ds R Q E hv h q => by
  obtain ⟨i, j, rfl, c, hR⟩ := h
  obtain ⟨v, u, rfl, hw, hu⟩ := hasL2 hv
  clear hv
  have hv := hw
  cases hv
  cases hu
  refine ⟨i, j, rfl, c, fun p np => ?_⟩
  obtain ⟨k, l⟩ := E.live.lay (o := .tup [.int (i / j), .int (i % j)]) np
  exact q _ _ α μ _ hR (E.ext k l) k (.tup (.of upd_same) (.cons .int (.cons .int .nil)))
theorem Ev.divmodW {R : Cn} {p : Pos} (hg : Gl X "divmod") (hm : X.mg "divmod" = none) (h : EvA X [a, b] ρ μ fun ds μ1 => sDivmodW ds μ1 R) (he : starEach [a, b] X.env = (false, eval a X.env) :: starEach [b] X.env := by rfl) (hpl : (backTo pos (starEach [b] X.env)).any (·.1) = false := by rfl) :
    Ev X (.Call (.Name "divmod" p) [a, b] [] pos) ρ μ R := .callB call_divmodW divmodW_S hg hm PyProof.Rows.boot_divmod h (by decide) (by decide) he hpl
theorem divp_small {i j : Int} (h0 : 0 < j) (h1 : j < 4000000000000000000) : CDivP i j := by
  refine ⟨h0, PyProof.noPylong_of_log2 ?_⟩
  by_cases z : j.natAbs = 0
  · rw [z]; decide
  · have : j.natAbs.log2 < 62 := (Nat.log2_lt z).mpr (by
      have : (2 : Nat) ^ 62 = 4611686018427387904 := by decide
      omega)
    omega
def oDivmod : List DV → List MO → RE
  | [.int i, .int j], μ => if 0 < j ∧ j < 4000000000000000000 then some (.tup [.int (i / j), .int (i % j)], μ) else none
  | _, _ => none
theorem SE.divmod (hg : Gl X "divmod") (hm : X.mg "divmod" = none) (ss : SAr X [a, b] fs) (he : starEach [a, b] X.env = (false, eval a X.env) :: starEach [b] X.env := by rfl) (hpl : (backTo pos (starEach [b] X.env)).any (·.1) = false := by rfl) :
    SE X (.Call (.Name "divmod" p) [a, b] [] pos) (dBlt oDivmod fs) := SE.blt ss (S := sDivmodW) (fun ds μ R h => by
    unfold oDivmod at h
    split at h
    · obtain ⟨c, h⟩ := okE_if h
      exact ⟨_, _, rfl, divp_small c.1 c.2, h⟩
    · exact h.elim) fun ρ μ R k => Ev.divmodW hg hm k he hpl
def oTuple : List DV → List MO → RE
  | [d], μ => match itemsD μ d with
    | some xs => some (.tup xs, μ)
    | none => none
  | _, _ => none
theorem SE.tuple (hg : Gl X "tuple") (hm : X.mg "tuple" = none) (ss : SAr X [a] fs) (he : starEach [a] X.env = (false, eval a X.env) :: starEach [] X.env := by rfl) : SE X (.Call (.Name "tuple" p) [a] [] pos) (dBlt oTuple fs) :=
  SE.blt ss (S := sTuple) (fun ds μ R h => by
    unfold oTuple at h
    split at h
    · split at h
      · rename_i d _ xs e
        exact ⟨d, xs, rfl, e, h⟩
      · exact h.elim
    · exact h.elim) fun ρ μ R k => Ev.tuple hg hm k he
/-- truths of a list -/
def blsD : List DV → Option (List Bool)
  | [] => some []
  | .bl b :: r => (blsD r).map (b :: ·)
  | _ :: _ => none
theorem blsD_eq : ∀ {ds : List DV} {bs : List Bool}, blsD ds = some bs → ds = bs.map DV.bl
  | [], _, e => by cases e; rfl
  | .bl b :: r, _, e => by
    obtain ⟨bs, e1, rfl⟩ := Option.map_eq_some_iff.mp (show (blsD r).map (b :: ·) = some _ from e)
    rw [blsD_eq e1]
    rfl
  | .non :: _, _, e => by cases e
  | .int _ :: _, _, e => by cases e
  | .str _ :: _, _, e => by cases e
  | .tup _ :: _, _, e => by cases e
  | .lst _ :: _, _, e => by cases e
  | .dic _ :: _, _, e => by cases e
  | .exc _ _ :: _, _, e => by cases e
  | .mu _ :: _, _, e => by cases e
@[simp] theorem blsD_map : ∀ bs : List Bool, blsD (bs.map DV.bl) = some bs
  | [] => rfl
  | b :: r => by
    show (blsD (r.map DV.bl)).map (b :: ·) = _
    rw [blsD_map r]
    rfl
def oAll : List DV → List MO → RE
  | [.lst xs], μ => match blsD xs with
    | some bs => some (.bl (bs.all id), μ)
    | none => none
  | _, _ => none
theorem SE.all (hc : X.calm = true) (hg : Gl X "all") (hm : X.mg "all" = none) (ss : SAr X [a] fs) (he : starEach [a] X.env = (false, eval a X.env) :: starEach [] X.env := by rfl) : SE X (.Call (.Name "all" p) [a] [] pos) (dBlt oAll fs) :=
  SE.blt ss (S := sAll) (fun ds μ R h => by
    unfold oAll at h
    split at h
    · split at h
      · rename_i xs _ bs e
        exact ⟨_, bs, rfl, by rw [blsD_eq e]; rfl, (fun _ z => nomatch z), h⟩
      · exact h.elim
    · exact h.elim) fun ρ μ R k => Ev.all hc hg hm k he
/-- numbers of a list -/
def intsD : List DV → Option (List Int)
  | [] => some []
  | .int b :: r => (intsD r).map (b :: ·)
  | _ :: _ => none
theorem intsD_eq : ∀ {ds : List DV} {bs : List Int}, intsD ds = some bs → ds = bs.map DV.int
  | [], _, e => by cases e; rfl
  | .int b :: r, _, e => by
    obtain ⟨bs, e1, rfl⟩ := Option.map_eq_some_iff.mp (show (intsD r).map (b :: ·) = some _ from e)
    rw [intsD_eq e1]
    rfl
  | .non :: _, _, e => by cases e
  | .bl _ :: _, _, e => by cases e
  | .str _ :: _, _, e => by cases e
  | .tup _ :: _, _, e => by cases e
  | .lst _ :: _, _, e => by cases e
  | .dic _ :: _, _, e => by cases e
  | .exc _ _ :: _, _, e => by cases e
  | .mu _ :: _, _, e => by cases e
@[simp] theorem intsD_map : ∀ bs : List Int, intsD (bs.map DV.int) = some bs
  | [] => rfl
  | b :: r => by
    show (intsD (r.map DV.int)).map (b :: ·) = _
    rw [intsD_map r]
    rfl
def maxI : List Int → Option Int
  | [] => none
  | x :: r => match maxI r with
    | some m => some (if x < m then m else x)
    | none => some x
def minI : List Int → Option Int
  | [] => none
  | x :: r => match minI r with
    | some m => some (if m < x then m else x)
    | none => some x
theorem maxI_none {r : List Int} (h : maxI r = none) : r = [] := by
  cases r with
  | nil => rfl
  | cons x r =>
    unfold maxI at h
    split at h <;> cases h
theorem minI_none {r : List Int} (h : minI r = none) : r = [] := by
  cases r with
  | nil => rfl
  | cons x r =>
    unfold minI at h
    split at h <;> cases h
theorem maxI_ok : ∀ {ns : List Int} {m : Int}, maxI ns = some m → m ∈ ns ∧ ∀ y ∈ ns, y ≤ m
  | x :: r, m, e => by
    unfold maxI at e
    split at e
    · rename_i m' e'
      obtain ⟨h1, h2⟩ := maxI_ok e'
      have em := Option.some.inj e
      refine ⟨?_, fun y hy => ?_⟩
      · split at em <;> subst em
        · exact List.mem_cons_of_mem _ h1
        · exact List.mem_cons_self
      · rcases List.mem_cons.mp hy with rfl | hy
        · split at em <;> omega
        · have := h2 y hy
          split at em <;> omega
    · rename_i e'
      have := maxI_none e'
      subst this
      cases e
      simp
theorem minI_ok : ∀ {ns : List Int} {m : Int}, minI ns = some m → m ∈ ns ∧ ∀ y ∈ ns, m ≤ y
  | x :: r, m, e => by
    unfold minI at e
    split at e
    · rename_i m' e'
      obtain ⟨h1, h2⟩ := minI_ok e'
      have em := Option.some.inj e
      refine ⟨?_, fun y hy => ?_⟩
      · split at em <;> subst em
        · exact List.mem_cons_of_mem _ h1
        · exact List.mem_cons_self
      · rcases List.mem_cons.mp hy with rfl | hy
        · split at em <;> omega
        · have := h2 y hy
          split at em <;> omega
    · rename_i e'
      have := minI_none e'
      subst this
      cases e
      simp
theorem maxI_eq {ns : List Int} {m m' : Int} (h : maxI ns = some m) (h1 : m' ∈ ns) (h2 : ∀ y ∈ ns, y ≤ m') : m' = m := by
  obtain ⟨a, b⟩ := maxI_ok h
  have := b _ h1
  have := h2 _ a
  omega
theorem minI_eq {ns : List Int} {m m' : Int} (h : minI ns = some m) (h1 : m' ∈ ns) (h2 : ∀ y ∈ ns, m' ≤ y) : m' = m := by
  obtain ⟨a, b⟩ := minI_ok h
  have := b _ h1
  have := h2 _ a
  omega
def oMax1 : List DV → List MO → RE
  | [.lst xs], μ => match intsD xs with
    | some ns => (maxI ns).map fun m => (.int m, μ)
    | none => none
  | _, _ => none
def oMin1 : List DV → List MO → RE
  | [.lst xs], μ => match intsD xs with
    | some ns => (minI ns).map fun m => (.int m, μ)
    | none => none
  | _, _ => none
theorem SE.max1 (hc : X.calm = true) (hg : Gl X "max") (hm : X.mg "max" = none) (ss : SAr X [a] fs) (he : starEach [a] X.env = (false, eval a X.env) :: starEach [] X.env := by rfl) : SE X (.Call (.Name "max" p) [a] [] pos) (dBlt oMax1 fs) :=
  SE.blt ss (S := sMax) (fun ds μ R h => by
    unfold oMax1 at h
    split at h
    · split at h
      · rename_i xs _ ns e
        obtain ⟨m, em, r⟩ := okE_map (g := DV.int) h
        have hne : ns ≠ [] := by rintro rfl; cases em
        exact ⟨_, ns, rfl, by rw [intsD_eq e]; rfl, (fun _ z => nomatch z), List.length_pos_iff.mpr hne, fun m' h1 h2 => by rw [maxI_eq em h1 h2]; exact r⟩
      · exact h.elim
    · exact h.elim) fun ρ μ R k => Ev.max1 hc hg hm k he
theorem SE.min1 (hc : X.calm = true) (hg : Gl X "min") (hm : X.mg "min" = none) (ss : SAr X [a] fs) (he : starEach [a] X.env = (false, eval a X.env) :: starEach [] X.env := by rfl) : SE X (.Call (.Name "min" p) [a] [] pos) (dBlt oMin1 fs) :=
  SE.blt ss (S := sMin) (fun ds μ R h => by
    unfold oMin1 at h
    split at h
    · split at h
      · rename_i xs _ ns e
        obtain ⟨m, em, r⟩ := okE_map (g := DV.int) h
        have hne : ns ≠ [] := by rintro rfl; cases em
        exact ⟨_, ns, rfl, by rw [intsD_eq e]; rfl, (fun _ z => nomatch z), List.length_pos_iff.mpr hne, fun m' h1 h2 => by rw [minI_eq em h1 h2]; exact r⟩
      · exact h.elim
    · exact h.elim) fun ρ μ R k => Ev.min1 hc hg hm k he
/-- isinstance(x, T) -/
def kitT (t T : String) : Bool := t == T || (t == "bool" && T == "int")
def tysL : List String := ["NoneType", "bool", "int", "str", "tuple", "list", "dict"]
theorem kit_all {K : PySem.W.Frag} : ∀ t ∈ tysL, ∀ T ∈ tysL, PySem.W.kitOne K (.type t) (.type T) = some (kitT t T) := by
  have key : ∀ t ∈ tysL, ∀ T ∈ tysL, kitB t T = some (kitT t T) := by decide +kernel
  exact fun t ht T hT => kit_ty (key t ht T hT)
def dIsi (T : String) (fa : Den) : Den := fun ρ μ => bnd (fa ρ μ) fun d μ1 => match DV.ty d with
  | some t => some (.bl (kitT t T), μ1)
  | none => none
theorem ty_mem {d : DV} {t : String} (h : DV.ty d = some t) : t ∈ tysL := by
  cases d <;> first | (cases h; decide) | cases h
theorem SE.isi {y : Str} {py : Pos} {T : String} (hg : Gl X "isinstance") (hm : X.mg "isinstance" = none) (gy : Gl X y) (my : X.mg y = none) (hT : T ∈ tysL) (hy : bootBuiltins y = some (.type T)) (ny : y ≠ "__name__") (dy : (y == ("__debug__" : Str)) = false) (sa : SE X a fa)
    (he : starEach [a, .Name y py] X.env = (false, eval a X.env) :: starEach [.Name y py] X.env := by rfl) (hpl : (backTo pos (starEach [.Name y py] X.env)).any (·.1) = false := by rfl)
    (hs : starEach [.Name y py] X.env = (false, eval (.Name y py) X.env) :: starEach [] X.env := by rfl) : SE X (.Call (.Name "isinstance" p) [a, .Name y py] [] pos) (dIsi T fa) := fun ρ μ R k => by
  obtain ⟨d, μ1, e1, k⟩ := okE_bnd k
  split at k
  · rename_i t et
    exact Ev.isi hg hm gy my hy ny dy (sa.at e1 ⟨t, _, et, kit_all t (ty_mem et) T hT, k⟩) he hpl hs
  · exact k.elim
/-- list(xs): to be read, to be changed -/
def oList : List DV → List MO → RE
  | [d], μ => match itemsD μ d with
    | some xs => some (.lst xs, μ)
    | none => none
  | _, _ => none
def sListL : SA := fun ds μ R => ∃ d xs, ds = [d] ∧ itemsD μ d = some xs ∧ R (.lst xs) μ
theorem list_S : RaS X (fun xs H Q => ∃ p ys, xs = [.ref p] ∧ (SqL X.K H p ys ∨ SqT X.K H p ys) ∧ ∀ l, H l = none → Q (.ref l) (upd H l (.lst ys))) sListL := fun α μ H σ ρ vs ds R Q E hv h q => by
  obtain ⟨d, xs, rfl, e, hR⟩ := h
  obtain ⟨v, rfl, hw⟩ := hasL1 hv
  obtain ⟨p, vs, rfl, hl, s⟩ := seq_of E.live hw e
  refine ⟨p, vs, rfl, s, fun l nl => ?_⟩
  obtain ⟨k, l'⟩ := E.live.lay (o := .lst vs) nl
  exact q _ _ α μ _ hR (E.ext k l') k (.lst (.inl ⟨E.live.fresh nl, .inl upd_same⟩) (k.hasL hl))
theorem SE.list (hg : Gl X "list") (hm : X.mg "list" = none) (ss : SAr X [a] fs) (he : starEach [a] X.env = (false, eval a X.env) :: starEach [] X.env := by rfl) : SE X (.Call (.Name "list" p) [a] [] pos) (dBlt oList fs) :=
  SE.blt ss (S := sListL) (fun ds μ R h => by
    unfold oList at h
    split at h
    · split at h
      · rename_i d _ xs e
        exact ⟨d, xs, rfl, e, h⟩
      · exact h.elim
    · exact h.elim) fun ρ μ R k => Ev.callTy call_list_of list_S hg hm PyProof.Rows.boot_list k (by decide) (by decide) he rfl
/-! ### slices -/
def runP (g : Option Den) (ρ : RO) (μ : List MO) : Option (Option Int × List MO) := match g with
  | none => some (none, μ)
  | some g => bnd (g ρ μ) fun l μ2 => match l with
    | .int i => some (some i, μ2)
    | _ => none
def dSl (fa : Den) (fl fu : Option Den) : Den := fun ρ μ => bnd (fa ρ μ) fun d μ1 => bnd (runP fl ρ μ1) fun l μ2 => bnd (runP fu ρ μ2) fun u μ3 =>
  match d with
  | .lst ds => some (.lst (cutD ds l u), μ3)
  | .tup ds => some (.tup (cutD ds l u), μ3)
  | _ => none
def SPo (X : Cx) (e : Option Expr) (g : Option Den) : Prop := (e = none ∧ g = none) ∨ ∃ e' g', e = some e' ∧ g = some g' ∧ SE X e' g'
theorem spN : SPo X none none := .inl ⟨rfl, rfl⟩
theorem spS (h : SE X e f) : SPo X (some e) (some f) := .inr ⟨e, f, rfl, rfl, h⟩
theorem spo_at {eo : Option Expr} {go : Option Den} (s : SPo X eo go) {z : Option Int} {μ' : List MO} {R : Cp} (h : runP go ρ μ = some (z, μ')) (r : R z μ') : EvP X eo ρ μ R := by
  rcases s with ⟨rfl, rfl⟩ | ⟨e', g', rfl, rfl, s⟩
  · cases h
    exact EvP.none r
  · unfold runP at h
    dsimp only at h
    cases hg : g' ρ μ with
    | none => rw [hg] at h; cases h
    | some q =>
      obtain ⟨l, μ2⟩ := q
      rw [hg, bnd_some] at h
      cases l with
      | int i => cases h; exact EvP.some (s.at hg ⟨i, rfl, r⟩)
      | _ => cases h
theorem okE_bndP {o : Option (Option Int × List MO)} {k : Option Int → List MO → RE} {R : Cn} (h : okE (bnd o k) R) : ∃ d μ, o = some (d, μ) ∧ okE (k d μ) R := by
  match o, h with
  | some (d, μ), h => exact ⟨d, μ, rfl, h⟩
theorem Ev.sliceT {lo hi : Option Expr} {p2 : Pos} {R : Cn} (h : Ev X a ρ μ fun d μ1 => ∃ ds, d = .tup ds ∧ EvP X lo ρ μ1 fun l μ2 => EvP X hi ρ μ2 fun u μ3 => R (.tup (cutD ds l u)) μ3) : Ev X (.Subscript a (.Slice lo hi none p2) pos) ρ μ R :=
  PEw (pe_slice sl_tupA pe_a po_a po_a) fun σ H Q ⟨α, E, q⟩ => ⟨_, h, α, E, fun v d α1 μ1 H1 ⟨ds, e, h1⟩ E1 X1 hv => by
    subst e
    refine ⟨_, h1, α1, E1, fun l α2 μ2 H2 h2 E2 X2 => ⟨_, h2, α2, E2, fun u α3 μ3 H3 h3 E3 X3 => ?_⟩⟩
    obtain ⟨p, vs, rfl, s3, hl⟩ := sqT_of (X3.has (X2.has hv))
    refine ⟨p, vs, rfl, s3, ?_, ?_⟩
    · rintro ⟨z1, z2⟩
      have e : cutD ds l u = ds := by
        unfold cutD
        rw [hl.length] at z1 z2
        rw [z1, z2]
        simp
      have h3' : R (DV.tup (cutD ds l u)) μ3 := h3
      rw [e] at h3'
      exact q _ _ _ _ _ h3' E3 (X1.trans (X2.trans X3)) (.tup s3 hl)
    · intro _ b nb
      obtain ⟨k, l'⟩ := E3.live.lay (o := .tup (cutV vs l u)) nb
      exact q _ _ _ _ _ h3 (E3.ext k l') (X1.trans (X2.trans (X3.trans k))) (.tup (.of upd_same) (k.hasL (cut_has hl l u)))⟩
theorem SE.slice {lo hi : Option Expr} {fl fu : Option Den} {p2 : Pos} (sa : SE X a fa) (sl : SPo X lo fl) (su : SPo X hi fu) : SE X (.Subscript a (.Slice lo hi none p2) pos) (dSl fa fl fu) := fun ρ μ R k => by
  obtain ⟨d, μ1, e1, k⟩ := okE_bnd k
  obtain ⟨l, μ2, e2, k⟩ := okE_bndP k
  obtain ⟨u, μ3, e3, k⟩ := okE_bndP k
  cases d with
  | lst ds => exact Ev.sliceL (sa.at e1 ⟨ds, rfl, spo_at sl e2 (spo_at su e3 k)⟩)
  | tup ds => exact Ev.sliceT (sa.at e1 ⟨ds, rfl, spo_at sl e2 (spo_at su e3 k)⟩)
  | _ => exact k.elim
/-! ### what is walked -/
def SI (X : Cx) (tg e : Expr) (f : DenA) : Prop := ∀ ρ μ R, okA (f ρ μ) R → EvI X tg e ρ μ R
def iSeq (fa : Den) : DenA := fun ρ μ => bnd (fa ρ μ) fun d μ1 => match d with
  | .lst ds => some (ds, μ1)
  | .tup ds => some (ds, μ1)
  | .str z => some (sgD z, μ1)
  | _ => none
theorem SI.seq {tg : Expr} (sa : SE X e fa) : SI X tg e (iSeq fa) := fun ρ μ R k => by
  obtain ⟨d, μ1, e1, k⟩ := okA_bnd k
  cases d with
  | lst ds => exact EvI.lst (sa.at e1 ⟨ds, rfl, k⟩)
  | tup ds => exact EvI.tup (sa.at e1 ⟨ds, rfl, k⟩)
  | str z => exact EvI.str (sa.at e1 ⟨z, rfl, k⟩)
  | _ => exact k.elim
def iRange1 (fs : DenA) : DenA := fun ρ μ => bnd (fs ρ μ) fun ds μ1 => match ds with
  | [.int j] => if -4000000000000000000 ≤ j ∧ j < 4000000000000000000 then some (rgD 0 j.toNat, μ1) else none
  | _ => none
def iRange2 (fs : DenA) : DenA := fun ρ μ => bnd (fs ρ μ) fun ds μ1 => match ds with
  | [.int i, .int j] => if -4000000000000000000 ≤ i ∧ i < 4000000000000000000 ∧ -4000000000000000000 ≤ j ∧ j < 4000000000000000000 then some (rgD i (j - i).toNat, μ1) else none
  | _ => none
theorem okA_if {c : Prop} [Decidable c] {o : Option (List DV × List MO)} {R : Ca} (h : okA (if c then o else none) R) : c ∧ okA o R := by
  by_cases hc : c
  · rw [if_pos hc] at h
    exact ⟨hc, h⟩
  · rw [if_neg hc] at h
    exact h.elim
theorem EvI.range2 {tg : Expr} {Ra : Ca} (hg : Gl X "range") (hm : X.mg "range" = none) (h : EvA X [a, b] ρ μ fun ds μ1 => ∃ i j : Int, ds = [.int i, .int j] ∧ (-(2 ^ 62) ≤ i ∧ i < 2 ^ 62 ∧ -(2 ^ 62) ≤ j ∧ j < 2 ^ 62) ∧ Ra (rgD i (j - i).toNat) μ1) (hs : starEach [a, b] X.env = [(false, eval a X.env), (false, eval b X.env)] := by rfl) (hs2 : starEach [b] X.env = [(false, eval b X.env)] := by rfl) :
    EvI X tg (.Call (.Name "range" p) [a, b] [] pos) ρ μ Ra :=
  PIw (pi_range2 hg hm pa_a hs hs2) fun σ H Q ⟨α, E, q⟩ => ⟨_, h, α, E, fun vs ds α1 μ1 H1 ⟨i, j, e, h1, r⟩ E1 X1 hv => by
    subst e
    obtain ⟨v, u, rfl, hw, hu⟩ := hasL2 hv
    cases hw
    cases hu
    exact ⟨i, j, rfl, h1, q _ _ α1 μ1 H1 r E1 X1 (itr_ok i (j - i).toNat)⟩⟩
theorem SI.range1 {tg : Expr} (hg : Gl X "range") (hm : X.mg "range" = none) (ss : SAr X [a] fs) (hs : starEach [a] X.env = [(false, eval a X.env)] := by rfl) : SI X tg (.Call (.Name "range" p) [a] [] pos) (iRange1 fs) := fun ρ μ R k => by
  obtain ⟨ds, μ1, e1, k⟩ := okA_bndA k
  refine EvI.range1 hg hm (ss.at e1 ?_) hs
  split at k
  · obtain ⟨c, k⟩ := okA_if k
    exact ⟨_, rfl, by omega, by omega, k⟩
  · exact k.elim
theorem SI.range2 {tg : Expr} (hg : Gl X "range") (hm : X.mg "range" = none) (ss : SAr X [a, b] fs) (hs : starEach [a, b] X.env = [(false, eval a X.env), (false, eval b X.env)] := by rfl) (hs2 : starEach [b] X.env = [(false, eval b X.env)] := by rfl) : SI X tg (.Call (.Name "range" p) [a, b] [] pos) (iRange2 fs) := fun ρ μ R k => by
  obtain ⟨ds, μ1, e1, k⟩ := okA_bndA k
  refine EvI.range2 hg hm (ss.at e1 ?_) hs hs2
  split at k
  · obtain ⟨c, k⟩ := okA_if k
    exact ⟨_, _, rfl, by omega, k⟩
  · exact k.elim
def iZip (fs : DenA) : DenA := fun ρ μ => bnd (fs ρ μ) fun ds μ1 => match ds with
  | [.tup xs, .tup ys] => some (zipD xs ys, μ1)
  | [.lst xs, .lst ys] => some (zipD xs ys, μ1)
  | _ => none
theorem SI.zip {tpos : Pos} {elts : List Expr} {kk : Nat} (hg : Gl X "zip") (hm : X.mg "zip" = none) (ss : SAr X [a, b] fs)
    (hs : starEach [a, b] X.env = (false, eval a X.env) :: starEach [b] X.env := by rfl) (hpl : (backTo pos (starEach [b] X.env)).any (·.1) = false := by rfl) : SI X (.Tuple elts kk tpos) (.Call (.Name "zip" p) [a, b] [] pos) (iZip fs) := fun ρ μ R k => by
  obtain ⟨ds, μ1, e1, k⟩ := okA_bndA k
  split at k
  · exact EvI.zipT hg hm (ss.at e1 ⟨_, _, rfl, k⟩) hs hpl
  · exact EvI.zipL hg hm (ss.at e1 ⟨_, _, rfl, k⟩) hs hpl
  · exact k.elim
end
end Eg

namespace Eg
open PySem PySem.Spec PyProof.Rows L2
section
variable {X : Cx} {a b c e : Expr} {es : List Expr} {fa fb fc f : Den} {fs fi : DenA} {pos p : Pos} {ρ : RO} {μ : List MO}
/-! ### comprehensions -/
open Classical in
noncomputable def dropL (n : Nat) (acc : List DV) (μ : List MO) : Option (List MO) := if μ = μ.take n ++ [.lst acc] then some (μ.take n) else none
theorem dropL_ok {n : Nat} {acc : List DV} {μ μ4 : List MO} (h : dropL n acc μ = some μ4) : μ = μ4 ++ [.lst acc] ∧ μ4.length = n := by
  unfold dropL at h
  split at h
  · rename_i c
    cases h
    refine ⟨c, ?_⟩
    have z := congrArg List.length c
    rw [List.length_append, List.length_take, List.length_singleton] at z
    rw [List.length_take]
    omega
  · cases h
@[simp] theorem dropL_app {acc : List DV} {μ : List MO} {n : Nat} (h : μ.length = n) : dropL n acc (μ ++ [.lst acc]) = some μ := by
  unfold dropL
  subst h
  rw [List.take_left, if_pos rfl]
abbrev Bd := DV → RO → Option RO
def bd1 (i : Nat) : Bd := fun d ρ => some (ρ.set i (some d))
def bd2 (i j : Nat) : Bd := fun d ρ => match d with
  | .tup [x, y] => some ((ρ.set i (some x)).set j (some y))
  | _ => none
noncomputable def lcLoop (bd : Bd) (c elt : Den) (ρ : RO) (n : Nat) : List DV → List DV → List MO → Option (List DV × List MO)
  | [], acc, μ => some (acc, μ)
  | d :: ds, acc, μ => match bd d ρ with
    | none => none
    | some ρ' => bnd (c ρ' (μ ++ [.lst acc])) fun t μ3 => match t with
      | .bl true => bnd (elt ρ' μ3) fun y μ5 => match dropL n acc μ5 with
        | some μ4 => lcLoop bd c elt ρ n ds (acc ++ [y]) μ4
        | none => none
      | .bl false => match dropL n acc μ3 with
        | some μ4 => lcLoop bd c elt ρ n ds acc μ4
        | none => none
      | _ => none
noncomputable def dLc (fi : DenA) (bd : Bd) (c elt : Den) : Den := fun ρ μ => bnd (fi ρ μ) fun ds μ1 => if ds.length ≤ 16777216 then bnd (lcLoop bd c elt ρ μ1.length ds [] μ1) fun acc μ2 => cutd μ (.lst acc) (μ2 ++ [.dead]) else none
abbrev dT : Den := dC (.bl true)
theorem drop_cons {α : Type} {l : List α} {j : Nat} {d : α} (h : l[j]? = some d) : l.drop j = d :: l.drop (j + 1) := by
  obtain ⟨hj, e⟩ := List.getElem?_eq_some_iff.mp h
  rw [← e]
  exact List.drop_eq_getElem_cons hj
theorem sl_eq : sizeLine = 16777216 := by rw [sizeLine_eq]
/-- the turn of a comprehension -/
theorem lc_turn {bd : Bd} {c elt : Den} {n : Nat} {d : DV} {ds acc : List DV} {μ2 : List MO} {aF : List DV} {μF : List MO} (h : lcLoop bd c elt ρ n (d :: ds) acc μ2 = some (aF, μF)) :
    ∃ ρ' t μ3, bd d ρ = some ρ' ∧ c ρ' (μ2 ++ [.lst acc]) = some (.bl t, μ3) ∧
      ((t = true ∧ ∃ y μ5 μ4, elt ρ' μ3 = some (y, μ5) ∧ μ5 = μ4 ++ [.lst acc] ∧ μ4.length = n ∧ lcLoop bd c elt ρ n ds (acc ++ [y]) μ4 = some (aF, μF)) ∨
       (t = false ∧ ∃ μ4, μ3 = μ4 ++ [.lst acc] ∧ μ4.length = n ∧ lcLoop bd c elt ρ n ds acc μ4 = some (aF, μF))) := by
  unfold lcLoop at h
  cases hb : bd d ρ with
  | none => rw [hb] at h; cases h
  | some ρ' =>
    rw [hb] at h
    dsimp only at h
    cases hc : c ρ' (μ2 ++ [.lst acc]) with
    | none => rw [hc] at h; cases h
    | some q =>
      obtain ⟨t, μ3⟩ := q
      rw [hc, bnd_some] at h
      cases t with
      | bl t =>
        refine ⟨ρ', t, μ3, rfl, hc, ?_⟩
        cases t with
        | true =>
          dsimp only at h
          cases he : elt ρ' μ3 with
          | none => rw [he] at h; cases h
          | some q =>
            obtain ⟨y, μ5⟩ := q
            rw [he, bnd_some] at h
            cases hd : dropL n acc μ5 with
            | none => rw [hd] at h; cases h
            | some μ4 =>
              rw [hd] at h
              obtain ⟨e1, e2⟩ := dropL_ok hd
              exact .inl ⟨rfl, y, μ5, μ4, rfl, e1, e2, h⟩
        | false =>
          dsimp only at h
          cases hd : dropL n acc μ3 with
          | none => rw [hd] at h; cases h
          | some μ4 =>
            rw [hd] at h
            obtain ⟨e1, e2⟩ := dropL_ok hd
            exact .inr ⟨rfl, μ4, e1, e2, h⟩
      | _ => cases h
theorem SE.lcIf {elt iter ce : Expr} {scope : Scope} {x : Str} {px : Pos} (i : Nat) (hc : X.calm = true) (hN : X.N.Nodup) (hi : X.N[i]? = some x) (ok : BlkOk X.N X.env.scope scope [(x, i)])
    (hl : ∀ (s : Shared) (H : Hp) (C : Addr) (cl : List (Str × Addr)) (fp : List Addr), Loc (blkX X s H scope C cl fp).env.scope x ∧ ((blkX X s H scope C cl fp).fn x = true ∨ (blkX X s H scope C cl fp).env.scope.names.lookup x = some .local))
    (si : SI X (.Name x px) iter fi) (sc : ∀ s H C cl fp, ST (blkX X s H scope C cl fp) ce fc) (se : ∀ s H C cl fp, SE (blkX X s H scope C cl fp) elt f) (hs : ∀ x, foldedSetIterable iter X.env x = pure x := by intro _; rfl) :
    SE X (.ListComp elt [⟨.Name x px, iter, [ce], 0⟩] scope pos) (dLc fi (bd1 i) fc f) := fun ρ μ R k => by
  obtain ⟨ds, μ1, e1, k⟩ := okE_bndA k
  obtain ⟨hz, k⟩ := okE_if k
  obtain ⟨aF, μF, e2, k⟩ := okE_bndA k
  refine Ev.cutd (Ev.lcIf i hc hN hi ok hl (si ρ μ _ ?_) hs)
  rw [e1]
  refine ⟨by rw [sl_eq]; exact hz, fun j acc μ' => lcLoop (bd1 i) fc f ρ μ1.length (ds.drop j) acc μ' = some (aF, μF), e2, ?_, ?_⟩
  · intro j d acc μ2 hd hl2 hI s H C cl fp
    rw [drop_cons hd] at hI
    obtain ⟨ρ', t, μ3, b1, c1, hh⟩ := lc_turn hI
    cases b1
    refine (sc s H C cl fp).at c1 ?_
    rcases hh with ⟨rfl, y, μ5, μ4, he, h5, h4, hI'⟩ | ⟨rfl, μ4, h3, h4, hI'⟩
    · exact iteT fun s H C cl fp => (se s H C cl fp).at he ⟨μ4, h5, h4, hI'⟩
    · exact iteF ⟨μ4, h3, h4, hI'⟩
  · intro acc μ2 hl2 hI
    rw [List.drop_length] at hI
    cases hI
    exact k
theorem SE.lc {elt iter : Expr} {scope : Scope} {x : Str} {px : Pos} (i : Nat) (hc : X.calm = true) (hN : X.N.Nodup) (hi : X.N[i]? = some x) (ok : BlkOk X.N X.env.scope scope [(x, i)])
    (hl : ∀ (s : Shared) (H : Hp) (C : Addr) (cl : List (Str × Addr)) (fp : List Addr), Loc (blkX X s H scope C cl fp).env.scope x ∧ ((blkX X s H scope C cl fp).fn x = true ∨ (blkX X s H scope C cl fp).env.scope.names.lookup x = some .local))
    (si : SI X (.Name x px) iter fi) (se : ∀ s H C cl fp, SE (blkX X s H scope C cl fp) elt f) (hs : ∀ x, foldedSetIterable iter X.env x = pure x := by intro _; rfl) :
    SE X (.ListComp elt [⟨.Name x px, iter, [], 0⟩] scope pos) (dLc fi (bd1 i) dT f) := fun ρ μ R k => by
  obtain ⟨ds, μ1, e1, k⟩ := okE_bndA k
  obtain ⟨hz, k⟩ := okE_if k
  obtain ⟨aF, μF, e2, k⟩ := okE_bndA k
  refine Ev.cutd (Ev.lc i hc hN hi ok hl (si ρ μ _ ?_) hs)
  rw [e1]
  refine ⟨by rw [sl_eq]; exact hz, fun j acc μ' => lcLoop (bd1 i) dT f ρ μ1.length (ds.drop j) acc μ' = some (aF, μF), e2, ?_, ?_⟩
  · intro j d acc μ2 hd hl2 hI s H C cl fp
    rw [drop_cons hd] at hI
    obtain ⟨ρ', t, μ3, b1, c1, hh⟩ := lc_turn hI
    cases b1
    cases c1
    rcases hh with ⟨_, y, μ5, μ4, he, h5, h4, hI'⟩ | ⟨z, _⟩
    · exact (se s H C cl fp).at he ⟨μ4, h5, h4, hI'⟩
    · cases z
  · intro acc μ2 hl2 hI
    rw [List.drop_length] at hI
    cases hI
    exact k
theorem bd2_some {i j : Nat} {d : DV} {ρ' : RO} (h : bd2 i j d ρ = some ρ') : ∃ x y, d = .tup [x, y] ∧ ρ' = (ρ.set i (some x)).set j (some y) := by
  unfold bd2 at h
  split at h
  · cases h
    exact ⟨_, _, rfl, rfl⟩
  · cases h
theorem SE.lc2 {elt iter : Expr} {scope : Scope} {x x' : Str} {px px' pt : Pos} {kt : Nat} (i i' : Nat) (hne : i ≠ i') (hc : X.calm = true) (hN : X.N.Nodup) (hi : X.N[i]? = some x) (hi' : X.N[i']? = some x') (ok : BlkOk X.N X.env.scope scope [(x, i), (x', i')])
    (hcb : ∀ (s : Shared) (H : Hp) (C : Addr) (cl : List (Str × Addr)) (fp : List Addr), (blkX X s H scope C cl fp).calm = true)
    (hl : ∀ (s : Shared) (H : Hp) (C : Addr) (cl : List (Str × Addr)) (fp : List Addr), Loc (blkX X s H scope C cl fp).env.scope x ∧ ((blkX X s H scope C cl fp).fn x = true ∨ (blkX X s H scope C cl fp).env.scope.names.lookup x = some .local))
    (hl' : ∀ (s : Shared) (H : Hp) (C : Addr) (cl : List (Str × Addr)) (fp : List Addr), Loc (blkX X s H scope C cl fp).env.scope x' ∧ ((blkX X s H scope C cl fp).fn x' = true ∨ (blkX X s H scope C cl fp).env.scope.names.lookup x' = some .local))
    (si : SI X (.Tuple [.Name x px, .Name x' px'] kt pt) iter fi) (se : ∀ s H C cl fp, SE (blkX X s H scope C cl fp) elt f) (hs : ∀ x, foldedSetIterable iter X.env x = pure x := by intro _; rfl) :
    SE X (.ListComp elt [⟨.Tuple [.Name x px, .Name x' px'] kt pt, iter, [], 0⟩] scope pos) (dLc fi (bd2 i i') dT f) := fun ρ μ R k => by
  obtain ⟨ds, μ1, e1, k⟩ := okE_bndA k
  obtain ⟨hz, k⟩ := okE_if k
  obtain ⟨aF, μF, e2, k⟩ := okE_bndA k
  refine Ev.cutd (Ev.lc2 i i' hne hc hN hi hi' ok hcb hl hl' (si ρ μ _ ?_) hs)
  rw [e1]
  -- every item is a pair: else the loop would have been stopped
  have all2 : ∀ (ds acc : List DV) (μ' : List MO), lcLoop (bd2 i i') dT f ρ μ1.length ds acc μ' = some (aF, μF) → ∀ d ∈ ds, ∃ x y, d = .tup [x, y] := by
    intro ds
    induction ds with
    | nil => intro acc μ' _ d hd; cases hd
    | cons d0 ds ih =>
      intro acc μ' h d hd
      obtain ⟨ρ', t, μ3, b1, c1, hh⟩ := lc_turn h
      obtain ⟨x, y, e, _⟩ := bd2_some b1
      rcases List.mem_cons.mp hd with rfl | hd
      · exact ⟨x, y, e⟩
      · rcases hh with ⟨_, y, μ5, μ4, _, _, _, hI'⟩ | ⟨_, μ4, _, _, hI'⟩
        · exact ih _ _ hI' d hd
        · exact ih _ _ hI' d hd
  refine ⟨by rw [sl_eq]; exact hz, fun j acc μ' => lcLoop (bd2 i i') dT f ρ μ1.length (ds.drop j) acc μ' = some (aF, μF), e2, ?_, ?_⟩
  · intro j d hd
    obtain ⟨x, y, rfl⟩ := all2 _ _ _ e2 d (List.mem_of_getElem? hd)
    refine ⟨x, y, rfl, ?_⟩
    intro acc μ2 hl2 hI s H C cl fp
    rw [drop_cons hd] at hI
    obtain ⟨ρ', t, μ3, b1, c1, hh⟩ := lc_turn hI
    cases b1
    cases c1
    rcases hh with ⟨_, y, μ5, μ4, he, h5, h4, hI'⟩ | ⟨z, _⟩
    · exact (se s H C cl fp).at he ⟨μ4, h5, h4, hI'⟩
    · cases z
  · intro acc μ2 hl2 hI
    rw [List.drop_length] at hI
    cases hI
    exact k
/-- a comprehension whose items change nothing -/
theorem lcLoop_pure {bd : Bd} {c elt : Den} {p : DV → Bool} {g : DV → DV} {n : Nat} : ∀ (ds acc : List DV) (μ : List MO), μ.length = n → (∀ d ∈ ds, ∃ ρ', bd d ρ = some ρ' ∧ ∀ μ', c ρ' μ' = some (.bl (p d), μ') ∧ (p d = true → elt ρ' μ' = some (g d, μ'))) →
    lcLoop bd c elt ρ n ds acc μ = some (acc ++ (ds.filter p).map g, μ)
  | [], acc, μ, _, _ => by simp [lcLoop]
  | d :: ds, acc, μ, hn, h => by
    obtain ⟨ρ', e1, e2⟩ := h d List.mem_cons_self
    unfold lcLoop
    rw [e1]
    dsimp only
    rw [(e2 _).1, bnd_some]
    cases hp : p d with
    | true =>
      dsimp only
      rw [(e2 _).2 hp, bnd_some, dropL_app hn]
      dsimp only
      rw [lcLoop_pure ds _ μ hn fun d' hd' => h d' (List.mem_cons_of_mem _ hd'), List.filter_cons_of_pos hp]
      simp
    | false =>
      dsimp only
      rw [dropL_app hn]
      dsimp only
      rw [lcLoop_pure ds _ μ hn fun d' hd' => h d' (List.mem_cons_of_mem _ hd'), List.filter_cons_of_neg (by simp [hp])]
@[simp] theorem cutd_self {μ : List MO} {d : DV} : cutd μ d μ = some (d, μ) := by
  unfold cutd
  split <;> simp
theorem cutd_pure {μ g : List MO} {d : DV} (h : DV.bel μ.length d = true) : cutd μ d (μ ++ g) = some (d, μ) := by
  unfold cutd
  rw [List.take_left, if_pos ⟨h, fun j hj => .inl (List.getElem?_append_left hj)⟩]
theorem dLc_pure {bd : Bd} {c elt : Den} {p : DV → Bool} {g : DV → DV} {ds : List DV} (hi : fi ρ μ = some (ds, μ)) (hz : ds.length ≤ 16777216)
    (h : ∀ d ∈ ds, ∃ ρ', bd d ρ = some ρ' ∧ ∀ μ', c ρ' μ' = some (.bl (p d), μ') ∧ (p d = true → elt ρ' μ' = some (g d, μ'))) (hb : ∀ d ∈ ds, p d = true → DV.bel μ.length (g d) = true) :
    dLc fi bd c elt ρ μ = some (.lst ((ds.filter p).map g), μ) := by
  unfold dLc
  rw [hi, bnd_some, if_pos hz, lcLoop_pure ds [] μ rfl h, bnd_some, List.nil_append]
  refine cutd_pure ?_
  have : ∀ l : List DV, (∀ d ∈ l, p d = true → DV.bel μ.length (g d) = true) → DV.belL μ.length ((l.filter p).map g) = true := by
    intro l
    induction l with
    | nil => intro _; rfl
    | cons d l ih =>
      intro hl
      cases hp : p d with
      | true =>
        rw [List.filter_cons_of_pos hp]
        exact Bool.and_eq_true_iff.mpr ⟨hl d List.mem_cons_self hp, ih fun d' hd' => hl d' (List.mem_cons_of_mem _ hd')⟩
      | false =>
        rw [List.filter_cons_of_neg (by simp [hp])]
        exact ih fun d' hd' => hl d' (List.mem_cons_of_mem _ hd')
  exact this ds hb
theorem dLc_map {bd : Bd} {elt : Den} {g : DV → DV} {ds : List DV} (hi : fi ρ μ = some (ds, μ)) (hz : ds.length ≤ 16777216)
    (h : ∀ d ∈ ds, ∃ ρ', bd d ρ = some ρ' ∧ ∀ μ', elt ρ' μ' = some (g d, μ')) (hb : ∀ d ∈ ds, DV.bel μ.length (g d) = true) :
    dLc fi bd dT elt ρ μ = some (.lst (ds.map g), μ) := by
  have := dLc_pure (c := dT) (p := fun _ => true) hi hz (fun d hd => by
    obtain ⟨ρ', e1, e2⟩ := h d hd
    exact ⟨ρ', e1, fun μ' => ⟨rfl, fun _ => e2 μ'⟩⟩) fun d hd _ => hb d hd
  rw [this]
  congr 3
  rw [List.filter_eq_self.mpr fun _ _ => rfl]
/-! ### targets -/
abbrev DenG := DV → RO → List MO → Option (RO × List MO)
abbrev DenGs := List DV → RO → List MO → Option (RO × List MO)
def okG (o : Option (RO × List MO)) (R : RO → List MO → Prop) : Prop := match o with
  | some (ρ, μ) => R ρ μ
  | none => False
def SG (X : Cx) (t : Expr) (g : DenG) : Prop := ∀ d ρ μ R, okG (g d ρ μ) R → EvG X t d ρ μ R
def SGs (X : Cx) (ts : List Expr) (g : DenGs) : Prop := ∀ ds ρ μ R, okG (g ds ρ μ) R → EvGs X ts ds ρ μ R
theorem okG_bnd {o : Option (RO × List MO)} {k : RO → List MO → Option (RO × List MO)} {R : RO → List MO → Prop} (h : okG (bnd o k) R) : ∃ d μ, o = some (d, μ) ∧ okG (k d μ) R := by
  match o, h with
  | some (d, μ), h => exact ⟨d, μ, rfl, h⟩
theorem okG_bndE {o : RE} {k : DV → List MO → Option (RO × List MO)} {R : RO → List MO → Prop} (h : okG (bnd o k) R) : ∃ d μ, o = some (d, μ) ∧ okG (k d μ) R := by
  match o, h with
  | some (d, μ), h => exact ⟨d, μ, rfl, h⟩
def gNm (i : Nat) : DenG := fun d ρ μ => some (ρ.set i (some d), μ)
theorem SG.name (i : Nat) {x : Str} (hN : X.N.Nodup) (hi : X.N[i]? = some x) (hx : Loc X.env.scope x) (hf : X.fn x = true ∨ X.env.scope.names.lookup x = some .local) : SG X (.Name x pos) (gNm i) := fun d ρ μ R h => EvG.name i hN hi hx hf h
def gEnd : DenGs := fun ds ρ μ => match ds with
  | [] => some (ρ, μ)
  | _ => none
def gAnd (g : DenG) (gs : DenGs) : DenGs := fun ds ρ μ => match ds with
  | d :: ds => bnd (g d ρ μ) fun ρ1 μ1 => gs ds ρ1 μ1
  | [] => none
theorem SGs.nil : SGs X [] gEnd := fun ds ρ μ R h => by
  unfold gEnd at h
  split at h
  · exact EvGs.nil h
  · exact h.elim
theorem SGs.cons {t : Expr} {ts : List Expr} {g : DenG} {gs : DenGs} (sg : SG X t g) (ss : SGs X ts gs) (hs : (assignEach (t :: ts) X.env).map (·.2) = assign t X.env :: (assignEach ts X.env).map (·.2) := by rfl) : SGs X (t :: ts) (gAnd g gs) := fun ds ρ μ R h => by
  unfold gAnd at h
  split at h
  · rename_i d ds
    obtain ⟨ρ1, μ1, e1, h⟩ := okG_bnd h
    exact EvGs.cons (sg d ρ μ _ (by rw [e1]; exact ss ds ρ1 μ1 R h)) hs
  · exact h.elim
def gTu (n : Nat) (gs : DenGs) : DenG := fun d ρ μ => match d with
  | .tup ds => if ds.length = n then gs ds ρ μ else none
  | _ => none
theorem SG.tup {ts : List Expr} {k n : Nat} {gs : DenGs} (hc : X.calm = true) (ss : SGs X ts gs) (hn : (assignEach ts X.env).length = n := by rfl) (hst : (assignEach ts X.env).findIdx? (·.1) = none := by rfl) : SG X (.Tuple ts k pos) (gTu n gs) := fun d ρ μ R h => by
  unfold gTu at h
  split at h
  · rename_i ds
    by_cases c : ds.length = n
    · rw [if_pos c] at h
      exact EvG.tup hc (ss ds ρ μ R h) (by rw [hn, c]) hst
    · rw [if_neg c] at h
      exact h.elim
  · exact h.elim
def gSb (fo fi : Den) : DenG := fun d ρ μ => bnd (fo ρ μ) fun o μ1 => bnd (fi ρ μ1) fun i μ2 => match o, i with
  | .mu k, .int z => match μ2[k]? with
    | some (.lst xs) => match ixN xs.length z with
      | some j => some (ρ, μ2.set k (.lst (xs.set j d)))
      | none => none
    | _ => none
  | _, _ => none
theorem SG.sub {o i : Expr} {fo fi : Den} (so : SE X o fo) (si : SE X i fi) (ha : ∀ v, assign (.Subscript o i pos) X.env v = (do
      let ov ← holding [v] (eval o X.env)
      let iv ← holding [v, ov] (eval i X.env)
      standAt pos
      holding [v, ov, iv] (setItem ov iv v)
      release [v, ov, iv] []) := by intro _; rfl) : SG X (.Subscript o i pos) (gSb fo fi) := fun d ρ μ R h => by
  obtain ⟨x, μ1, e1, h⟩ := okG_bndE h
  obtain ⟨y, μ2, e2, h⟩ := okG_bndE h
  cases x with
  | mu k =>
    cases y with
    | int z =>
      dsimp only at h
      split at h
      · rename_i xs hk
        split at h
        · rename_i j hj
          exact EvG.sub (so.at e1 (si.at e2 ⟨k, xs, z, j, rfl, rfl, hk, hj, h⟩)) ha
        · exact h.elim
      · exact h.elim
    | _ => exact h.elim
  | _ => exact h.elim
/-! ### statements -/
abbrev DenS := RO → List MO → Option Out
def okS (o : Option Out) (R : Co) : Prop := match o with
  | some o => R o
  | none => False
def S1 (X : Cx) (s : Stmt) (f : DenS) : Prop := ∀ ρ μ R, okS (f ρ μ) R → St X s ρ μ R
def SS (X : Cx) (s : List Stmt) (f : DenS) : Prop := ∀ ρ μ R, okS (f ρ μ) R → Sts X s ρ μ R
theorem okS_bnd {o : RE} {k : DV → List MO → Option Out} {R : Co} (h : okS (bnd o k) R) : ∃ d μ, o = some (d, μ) ∧ okS (k d μ) R := by
  match o, h with
  | some (d, μ), h => exact ⟨d, μ, rfl, h⟩
theorem okS_bndA {o : Option (List DV × List MO)} {k : List DV → List MO → Option Out} {R : Co} (h : okS (bnd o k) R) : ∃ d μ, o = some (d, μ) ∧ okS (k d μ) R := by
  match o, h with
  | some (d, μ), h => exact ⟨d, μ, rfl, h⟩
theorem okS_bndG {o : Option (RO × List MO)} {k : RO → List MO → Option Out} {R : Co} (h : okS (bnd o k) R) : ∃ d μ, o = some (d, μ) ∧ okS (k d μ) R := by
  match o, h with
  | some (d, μ), h => exact ⟨d, μ, rfl, h⟩
variable {s : Stmt} {ss sa sb : List Stmt} {gs1 gs2 g1 g2 : DenS}
def sNo : DenS := fun _ _ => none
theorem S1.no : S1 X s sNo := fun _ _ _ h => h.elim
theorem SS.no : SS X ss sNo := fun _ _ _ h => h.elim
def sNil : DenS := fun ρ μ => some (.nx ρ μ)
theorem SS.nil : SS X [] sNil := fun ρ μ R h => Sts.nil h
def sCons (f g : DenS) : DenS := fun ρ μ => match f ρ μ with
  | some (.nx ρ1 μ1) => g ρ1 μ1
  | o => o
theorem SS.cons (h1 : S1 X s g1) (h2 : SS X ss g2) : SS X (s :: ss) (sCons g1 g2) := fun ρ μ R h => by
  unfold sCons at h
  cases e : g1 ρ μ with
  | none => rw [e] at h; exact h.elim
  | some o =>
    rw [e] at h
    refine Sts.cons (h1 ρ μ _ (by rw [e]; show seqR X ss R o; cases o with
      | nx ρ1 μ1 => exact h2 ρ1 μ1 R h
      | rt d μ1 => exact h
      | bk ρ1 μ1 => exact h
      | ct ρ1 μ1 => exact h))
def sExp (f : Den) : DenS := fun ρ μ => bnd (f ρ μ) fun _ μ1 => some (.nx ρ μ1)
theorem S1.expr (sa : SE X e f) (hs : swapsWith e none pos.line X.env = pure false := by rfl) : S1 X (.Expr e pos) (sExp f) := fun ρ μ R h => by
  obtain ⟨d, μ1, e1, h⟩ := okS_bnd h
  exact St.expr (sa.at e1 h) hs
def sRet (f : Den) : DenS := fun ρ μ => bnd (f ρ μ) fun d μ1 => some (.rt d μ1)
theorem S1.ret (sa : SE X e f) : S1 X (.Return (some e) pos) (sRet f) := fun ρ μ R h => by
  obtain ⟨d, μ1, e1, h⟩ := okS_bnd h
  exact St.ret (sa.at e1 h)
theorem S1.retN : S1 X (.Return none pos) (fun _ μ => some (.rt .non μ)) := fun ρ μ R h => St.retN h
theorem S1.pass : S1 X (.Pass pos) sNil := fun ρ μ R h => St.pass h
theorem S1.brk : S1 X (.Break pos) (fun ρ μ => some (.bk ρ μ)) := fun ρ μ R h => St.brk h
theorem S1.cont : S1 X (.Continue pos) (fun ρ μ => some (.ct ρ μ)) := fun ρ μ R h => St.cont h
def sIf (fc : Den) (f g : DenS) : DenS := fun ρ μ => bnd (fc ρ μ) fun t μ1 => match t with
  | .bl true => f ρ μ1
  | .bl false => g ρ μ1
  | _ => none
theorem S1.ifS (sc : ST X c fc) (h1 : SS X sa g1) (h2 : SS X sb g2) : S1 X (.If c sa sb pos) (sIf fc g1 g2) := fun ρ μ R h => by
  obtain ⟨t, μ1, e1, h⟩ := okS_bnd h
  split at h
  · exact St.ifS (sc.at e1 (iteT (h1 ρ μ1 R h)))
  · exact St.ifS (sc.at e1 (iteF (h2 ρ μ1 R h)))
  · exact h.elim
def sSet (i : Nat) (f : Den) : DenS := fun ρ μ => bnd (f ρ μ) fun d μ1 => some (.nx (ρ.set i (some d)) μ1)
theorem S1.set (i : Nat) {x : Str} {pos' : Pos} (hN : X.N.Nodup) (hi : X.N[i]? = some x) (hx : Loc X.env.scope x) (hf : X.fn x = true ∨ X.env.scope.names.lookup x = some .local) (sa : SE X e f) (hs : swapsWith e (some (.Name x pos')) pos.line X.env = pure false := by rfl) :
    S1 X (.Assign [.Name x pos'] e pos) (sSet i f) := fun ρ μ R h => by
  obtain ⟨d, μ1, e1, h⟩ := okS_bnd h
  exact St.set i hN hi hx hf (sa.at e1 h) hs
def sAsg (g : DenG) (f : Den) : DenS := fun ρ μ => bnd (f ρ μ) fun d μ1 => bnd (g d ρ μ1) fun ρ2 μ2 => some (.nx ρ2 μ2)
theorem S1.asg {t : Expr} {g : DenG} (sa : SE X e f) (sg : SG X t g) (hs : swapsWithSole [t] e pos.line X.env = pure false := by rfl) (hw : swappedStores [t] e X.env = pure none := by rfl) (h1 : (assignEach [t] X.env).map (·.2) = [assign t X.env] := by rfl) : S1 X (.Assign [t] e pos) (sAsg g f) := fun ρ μ R h => by
  obtain ⟨d, μ1, e1, h⟩ := okS_bnd h
  obtain ⟨ρ2, μ2, e2, h⟩ := okS_bndG h
  exact St.asg (sa.at e1 (sg d ρ μ1 _ (by rw [e2]; exact h))) hs hw h1
def sPar2 (i j : Nat) (fs : DenA) : DenS := fun ρ μ => bnd (fs ρ μ) fun ds μ1 => match ds with
  | [d1, d2] => some (.nx ((ρ.set i (some d1)).set j (some d2)) μ1)
  | _ => none
theorem S1.par {e1 e2 : Expr} (i j : Nat) {x y : Str} {px py pt : Pos} {kt k2 pt2} (hc : X.calm = true) (hN : X.N.Nodup) (hi : X.N[i]? = some x) (hj : X.N[j]? = some y) (hij : i ≠ j) (hx : X.env.scope.names.lookup x = some .local) (hy : X.env.scope.names.lookup y = some .local)
    (ss : SAr X [e1, e2] fs) (hw : swappedStores [.Tuple [.Name x px, .Name y py] kt pt] (.Tuple [e1, e2] k2 pt2) X.env = pure (some [x, y]) := by rfl)
    (hs : swapsWithSole [.Tuple [.Name x px, .Name y py] kt pt] (.Tuple [e1, e2] k2 pt2) pos.line X.env = pure false := by rfl) :
    S1 X (.Assign [.Tuple [.Name x px, .Name y py] kt pt] (.Tuple [e1, e2] k2 pt2) pos) (sPar2 i j fs) := fun ρ μ R h => by
  obtain ⟨ds, μ1, e1, h⟩ := okS_bndA h
  split at h
  · exact St.par i j hc hN hi hj hij hx hy (ss.at e1 ⟨_, _, rfl, h⟩) hw hs
  · exact h.elim
def sPar3 (i j l : Nat) (fs : DenA) : DenS := fun ρ μ => bnd (fs ρ μ) fun ds μ1 => match ds with
  | [d1, d2, d3] => some (.nx (((ρ.set i (some d1)).set j (some d2)).set l (some d3)) μ1)
  | _ => none
theorem S1.par3 {e1 e2 e3 : Expr} (i j l : Nat) {x y z : Str} {px py pz pt : Pos} {kt k2 pt2} (hc : X.calm = true) (hN : X.N.Nodup) (hi : X.N[i]? = some x) (hj : X.N[j]? = some y) (hl : X.N[l]? = some z) (hij : i ≠ j) (hil : i ≠ l) (hjl : j ≠ l)
    (hx : X.env.scope.names.lookup x = some .local) (hy : X.env.scope.names.lookup y = some .local) (hz : X.env.scope.names.lookup z = some .local) (ss : SAr X [e1, e2, e3] fs)
    (hw : swappedStores [.Tuple [.Name x px, .Name y py, .Name z pz] kt pt] (.Tuple [e1, e2, e3] k2 pt2) X.env = pure (some [x, y, z]) := by rfl)
    (hs : swapsWithSole [.Tuple [.Name x px, .Name y py, .Name z pz] kt pt] (.Tuple [e1, e2, e3] k2 pt2) pos.line X.env = pure false := by rfl) :
    S1 X (.Assign [.Tuple [.Name x px, .Name y py, .Name z pz] kt pt] (.Tuple [e1, e2, e3] k2 pt2) pos) (sPar3 i j l fs) := fun ρ μ R h => by
  obtain ⟨ds, μ1, e1, h⟩ := okS_bndA h
  split at h
  · exact St.par3 i j l hc hN hi hj hl hij hil hjl hx hy hz (ss.at e1 ⟨_, _, _, rfl, h⟩) hw hs
  · exact h.elim
/-- y = [e for x in xs] -/
theorem S1.setLc {elt iter : Expr} {scope : Scope} {x y : Str} {px py spos : Pos} (i j : Nat) (hc : X.calm = true) (hN : X.N.Nodup) (hy : X.N[i]? = some y) (hyl : X.env.scope.names.lookup y = some .local)
    (hsw : swapsWith (.ListComp elt [⟨.Name x px, iter, [], 0⟩] scope pos) (some (.Name y py)) spos.line X.env = pure true) (hj : X.N[j]? = some x) (ok : BlkOk X.N X.env.scope scope [(x, j)])
    (hl : ∀ (s : Shared) (H : Hp) (C : Addr) (cl : List (Str × Addr)) (fp : List Addr), Loc (blkX X s H scope C cl fp).env.scope x ∧ ((blkX X s H scope C cl fp).fn x = true ∨ (blkX X s H scope C cl fp).env.scope.names.lookup x = some .local))
    (si : SI X (.Name x px) iter fi) (se : ∀ s H C cl fp, SE (blkX X s H scope C cl fp) elt f) (hs : ∀ x, foldedSetIterable iter X.env x = pure x := by intro _; rfl) :
    S1 X (.Assign [.Name y py] (.ListComp elt [⟨.Name x px, iter, [], 0⟩] scope pos) spos) (sSet i (dLc fi (bd1 j) dT f)) := fun ρ μ R h => by
  obtain ⟨d, μE, e0, h⟩ := okS_bnd h
  have k : okE (dLc fi (bd1 j) dT f ρ μ) (fun d μ1 => okS (some (.nx (ρ.set i (some d)) μ1)) R) := by rw [e0]; exact h
  obtain ⟨ds, μ1, e1, k⟩ := okE_bndA k
  obtain ⟨hz, k⟩ := okE_if k
  obtain ⟨aF, μF, e2, k⟩ := okE_bndA k
  refine PSw (ps_setLc (own := [(x, j)]) (g := gName j) hc hN hy hyl hsw pi_a ok (fun s H C cl fp => pg_name hN hj (hl s H C cl fp).1 (hl s H C cl fp).2) (fun s H C cl fp => pts_aB s H C cl fp) (fun s H C cl fp => pe_aB s H C cl fp) hs)
    fun D σ H ⟨α, E, q⟩ => lc_S0 (ρ := ρ) (μ := μ) (R := fun d μ1 => okE (Eg.cutd μ d μ1) fun d μ1 => okS (some (.nx (ρ.set i (some d)) μ1)) R) ?_ σ H _ ⟨α, E, fun v d α1 μ1 H1 r E1 X1 hv => ?_⟩
  · refine si ρ μ _ ?_
    rw [e1]
    refine ⟨by rw [sl_eq]; exact hz, fun j' acc μ' => lcLoop (bd1 j) dT f ρ μ1.length (ds.drop j') acc μ' = some (aF, μF), e2, ?_, ?_⟩
    · intro j' d acc μ2 hd hl2 hI s H C cl fp
      rw [drop_cons hd] at hI
      obtain ⟨ρ', t, μ3, b1, c1, hh⟩ := lc_turn hI
      cases b1
      cases c1
      rcases hh with ⟨_, y, μ5, μ4, he, h5, h4, hI'⟩ | ⟨z, _⟩
      · exact (se s H C cl fp).at he ⟨μ4, h5, h4, hI'⟩
      · cases z
    · intro acc μ2 hl2 hI
      rw [List.drop_length] at hI
      cases hI
      exact k
  · obtain ⟨α2, μ2, r2, l2, k2, hv2⟩ := cutd_ok r E.live E1.live X1 hv
    exact q.1 _ _ _ _ _ r2 ((E.ext k2 l2).set i hv2) k2
theorem S1.setLcIf {elt iter ce : Expr} {scope : Scope} {x y : Str} {px py spos : Pos} (i j : Nat) (hc : X.calm = true) (hN : X.N.Nodup) (hy : X.N[i]? = some y) (hyl : X.env.scope.names.lookup y = some .local)
    (hsw : swapsWith (.ListComp elt [⟨.Name x px, iter, [ce], 0⟩] scope pos) (some (.Name y py)) spos.line X.env = pure true) (hj : X.N[j]? = some x) (ok : BlkOk X.N X.env.scope scope [(x, j)])
    (hl : ∀ (s : Shared) (H : Hp) (C : Addr) (cl : List (Str × Addr)) (fp : List Addr), Loc (blkX X s H scope C cl fp).env.scope x ∧ ((blkX X s H scope C cl fp).fn x = true ∨ (blkX X s H scope C cl fp).env.scope.names.lookup x = some .local))
    (si : SI X (.Name x px) iter fi) (sc : ∀ s H C cl fp, ST (blkX X s H scope C cl fp) ce fc) (se : ∀ s H C cl fp, SE (blkX X s H scope C cl fp) elt f) (hs : ∀ x, foldedSetIterable iter X.env x = pure x := by intro _; rfl) :
    S1 X (.Assign [.Name y py] (.ListComp elt [⟨.Name x px, iter, [ce], 0⟩] scope pos) spos) (sSet i (dLc fi (bd1 j) fc f)) := fun ρ μ R h => by
  obtain ⟨d, μE, e0, h⟩ := okS_bnd h
  have k : okE (dLc fi (bd1 j) fc f ρ μ) (fun d μ1 => okS (some (.nx (ρ.set i (some d)) μ1)) R) := by rw [e0]; exact h
  obtain ⟨ds, μ1, e1, k⟩ := okE_bndA k
  obtain ⟨hz, k⟩ := okE_if k
  obtain ⟨aF, μF, e2, k⟩ := okE_bndA k
  refine PSw (ps_setLc (own := [(x, j)]) (g := gName j) hc hN hy hyl hsw pi_a ok (fun s H C cl fp => pg_name hN hj (hl s H C cl fp).1 (hl s H C cl fp).2) (fun s H C cl fp => pts_aB s H C cl fp) (fun s H C cl fp => pe_aB s H C cl fp) hs)
    fun D σ H ⟨α, E, q⟩ => lc_SI (ρ := ρ) (μ := μ) (R := fun d μ1 => okE (Eg.cutd μ d μ1) fun d μ1 => okS (some (.nx (ρ.set i (some d)) μ1)) R) ?_ σ H _ ⟨α, E, fun v d α1 μ1 H1 r E1 X1 hv => ?_⟩
  · refine si ρ μ _ ?_
    rw [e1]
    refine ⟨by rw [sl_eq]; exact hz, fun j' acc μ' => lcLoop (bd1 j) fc f ρ μ1.length (ds.drop j') acc μ' = some (aF, μF), e2, ?_, ?_⟩
    · intro j' d acc μ2 hd hl2 hI s H C cl fp
      rw [drop_cons hd] at hI
      obtain ⟨ρ', t, μ3, b1, c1, hh⟩ := lc_turn hI
      cases b1
      refine (sc s H C cl fp).at c1 ?_
      rcases hh with ⟨rfl, y, μ5, μ4, he, h5, h4, hI'⟩ | ⟨rfl, μ4, h3, h4, hI'⟩
      · exact iteT fun s H C cl fp => (se s H C cl fp).at he ⟨μ4, h5, h4, hI'⟩
      · exact iteF ⟨μ4, h3, h4, hI'⟩
    · intro acc μ2 hl2 hI
      rw [List.drop_length] at hI
      cases hI
      exact k
  · obtain ⟨α2, μ2, r2, l2, k2, hv2⟩ := cutd_ok r E.live E1.live X1 hv
    exact q.1 _ _ _ _ _ r2 ((E.ext k2 l2).set i hv2) k2
/-! ### loops -/
def forL (g : DenG) (body : DenS) : List DV → RO → List MO → Option Out
  | [], ρ, μ => some (.nx ρ μ)
  | d :: ds, ρ, μ => match g d ρ μ with
    | none => none
    | some (ρ1, μ1) => match body ρ1 μ1 with
      | some (.nx ρ2 μ2) => forL g body ds ρ2 μ2
      | some (.ct ρ2 μ2) => forL g body ds ρ2 μ2
      | some (.bk ρ2 μ2) => some (.nx ρ2 μ2)
      | some (.rt d μ2) => some (.rt d μ2)
      | none => none
def sFor (fi : DenA) (g : DenG) (body : DenS) : DenS := fun ρ μ => bnd (fi ρ μ) fun ds μ1 => forL g body ds ρ μ1
theorem S1.for_ {tg : Expr} {body : List Stmt} {g : DenG} {fb : DenS} (hp : PassesOwn (model X.prog X.w) X.A X.env X.xe) (hc : X.calm = true) (si : SI X tg e fi) (sg : SG X tg g) (sb : SS X body fb) (hs : ∀ x, foldedSetIterable e X.env x = pure x := by intro _; rfl) :
    S1 X (.For tg e body [] pos) (sFor fi g fb) := fun ρ μ R h => by
  obtain ⟨ds, μ1, e1, h⟩ := okS_bndA h
  refine St.for_ hp hc (si ρ μ _ ?_) hs
  rw [e1]
  refine ⟨fun i ρ' μ' => okS (forL g fb (ds.drop i) ρ' μ') R, h, ?_, ?_⟩
  · intro i d ρ' μ' hd hI
    rw [drop_cons hd] at hI
    unfold forL at hI
    cases hg : g d ρ' μ' with
    | none => rw [hg] at hI; exact hI.elim
    | some q =>
      obtain ⟨ρ1, μ1'⟩ := q
      rw [hg] at hI
      dsimp only at hI
      refine sg d ρ' μ' _ ?_
      rw [hg]
      refine sb ρ1 μ1' _ ?_
      cases hb : fb ρ1 μ1' with
      | none => rw [hb] at hI; exact hI.elim
      | some o =>
        rw [hb] at hI
        cases o with
        | nx ρ2 μ2 => exact hI
        | ct ρ2 μ2 => exact hI
        | bk ρ2 μ2 => exact hI
        | rt d μ2 => exact hI
  · intro ρ' μ' hI
    rw [List.drop_length] at hI
    exact hI
def whL (fc : Den) (body : DenS) : Nat → RO → List MO → Option Out
  | 0, _, _ => none
  | n + 1, ρ, μ => match fc ρ μ with
    | some (.bl true, μ1) => match body ρ μ1 with
      | some (.nx ρ2 μ2) => whL fc body n ρ2 μ2
      | some (.ct ρ2 μ2) => whL fc body n ρ2 μ2
      | some (.bk ρ2 μ2) => some (.nx ρ2 μ2)
      | some (.rt d μ2) => some (.rt d μ2)
      | none => none
    | some (.bl false, μ1) => some (.nx ρ μ1)
    | _ => none
theorem S1.while_ {body : List Stmt} {fb : DenS} (n : Nat) (hp : PassesOwn (model X.prog X.w) X.A X.env X.xe) (sc : ST X c fc) (sb : SS X body fb) : S1 X (.While c body [] pos) (whL fc fb n) := fun ρ μ R h => by
  refine St.while_ hp (fun n ρ' μ' => okS (whL fc fb n ρ' μ') R) ⟨n, h⟩ ?_
  intro n ρ' μ' hI
  cases n with
  | zero => exact hI.elim
  | succ n =>
    unfold whL at hI
    cases hc : fc ρ' μ' with
    | none => rw [hc] at hI; exact hI.elim
    | some q =>
      obtain ⟨t, μ1⟩ := q
      rw [hc] at hI
      cases t with
      | bl t =>
        refine sc.at hc ?_
        cases t with
        | true =>
          refine iteT (sb ρ' μ1 _ ?_)
          dsimp only at hI
          cases hb : fb ρ' μ1 with
          | none => rw [hb] at hI; exact hI.elim
          | some o =>
            rw [hb] at hI
            cases o with
            | nx ρ2 μ2 => exact ⟨n, Nat.lt_succ_self n, hI⟩
            | ct ρ2 μ2 => exact ⟨n, Nat.lt_succ_self n, hI⟩
            | bk ρ2 μ2 => exact hI
            | rt d μ2 => exact hI
        | false => exact iteF hI
      | _ => exact hI.elim
def sAug (o : Int → Int → Int) (i : Nat) (f : Den) : DenS := fun ρ μ => match ρ[i]? with
  | some (some (.int n)) => bnd (f ρ μ) fun d μ1 => match d with
    | .int j => some (.nx (ρ.set i (some (.int (o n j)))) μ1)
    | _ => none
  | _ => none
theorem S1.augAdd (i : Nat) {x : Str} {pos' : Pos} (hN : X.N.Nodup) (hi : X.N[i]? = some x) (hx : Loc X.env.scope x) (hf : X.fn x = true ∨ X.env.scope.names.lookup x = some .local) (sa : SE X e f) : S1 X (.AugAssign (.Name x pos') .Add e pos) (sAug (· + ·) i f) := fun ρ μ R h => by
  unfold sAug at h
  split at h
  · rename_i n hn
    obtain ⟨d, μ1, e1, h⟩ := okS_bnd h
    split at h
    · exact St.augAdd i n hN hi hx hn hf (sa.at e1 ⟨_, rfl, h⟩)
    · exact h.elim
  · exact h.elim
theorem S1.augSub (i : Nat) {x : Str} {pos' : Pos} (hN : X.N.Nodup) (hi : X.N[i]? = some x) (hx : Loc X.env.scope x) (hf : X.fn x = true ∨ X.env.scope.names.lookup x = some .local) (sa : SE X e f) : S1 X (.AugAssign (.Name x pos') .Sub e pos) (sAug (· - ·) i f) := fun ρ μ R h => by
  unfold sAug at h
  split at h
  · rename_i n hn
    obtain ⟨d, μ1, e1, h⟩ := okS_bnd h
    split at h
    · exact St.augSub i n hN hi hx hn hf (sa.at e1 ⟨_, rfl, h⟩)
    · exact h.elim
  · exact h.elim
end
/-! ### defs -/
noncomputable def mkFn (n : Nat) (N : List Str) (body : DenS) : FD := fun ds μ => if ds.length = n then match body (startD N ds) μ with
    | some (.rt d μ') => cutd μ d μ'
    | some (.nx _ μ') => cutd μ .non μ'
    | _ => none
  else none
section
variable {P : Program} {w : World} {K : PySem.W.Frag} {mg : Str → Option Value} {base : Heap}
theorem mkFn_fin {μ : List MO} {R : Cn} {o : Out} (h : okE (match some o with
    | some (.rt d μ') => cutd μ d μ'
    | some (.nx _ μ') => cutd μ .non μ'
    | _ => none) R) (clo : μ.all (MO.bel μ.length) = true) : fin μ.length R o := by
  have key : ∀ (d : DV) (μ' : List MO), okE (cutd μ d μ') R → R d μ' ∨ (DV.bel μ.length d = true ∧ (μ'.take μ.length).all (MO.bel μ.length) = true ∧ R d (μ'.take μ.length)) := by
    intro d μ' h
    unfold cutd at h
    split at h
    · rename_i c
      exact .inr ⟨c.1, c.2.clo clo, h⟩
    · exact .inl h
  cases o with
  | rt d μ' => exact key d μ' h
  | nx ρ μ' =>
    rcases key .non μ' h with h | ⟨_, h1, h2⟩
    · exact .inl h
    · exact .inr ⟨h1, h2⟩
  | bk _ _ => exact h.elim
  | ct _ _ => exact h.elim
/-- from a start that stands for something real -/
theorem Sts.clo {X : Cx} {ss : List Stmt} {ρ : RO} {μ : List MO} {R : Co} (h : μ.all (MO.bel μ.length) = true → Sts X ss ρ μ R) : Sts X ss ρ μ R := by
  by_cases c : μ.all (MO.bel μ.length) = true
  · exact h c
  · exact ⟨fun pins s σ H D I ⟨α, E, _⟩ => absurd E.live.clo c⟩
/-- THE RULE for a def -/
theorem Fn.den {x : Str} {params : Arguments} {body : List Stmt} {scope : Scope} {kws : List (Str × V)} {f : Addr} {fd : FuncData} {N ps : List Str} {k : Nat} {n : Nat} {g : DenS}
    (F : FunD K x x params body scope [] kws f fd) (S : FnScope N ps scope) (hm : mg x = some (.ref f)) (hn : ps.length = n)
    (hbd : ∀ (kV doc pm : Value) (an : Option Addr) (cdv ct : Value) (us : List Value), us.length = ps.length → bindArgs (PySem.W.fnOf x x params body scope .none kV doc pm an cdv ct) ⟨us, []⟩ = pure (ps.zip us))
    (hb : ∀ (cd : Value) (A : Around) (outer : List PySem.Env) (s : Shared) (H : Hp), (bx P w K mg base N x scope f cd A outer s H).A.guards = some [] → Room k (bx P w K mg base N x scope f cd A outer s H).A → (bx P w K mg base N x scope f cd A outer s H).N.Nodup →
      SS (bx P w K mg base N x scope f cd A outer s H) body g) : Fn P w K mg base x (k + 1) (CtrOf (mkFn n N g)) := by
  refine Fn.mk F S hm hbd ?_ ?_
  · intro ds μ R h
    obtain ⟨c, _⟩ := okE_if h
    rw [c, hn]
  · intro cd A outer s H hg hr hnd ds μ R h
    obtain ⟨_, h⟩ := okE_if h
    refine Sts.clo fun clo => ?_
    refine hb cd A outer s H hg hr hnd (startD N ds) μ _ ?_
    cases e : g (startD N ds) μ with
    | none => rw [e] at h; exact h.elim
    | some o =>
      rw [e] at h
      exact mkFn_fin h clo
theorem FnG.den {x : Str} {params : Arguments} {body : List Stmt} {scope : Scope} {kws : List (Str × V)} {f : Addr} {fd : FuncData} {N ps : List Str} {k : Nat} {n : Nat} {g : DenS}
    (F : FunD K x x params body scope [] kws f fd) (S : FnScope N ps scope) (hn : ps.length = n)
    (hb : ∀ (cd : Value) (A : Around) (outer : List PySem.Env) (s : Shared) (H : Hp), (bx P w K mg base N x scope f cd A outer s H).A.guards = some [] → Room k (bx P w K mg base N x scope f cd A outer s H).A → (bx P w K mg base N x scope f cd A outer s H).N.Nodup →
      SS (bx P w K mg base N x scope f cd A outer s H) body g) : FnG P w K mg base (k + 1) f fd ps (SpD K (CtrOf (mkFn n N g))) := by
  refine FnG.mk2 F S ?_ ?_
  · intro ds μ R h
    obtain ⟨c, _⟩ := okE_if h
    rw [c, hn]
  · intro cd A outer s H hg hr hnd ds μ R h
    obtain ⟨_, h⟩ := okE_if h
    refine Sts.clo fun clo => ?_
    refine hb cd A outer s H hg hr hnd (startD N ds) μ _ ?_
    cases e : g (startD N ds) μ with
    | none => rw [e] at h; exact h.elim
    | some o =>
      rw [e] at h
      exact mkFn_fin h clo
end
end Eg
namespace Eg
/-- how often a while may turn, how deep a def may call itself -/
def Wn : Nat := 1099511627776
def recN : Nat := 8
end Eg

namespace Eg
open PySem PySem.Spec PyProof.Rows L2
section
variable {X : Cx} {a b c e o : Expr} {es : List Expr} {fa fb fc f : Den} {fs fi : DenA} {pos p : Pos} {ρ : RO} {μ : List MO}
/-! ### x in xs -/
def oInN (neg : Bool) (x y : DV) (μ : List MO) : RE := match itemsD μ y with
  | some ds => match DV.flat x, flatL ds with
    | some u, some us => some (.bl (if neg then !inV u us else inV u us), μ)
    | _, _ => none
  | none => none
abbrev oIn := oInN false
abbrev oNin := oInN true
theorem sIn_of {neg : Bool} {x y : DV} {μ : List MO} {R : Cn} (h : okE (oInN neg x y μ) R) : sIn neg x y μ R := by
  unfold oInN at h
  split at h
  · rename_i ds e1
    split at h
    · rename_i u us e2 e3
      exact ⟨ds, u, us, e1, e2, e3, h⟩
    · exact h.elim
  · exact h.elim
theorem SE.inn (hu : X.A.units + 64 < cLine) (sa : SE X a fa) (sb : SE X b fb) (hm : behindInMarks .In b = false := by rfl) : SE X (.Compare a [.In] [b] pos) (dOp2 oIn fa fb) := SE.op2 sa sb fun x y μ2 R h => ⟨_, sIn_of h, fun ρ μ k => Ev.inL k hm⟩
theorem SE.nin (hu : X.A.units + 64 < cLine) (sa : SE X a fa) (sb : SE X b fb) (hm : behindInMarks .NotIn b = false := by rfl) : SE X (.Compare a [.NotIn] [b] pos) (dOp2 oNin fa fb) := SE.op2 sa sb fun x y μ2 R h => ⟨_, sIn_of h, fun ρ μ k => Ev.notInL k hm⟩
theorem ST.inn (hu : X.A.units + 64 < cLine) (sa : SE X a fa) (sb : SE X b fb) (hm : behindInMarks .In b = false := by rfl) : ST X (.Compare a [.In] [b] pos) (dOp2 oIn fa fb) := ST.op2 sa sb fun x y μ2 R h => ⟨_, sIn_of h, fun R' e ρ μ k => by subst e; exact EvT.inL k hm⟩
theorem ST.nin (hu : X.A.units + 64 < cLine) (sa : SE X a fa) (sb : SE X b fb) (hm : behindInMarks .NotIn b = false := by rfl) : ST X (.Compare a [.NotIn] [b] pos) (dOp2 oNin fa fb) := ST.op2 sa sb fun x y μ2 R h => ⟨_, sIn_of h, fun R' e ρ μ k => by subst e; exact EvT.notInL k hm⟩
/-! ### xs.append(e) -/
def dApp (fo fa : Den) : Den := fun ρ μ => bnd (fo ρ μ) fun o μ1 => match o with
  | .mu k => match μ1[k]? with
    | some (.lst _) => bnd (fa ρ μ1) fun d μ2 => match μ2[k]? with
      | some (.lst ys) => if ys.length < 16777216 then some (.non, μ2.set k (.lst (ys ++ [d]))) else none
      | _ => none
    | _ => none
  | _ => none
theorem SE.append {fo : Den} {apos cpos : Pos} (so : SE X o fo) (sa : SE X e fa)
    (hbase : attributeBase o "append" X.env (eval o X.env) = eval o X.env := by rfl)
    (hfew : ((backTo cpos (starEach [e] X.env)).all (fun x => !x.1) && (backToKw cpos (keywordEach [] X.env)).all (fun x => x.1.isSome)
      && decide ([e].length + ([] : List Keyword).length + (if ([] : List Keyword).isEmpty then 0 else 1) < 30)) = true := by rfl)
    (hline : (apos.endLine == cpos.line) = true := by rfl) (hs : starEach [e] X.env = (false, eval e X.env) :: starEach [] X.env := by rfl) :
    SE X (.Call (.Attribute o "append" apos) [e] [] cpos) (dApp fo fa) := fun ρ μ R k => by
  obtain ⟨d, μ1, e1, k⟩ := okE_bnd k
  cases d with
  | mu n =>
    dsimp only at k
    split at k
    · rename_i xs hx
      obtain ⟨d, μ2, e2, k⟩ := okE_bnd k
      split at k
      · rename_i ys hy
        obtain ⟨c, k⟩ := okE_if k
        exact Ev.append (so.at e1 ⟨n, xs, rfl, hx, EvA.cons (sa.at e2 (EvA.nil ⟨d, ys, rfl, hy, by rw [sl_eq]; exact c, k⟩)) hs⟩) hbase hfew hline hs
      · exact k.elim
    · exact k.elim
  | _ => exact k.elim
/-! ### enumerate(xs) -/
def iEnm (fs : DenA) : DenA := fun ρ μ => bnd (fs ρ μ) fun ds μ1 => match ds with
  | [.lst xs] => some (cntD 0 xs, μ1)
  | [.tup xs] => some (cntD 0 xs, μ1)
  | _ => none
end
end Eg

namespace Eg
open PySem PySem.Spec PyProof.Rows L2
/-! The functions by cases of truths, for reckoning. -/
section
variable {fa fb fc f : Den} {fs fi : DenA} {g g1 g2 : DenS} {ρ : RO} {μ : List MO}
def ifB {α : Type} (d : DV) (x y : Option α) : Option α := match d with
  | .bl true => x
  | .bl false => y
  | _ => none
@[simp] theorem ifB_bl {α : Type} (b : Bool) (x y : Option α) : ifB (.bl b) x y = if b = true then x else y := by cases b <;> rfl
@[simp] theorem bnd_ite {α β γ : Type} (c : Prop) [Decidable c] (a b : Option (α × β)) (k : α → β → Option γ) : bnd (if c then a else b) k = if c then bnd a k else bnd b k := by split <;> rfl
def isB {α : Type} (d : DV) (k : Bool → Option α) : Option α := match d with
  | .bl b => k b
  | _ => none
@[simp] theorem isB_bl {α : Type} (b : Bool) (k : Bool → Option α) : isB (.bl b) k = k b := rfl
def isI {α : Type} (d : DV) (k : Int → Option α) : Option α := match d with
  | .int b => k b
  | _ => none
@[simp] theorem isI_int {α : Type} (b : Int) (k : Int → Option α) : isI (.int b) k = k b := rfl
theorem eAnd : dAnd fa fb ρ μ = bnd (fa ρ μ) fun t μ1 => ifB t (fb ρ μ1) (some (.bl false, μ1)) := by
  rfl
theorem eOr : dOr fa fb ρ μ = bnd (fa ρ μ) fun t μ1 => ifB t (some (.bl true, μ1)) (fb ρ μ1) := by
  unfold dOr
  cases fa ρ μ with
  | none => rfl
  | some q =>
    obtain ⟨t, μ1⟩ := q
    cases t with
    | bl b => cases b <;> rfl
    | _ => rfl
theorem eNot : dNot fa ρ μ = bnd (fa ρ μ) fun t μ1 => isB t fun b => some (.bl (!b), μ1) := by
  rfl
theorem eNeg : dNeg fa ρ μ = bnd (fa ρ μ) fun t μ1 => isI t fun b => some (.int (-b), μ1) := by
  rfl
theorem eIf : dIf fc fa fb ρ μ = bnd (fc ρ μ) fun t μ1 => ifB t (fa ρ μ1) (fb ρ μ1) := by
  rfl
theorem esIf : sIf fc g1 g2 ρ μ = bnd (fc ρ μ) fun t μ1 => ifB t (g1 ρ μ1) (g2 ρ μ1) := by
  rfl
theorem eChain {o o' : DV → DV → List MO → RE} : dChain o o' fa fb fc ρ μ = bnd (fa ρ μ) fun x μ1 => bnd (fb ρ μ1) fun y μ2 => bnd (o x y μ2) fun t μ3 => ifB t (bnd (fc ρ μ3) fun z μ4 => o' y z μ4) (some (.bl false, μ3)) := by
  rfl
def sqO (o : Option Out) (k : DenS) : Option Out := match o with
  | some (.nx ρ1 μ1) => k ρ1 μ1
  | o => o
@[simp] theorem sqO_nx (ρ : RO) (μ : List MO) (k : DenS) : sqO (some (.nx ρ μ)) k = k ρ μ := rfl
@[simp] theorem sqO_rt (d : DV) (μ : List MO) (k : DenS) : sqO (some (.rt d μ)) k = some (.rt d μ) := rfl
@[simp] theorem sqO_bk (ρ : RO) (μ : List MO) (k : DenS) : sqO (some (.bk ρ μ)) k = some (.bk ρ μ) := rfl
@[simp] theorem sqO_ct (ρ : RO) (μ : List MO) (k : DenS) : sqO (some (.ct ρ μ)) k = some (.ct ρ μ) := rfl
@[simp] theorem sqO_no (k : DenS) : sqO none k = none := rfl
@[simp] theorem sqO_ite (c : Prop) [Decidable c] (a b : Option Out) (k : DenS) : sqO (if c then a else b) k = if c then sqO a k else sqO b k := by split <;> rfl
theorem esCons : sCons g1 g2 ρ μ = sqO (g1 ρ μ) g2 := by
  unfold sCons sqO
  cases g1 ρ μ with
  | none => rfl
  | some o => cases o <;> rfl
noncomputable def endO (μ : List MO) (o : Option Out) : RE := match o with
  | some (.rt d μ') => cutd μ d μ'
  | some (.nx _ μ') => cutd μ .non μ'
  | _ => none
@[simp] theorem endO_rt (μ : List MO) (d : DV) (μ' : List MO) : endO μ (some (.rt d μ')) = cutd μ d μ' := rfl
@[simp] theorem endO_nx (μ : List MO) (ρ' : RO) (μ' : List MO) : endO μ (some (.nx ρ' μ')) = cutd μ .non μ' := rfl
@[simp] theorem endO_no (μ : List MO) : endO μ none = none := rfl
@[simp] theorem endO_ite (μ : List MO) (c : Prop) [Decidable c] (a b : Option Out) : endO μ (if c then a else b) = if c then endO μ a else endO μ b := by split <;> rfl
theorem eFn {n : Nat} {N : List Str} {body : DenS} {ds : List DV} : mkFn n N body ds μ = if ds.length = n then endO μ (body (startD N ds) μ) else none := by
  rfl
@[simp] theorem cutd_same {d : DV} : cutd μ d (μ ++ []) = some (d, μ) := by simp
/-- what was made beside is forgotten -/
noncomputable def dCut (f : Den) : Den := fun ρ μ => bnd (f ρ μ) fun d μ1 => cutd μ d μ1
theorem SE.cut {X : Cx} {e : Expr} (s : SE X e f) : SE X e (dCut f) := fun ρ μ R k => by
  obtain ⟨d, μ1, e1, k⟩ := okE_bnd k
  exact Ev.cutd (s.at e1 k)
theorem cutd_len {μ μ' : List MO} {d : DV} (h : μ'.length = μ.length) : cutd μ d μ' = some (d, μ') := by
  unfold cutd
  rw [← h, List.take_length]
  split <;> rfl
@[simp] theorem cutd_set {μ : List MO} {k : Nat} {a b : MO} {d : DV} : cutd (μ.set k a) d (μ.set k b) = some (d, μ.set k b) := cutd_len (by simp)
@[simp] theorem cutd_set0 {μ : List MO} {k : Nat} {b : MO} {d : DV} : cutd μ d (μ.set k b) = some (d, μ.set k b) := cutd_len (by simp)
theorem cutd_cut {μ μ' : List MO} {d : DV} (h1 : DV.bel μ.length d = true) (h2 : μ'.take μ.length = μ) : cutd μ d μ' = some (d, μ) := by
  unfold cutd
  have kp : Kept μ μ' := fun j hj => .inl (by
    rw [← h2, List.getElem?_take, if_pos]
    have := congrArg List.length h2
    rw [List.length_take] at this
    omega)
  rw [if_pos ⟨h1, kp⟩, h2]
/-- an object was changed, and others were made beside -/
theorem cutd_beside {μ0 g : List MO} {k : Nat} {X Y : MO} {d : DV} (h1 : DV.bel μ0.length d = true) (h2 : MO.bel μ0.length X = true) : cutd (μ0.set k Y) d (μ0.set k X ++ g) = some (d, μ0.set k X) := by
  unfold cutd
  have e : (μ0.set k Y).length = (μ0.set k X).length := by simp
  have e0 : (μ0.set k Y).length = μ0.length := by simp
  rw [if_pos, e, List.take_left]
  refine ⟨by rw [e0]; exact h1, fun j hj => ?_⟩
  rw [e] at hj
  rw [List.getElem?_append_left hj]
  by_cases c : k = j
  · subst c
    rw [e0]
    exact .inr ⟨X, List.getElem?_set_self (by simpa using hj), h2⟩
  · exact .inl (by rw [List.getElem?_set_ne c, List.getElem?_set_ne c])
/-! ### numbers that are small enough -/
theorem log_lt {i : Int} {n : Nat} (h : -(2 ^ n) < i) (h' : i < 2 ^ n) : i.natAbs.log2 ≤ n := by
  have e : i.natAbs < 2 ^ n := by
    have : ((2 ^ n : Nat) : Int) = 2 ^ n := by simp
    omega
  by_cases z : i.natAbs = 0
  · rw [z]; simp
  · have := (Nat.log2_lt z).mpr e
    omega
theorem oMul_ok {i j : Int} (h1 : -1267650600228229401496703205376 < i) (h2 : i < 1267650600228229401496703205376) (h3 : -1267650600228229401496703205376 < j) (h4 : j < 1267650600228229401496703205376) : oMul (.int i) (.int j) μ = some (.int (i * j), μ) := by
  have a := log_lt (n := 100) (i := i) (by omega) (by omega)
  have b := log_lt (n := 100) (i := j) (by omega) (by omega)
  unfold oMul
  dsimp only
  rw [if_pos (by omega)]
theorem oMul_ok2 {i j : Int} (h1 : -(2 ^ 400) < i) (h2 : i < 2 ^ 400) (h3 : -(2 ^ 400) < j) (h4 : j < 2 ^ 400) : oMul (.int i) (.int j) μ = some (.int (i * j), μ) := by
  have a := log_lt h1 h2
  have b := log_lt h3 h4
  unfold oMul
  dsimp only
  rw [if_pos (by omega)]
theorem oDiv_ok {i j : Int} (h1 : 0 < j) (h2 : j < 1267650600228229401496703205376) : oDiv (.int i) (.int j) μ = some (.int (i / j), μ) := by
  have b := log_lt (n := 100) (i := j) (by omega) (by omega)
  unfold oDiv
  dsimp only
  rw [if_pos ⟨h1, by omega⟩]
theorem oMod_ok {i j : Int} (h1 : 0 < j) : oMod (.int i) (.int j) μ = some (.int (i % j), μ) := by
  unfold oMod
  dsimp only
  rw [if_pos (by omega), Int.fmod_eq_emod_of_nonneg _ (by omega)]
theorem oPow_ok {i j : Int} (h0 : 0 ≤ j) (h1 : j ≤ 1000000) (h2 : -18446744073709551616 < i) (h3 : i < 18446744073709551616) : oPow (.int i) (.int j) μ = some (.int (i ^ j.toNat), μ) := by
  unfold oPow
  dsimp only
  rw [if_pos ⟨h0, h1, by omega⟩]
@[simp] theorem oAdd_i (i j : Int) : oAdd (.int i) (.int j) μ = some (.int (i + j), μ) := rfl
@[simp] theorem oAdd_s (i j : Str) : oAdd (.str i) (.str j) μ = if i.length + j.length ≤ sizeLine then some (.str (i ++ j), μ) else none := rfl
@[simp] theorem oAdd_t (i j : List DV) : oAdd (.tup i) (.tup j) μ = if i.length + j.length ≤ sizeLine then some (.tup (i ++ j), μ) else none := rfl
@[simp] theorem oAdd_l (i j : List DV) : oAdd (.lst i) (.lst j) μ = if i.length + j.length ≤ sizeLine then some (.lst (i ++ j), μ) else none := rfl
theorem inV1 (x : V) : inV x [] = false := rfl
theorem inV2 (x y : V) (r : List V) : inV x (y :: r) = (eqV y x || inV x r) := rfl
end
end Eg

namespace Eg
open PySem PySem.Spec PyProof.Rows L2
section
variable {fa fb fc f : Den} {fs fi : DenA} {g : DenG} {body : DenS} {ρ : RO} {μ : List MO}
/-! loops, for reckoning -/
def lpO (o : Option Out) (k : DenS) : Option Out := match o with
  | some (.nx ρ2 μ2) => k ρ2 μ2
  | some (.ct ρ2 μ2) => k ρ2 μ2
  | some (.bk ρ2 μ2) => some (.nx ρ2 μ2)
  | some (.rt d μ2) => some (.rt d μ2)
  | none => none
@[simp] theorem lpO_nx (ρ : RO) (μ : List MO) (k : DenS) : lpO (some (.nx ρ μ)) k = k ρ μ := rfl
@[simp] theorem lpO_ct (ρ : RO) (μ : List MO) (k : DenS) : lpO (some (.ct ρ μ)) k = k ρ μ := rfl
@[simp] theorem lpO_bk (ρ : RO) (μ : List MO) (k : DenS) : lpO (some (.bk ρ μ)) k = some (.nx ρ μ) := rfl
@[simp] theorem lpO_rt (d : DV) (μ : List MO) (k : DenS) : lpO (some (.rt d μ)) k = some (.rt d μ) := rfl
@[simp] theorem lpO_no (k : DenS) : lpO none k = none := rfl
@[simp] theorem lpO_ite (c : Prop) [Decidable c] (a b : Option Out) (k : DenS) : lpO (if c then a else b) k = if c then lpO a k else lpO b k := by split <;> rfl
theorem forL_nil : forL g body [] ρ μ = some (.nx ρ μ) := rfl
theorem forL_cons (d : DV) (ds : List DV) : forL g body (d :: ds) ρ μ = bnd (g d ρ μ) fun ρ1 μ1 => lpO (body ρ1 μ1) (forL g body ds) := by
  conv => lhs; unfold forL
  cases g d ρ μ with
  | none => rfl
  | some q =>
    obtain ⟨ρ1, μ1⟩ := q
    simp only [bnd_some]
    unfold lpO
    rfl
theorem whL_succ (n : Nat) : whL fc body (n + 1) ρ μ = bnd (fc ρ μ) fun t μ1 => ifB t (lpO (body ρ μ1) (whL fc body n)) (some (.nx ρ μ1)) := by
  conv => lhs; unfold whL
  cases fc ρ μ with
  | none => rfl
  | some q =>
    obtain ⟨t, μ1⟩ := q
    cases t with
    | bl b =>
      cases b
      · rfl
      · show (match body ρ μ1 with
          | some (.nx ρ2 μ2) => whL fc body n ρ2 μ2
          | some (.ct ρ2 μ2) => whL fc body n ρ2 μ2
          | some (.bk ρ2 μ2) => some (.nx ρ2 μ2)
          | some (.rt d μ2) => some (.rt d μ2)
          | none => none) = lpO (body ρ μ1) (whL fc body n)
        unfold lpO
        rfl
    | _ => rfl
/-- a walk that only goes on: each turn keeps what holds -/
theorem forL_inv {P : Nat → RO → List MO → Prop} (ds : List DV) (h0 : P 0 ρ μ)
    (turn : ∀ i d ρ' μ', ds[i]? = some d → P i ρ' μ' → ∃ ρ1 μ1 ρ2 μ2, g d ρ' μ' = some (ρ1, μ1) ∧ body ρ1 μ1 = some (.nx ρ2 μ2) ∧ P (i + 1) ρ2 μ2) :
    ∃ ρ2 μ2, forL g body ds ρ μ = some (.nx ρ2 μ2) ∧ P ds.length ρ2 μ2 := by
  have key : ∀ (ds' : List DV) (i : Nat) (ρ' : RO) (μ' : List MO), ds.drop i = ds' → i ≤ ds.length → P i ρ' μ' → ∃ ρ2 μ2, forL g body ds' ρ' μ' = some (.nx ρ2 μ2) ∧ P ds.length ρ2 μ2 := by
    intro ds'
    induction ds' with
    | nil =>
      intro i ρ' μ' hd hi h
      have : ds.length ≤ i := List.drop_eq_nil_iff.mp hd
      have e : i = ds.length := by omega
      subst e
      exact ⟨ρ', μ', rfl, h⟩
    | cons d ds' ih =>
      intro i ρ' μ' hd hi h
      have hg : ds[i]? = some d := by
        have z := congrArg List.head? hd
        rw [List.head?_drop] at z
        simpa using z
      obtain ⟨ρ1, μ1, ρ2, μ2, e1, e2, h2⟩ := turn i d ρ' μ' hg h
      have hl : i < ds.length := (List.getElem?_eq_some_iff.mp hg).1
      have ht : ds.drop (i + 1) = ds' := by
        have z := congrArg List.tail hd
        rw [List.tail_drop] at z
        simpa using z
      obtain ⟨ρ3, μ3, e3, h3⟩ := ih (i + 1) ρ2 μ2 ht hl h2
      refine ⟨ρ3, μ3, ?_, h3⟩
      rw [forL_cons, e1, bnd_some, e2, lpO_nx, e3]
  exact key ds 0 ρ μ rfl (Nat.zero_le _) h0
end
end Eg
namespace Eg
theorem forL_at {g : DenG} {body : DenS} {ρ : RO} {μ : List MO} {ds : List DV} {o : Option Out} (hF : forL g body ds ρ μ = o) (P : Nat → RO → List MO → Prop) (h0 : P 0 ρ μ)
    (turn : ∀ i d ρ' μ', ds[i]? = some d → P i ρ' μ' → ∃ ρ1 μ1 ρ2 μ2, g d ρ' μ' = some (ρ1, μ1) ∧ body ρ1 μ1 = some (.nx ρ2 μ2) ∧ P (i + 1) ρ2 μ2) :
    ∃ ρ2 μ2, o = some (.nx ρ2 μ2) ∧ P ds.length ρ2 μ2 := by
  obtain ⟨ρ2, μ2, e, h⟩ := forL_inv (P := P) ds h0 turn
  exact ⟨ρ2, μ2, hF.symm.trans e, h⟩
end Eg
namespace Eg
@[simp] theorem cutd_mu {μ μ' : List MO} : cutd μ (.mu μ.length) μ' = some (.mu μ.length, μ') := by
  unfold cutd
  rw [if_neg]
  rintro ⟨h, _⟩
  simp [DV.bel] at h
end Eg

namespace Eg
open PySem PySem.Spec PyProof.Rows L2
/-! ### enumerate of a tuple -/
theorem meets_enumT (l : Addr) (items : Array Value) (n : Nat) (dct : Option Addr) (sl : Array (Option Value)) :
    Meets (Builtin.«enumerate.__new__» ⟨[.type "enumerate", .ref l], []⟩) (fun _ R s => s.heap.get? l = some { cls := .type "tuple", dict := dct, data := .seq items n, slots := sl } ∧
      R (.ok (.ret (.ref (s.heap.push { cls := .type "tuple_iterator", data := .fields #[.ref l, .int 0 0] }).objs.size)))
        { s with heap := (s.heap.push { cls := .type "tuple_iterator", data := .fields #[.ref l, .int 0 0] }).push { cls := .type "enumerate", data := .fields #[.none, .bool false, .ref s.heap.objs.size, rawInt 0, .none, .none] } }) :=
  .of_wp fun prog w A R s h => by
    obtain ⟨hp, g, d, tk, os⟩ := s; obtain ⟨hl, h⟩ := h
    have hsub := sub_enumerate
    have hL : Heap.IsTuple (Shared.heap ⟨hp, g, d, tk, os⟩) l items := ⟨_, hl, rfl, n, rfl⟩
    wp_walk using wpAny_loadPart' hl
    refine wpAny_stack_any fun st => wpAny_pure ?_
    split
    · rename_i c _ _ _ _ _
      cases (c == Value.type "enumerate")
      · wp_walk using wpAny_loadPart' hl, wpAny_pyIter_tuple hL
        exact ⟨_, rfl, h⟩
      · wp_walk using wpAny_loadPart' hl, wpAny_pyIter_tuple hL
        exact ⟨_, rfl, h⟩
    · wp_walk using wpAny_loadPart' hl, wpAny_pyIter_tuple hL
      exact ⟨_, rfl, h⟩
section
variable {prog : Program} {w : World} {A : Around} {E : Value → Shared → Prop} {s : Shared}
theorem call_enumT {l : Addr} {items : Array Value} {Q : Value → Shared → Prop} (hL : s.heap.IsTuple l items)
    (h : ∀ h', IsEnum h' (s.heap.objs.size + 1) s.heap.objs.size 0 .none → h'.IsTupleIter s.heap.objs.size l 0 → h'.objs.size = s.heap.objs.size + 2 →
      (∀ b o, s.heap.get? b = some o → h'.get? b = some o) → Q (.ref (s.heap.objs.size + 1)) { s with heap := h' }) :
    wpAny (model prog w) A (call (.type "enumerate") [.ref l]) Q E s := by
  obtain ⟨⟨c, dct, dt, sl⟩, hl, hc, n, hd⟩ := hL
  replace hc : c = .type "tuple" := hc
  replace hd : dt = .seq items n := hd
  subst hc hd
  refine callType_new F.called_enumerate (by decide) (F.typeCall_enumerate_1 _) (F.newCall_enumerate_1 _) (fun obj => F.args_object_init_2 obj _) F.entry_enumerate_new
    (meets_enumT l items n dct sl) ⟨hl, ?_⟩
  have hz : (s.heap.push { cls := .type "tuple_iterator", data := .fields #[.ref l, .int 0 0] }).objs.size = s.heap.objs.size + 1 := Heap.size_push ..
  show _ ∧ _
  rw [hz]
  have he : IsEnum ((s.heap.push { cls := .type "tuple_iterator", data := .fields #[.ref l, .int 0 0] }).push
      { cls := .type "enumerate", data := .fields #[.none, .bool false, .ref s.heap.objs.size, rawInt 0, .none, .none] }) (s.heap.objs.size + 1) s.heap.objs.size 0 .none := by
    have := Heap.get?_push_size (s.heap.push { cls := .type "tuple_iterator", data := .fields #[.ref l, .int 0 0] })
      (o := { cls := .type "enumerate", data := .fields #[.none, .bool false, .ref s.heap.objs.size, rawInt 0, .none, .none] }) rfl
    rw [hz] at this; exact this
  refine ⟨⟨_, he, rfl⟩, h _ he ⟨_, Heap.get?_push_of_some _ (Heap.get?_push_size _ rfl), rfl, rfl⟩ (by rw [Heap.size_push, hz]) fun b o x => Heap.get?_push_of_some _ (Heap.get?_push_of_some _ x)⟩
end
def ItnT (K : PySem.W.Frag) (a : Addr) : It where
  go := fun i H => ∃ (xs : List V) (x : V), SqT K H a xs ∧ xs[i]? = some x
  yld := fun i H v H' => ∃ (T : Addr) (x : V), v = .ref T ∧ H T = none ∧ H' = upd H T (.tup [.int (i : Int), x]) ∧ ∀ xs, SqT K H a xs → xs[i]? = some x
  stop := fun i H => ∃ xs : List V, SqT K H a xs ∧ xs.length = i
theorem turn_enumT {P : Program} {w : World} {K : PySem.W.Frag} {elts : List Expr} {kk : Nat} {tpos : Pos} (a e it : Addr) :
    Turn P w K (.Tuple elts kk tpos) (ItnT K a) [e, it] e fun i h => (∃ old, IsEnum h e it (i : Int) old) ∧ h.IsTupleIter it a i ∧ e ≠ it ∧ a ≠ it ∧ a ≠ e where
  mem := List.mem_cons_self
  obj := by
    rintro i h ⟨⟨old, he⟩, ⟨o, ho, hc, hd⟩, _⟩ b hb
    rcases List.mem_cons.mp hb with z | z
    · subst z
      exact ⟨_, he, fun v q => nomatch q⟩
    · obtain rfl := List.mem_singleton.mp z
      exact ⟨o, ho, fun v q => by rw [hd] at q; cases q⟩
  keep := by
    rintro i h h' ⟨⟨old, he⟩, hi, r⟩ kp
    exact ⟨⟨old, kp e List.mem_cons_self _ he⟩, hi.at fun o q => kp it (List.mem_cons_of_mem _ List.mem_cons_self) o q, r⟩
  item := by
    rintro X rfl rfl rfl hc i pins s σ H E I hf ⟨⟨old, he⟩, hit, n1, n2, n3⟩ ⟨xs, x, hq, hx⟩
    obtain ⟨its, rv, p, hz⟩ := I.tuple hq
    obtain ⟨u, hu, ru⟩ := rv.get hx
    have hlt : i < its.toArray.size := by
      rw [List.size_toArray]
      exact (List.getElem?_eq_some_iff.mp hu).1
    have le : e < s.heap.objs.size := Heap.lt_size he
    have li : it < s.heap.objs.size := by
      obtain ⟨_, q, _⟩ := hit
      exact Heap.lt_size q
    have hef : e ∉ [it, a] := by
      intro z
      rcases List.mem_cons.mp z with z | z
      · exact n1 z
      · exact n3 (List.mem_singleton.mp z).symm
    refine wpAny_pyNext_enum_itemC (Draws.tuple (A := X.A.in1) (I.ok.hd hc) it a n2 its.toArray) he ⟨hit, p⟩ hlt n1 hef ?_
    rintro x' h' tk hx' out ⟨hit', _⟩ hT hsz keep
    have ex : x' = u := by
      have z : its.toArray[i]? = some u := by
        rw [List.getElem?_toArray]
        exact hu
      have hx2 : its.toArray[i]? = some x' := hx'
      rw [hx2] at z
      exact Option.some.inj z
    subst ex
    refine ⟨_, rfl, wpAny_letOwnedTupleGo_enum (s := { s with heap := h', toks := tk + 1 }) out fun h2 he2 sb => ?_⟩
    have at2 : h2.get? s.heap.objs.size = some { cls := .type "tuple", data := .seq #[.int (i : Int) tk, x'] } := (sb.2 _ (Nat.ne_of_gt le)).trans hT
    have new : ObjOk X.prog X.w (upd H s.heap.objs.size (.tup [.int (i : Int), x])) h2 s.heap.objs.size (.tup [.int (i : Int), x]) :=
      ⟨by show 2 ≤ sizeLine; decide, [.int (i : Int) tk, x'], .cons ⟨_, rfl⟩ (.cons ru .nil), ⟨_, at2, rfl, _, rfl⟩⟩
    have I2 : L2.Inv X pins σ (upd H s.heap.objs.size (.tup [.int (i : Int), x])) { s with heap := h2, toks := tk + 1 } := by
      refine I.turnedNew (ch := [e, it]) (fun b ob hb q => ?_) hf (Nat.le_refl _) new
      have b1 : b ≠ e := fun z => hb (by rw [z]; exact List.mem_cons_self)
      have b2 : b ≠ it := fun z => hb (by rw [z]; exact List.mem_cons_of_mem _ List.mem_cons_self)
      exact (sb.2 b b1).trans (keep b ob b1 b2 q)
    have cnt : ((i + 1 : Nat) : Int) = (i : Int) + 1 := by omega
    refine ⟨.ref s.heap.objs.size, _, I2, rfl, ⟨_, x, rfl, I.hok.fresh (Nat.le_refl _), rfl, fun ys hy => ?_⟩, ⟨⟨x', ?_⟩, hit'.at fun o q => (sb.2 it (Ne.symm n1)).trans q, n1, n2, n3⟩, fun b hb => ?_⟩
    · rw [I.tuple_inj hy hq]
      exact hx
    · rw [cnt]
      exact he2
    · have lb : b < s.heap.objs.size := by
        rcases List.mem_cons.mp hb with z | z
        · rw [z]; exact le
        · rw [List.mem_singleton.mp z]; exact li
      rw [upd_ne (Nat.ne_of_lt lb)]
      exact (hf b hb).1
  done := by
    rintro X rfl rfl rfl hc i pins s σ H E I hf ⟨⟨old, he⟩, hit, n1, n2, n3⟩ ⟨xs, hq, hx⟩
    obtain ⟨its, rv, p, hz⟩ := I.tuple hq
    obtain ⟨f0, f1, f2, f3, f4, f5⟩ := hf it (List.mem_cons_of_mem _ List.mem_cons_self)
    have en : its.toArray.size = i := by
      rw [List.size_toArray, ← rv.length]
      exact hx
    exact wpAny_pyNext_enum_endD (Draws.tuple (A := X.A.in1) (I.ok.hd hc) it a n2 its.toArray) he (by rw [en]; exact ⟨hit, p⟩) fun h' eb => ⟨rfl, I.turned (t' := s.toks) (fun b o hb q => eb b o hb q) f0 f1 f3 f4 f5⟩
  self := by
    rintro A i s Q E ⟨⟨_, he⟩, _⟩ h
    exact wpAny_pyIter_enum he h
def iEnumT (K : PySem.W.Frag) (ta : TA) : TI := fun σ H R => ta σ H fun vs H1 => ∃ a xs, vs = [.ref a] ∧ SqT K H1 a xs ∧ R (ItnT K a) H1
section
variable {X : Cx} {e a b : Expr} {fs : DenA} {ρ : RO} {μ : List MO} {p p2 pos pos2 tpos : Pos} {elts : List Expr} {kk : Nat} {Ra : Ca} {fa fb : Den}
theorem pi_enumT {ta : TA} (hg : Gl X "enumerate") (hm : X.mg "enumerate" = none) (ha : PA X [e] ta) (hs : starEach [e] X.env = [(false, eval e X.env)] := by rfl) :
    PI X (.Tuple elts kk tpos) (.Call (.Name "enumerate" p) [e] [] pos) (iEnumT X.K ta) := by
  refine ⟨fun pins s σ H R I h => ?_⟩
  refine Call_ (ld_blt I hg hm boot_enumerate (PyProof.Rows.callWith_type1 (thn (ha.run pos pins s σ H _ I h) fun us s1 ⟨vs, H1, I1, r1, q1⟩ => ?_) hs rfl))
  obtain ⟨a, xs, ex, hq, q⟩ := q1
  subst ex
  cases r1 with
  | cons r rr =>
    cases rr
    cases r
    obtain ⟨its, rv, p', hz⟩ := I1.tuple hq
    refine call_enumT p' fun h' he hit hsz hk => wpAny_pyIter_enum he ?_
    have I2 : L2.Inv X pins σ H1 { s1 with heap := h' } := I1.kept (t' := s1.toks) hk
    have ha : a < s1.heap.objs.size := by
      obtain ⟨o, q, _⟩ := p'
      exact Heap.lt_size q
    refine ⟨s1.heap.objs.size + 1, [s1.heap.objs.size + 1, s1.heap.objs.size], _, _, H1, rfl, I2, turn_enumT a (s1.heap.objs.size + 1) s1.heap.objs.size, ⟨⟨.none, he⟩, hit, Nat.succ_ne_self _, Nat.ne_of_lt ha, Nat.ne_of_lt (Nat.lt_succ_of_lt ha)⟩, fun b hb => ?_, q⟩
    have e' : b = s1.heap.objs.size + 1 ∨ b = s1.heap.objs.size := by simpa using hb
    have hle : s1.heap.objs.size ≤ b := by
      rcases e' with z | z
      · rw [z]; exact Nat.le_add_right _ _
      · rw [z]; exact Nat.le_refl _
    exact I1.fpOk hle (I1.hok.fresh hle)
theorem EvI.enmT (hg : Gl X "enumerate") (hm : X.mg "enumerate" = none) (h : EvA X [e] ρ μ fun ds μ1 => ∃ xs, ds = [.tup xs] ∧ Ra (cntD 0 xs) μ1) (hs : starEach [e] X.env = [(false, eval e X.env)] := by rfl) :
    EvI X (.Tuple elts kk tpos) (.Call (.Name "enumerate" p) [e] [] pos) ρ μ Ra :=
  PIw (pi_enumT hg hm pa_a hs) fun σ H Q ⟨α, E, q⟩ => ⟨_, h, α, E, fun vs ds α1 μ1 H1 ⟨xs, e1, r⟩ E1 X1 hv => by
    subst e1
    obtain ⟨v, rfl, hv'⟩ := hasL1 hv
    obtain ⟨a, ws, rfl, s1, t1⟩ := sqT_of hv'
    refine ⟨a, ws, rfl, s1, q _ _ α1 μ1 H1 r E1 X1 fun α3 μ3 H3 kp l => ?_⟩
    obtain ⟨a', ws', ea, s3, t3⟩ := sqT_of (kp.has hv')
    cases ea
    refine ⟨fun i d hd => ?_, ⟨ws', s3, by rw [cntD_len, t3.length]⟩⟩
    obtain ⟨x, f1, rfl⟩ := cntD_at _ _ _ _ hd
    obtain ⟨y, g1, g2⟩ := t3.get f1
    refine ⟨⟨ws', y, s3, g1⟩, ?_⟩
    rintro z H' ⟨T, y2, rfl, nT, rfl, c1⟩
    have q1 := c1 ws' s3
    rw [g1] at q1
    cases q1
    obtain ⟨k2, l2⟩ := l.lay (o := .tup [.int (i : Int), y]) nT
    rw [show (0 : Int) + (i : Int) = (i : Int) by omega]
    exact ⟨k2, l2, .tup (.of upd_same) (.cons .int (.cons (k2.has g2) .nil))⟩⟩
theorem EvI.enmL (hg : Gl X "enumerate") (hm : X.mg "enumerate" = none) (h : EvA X [e] ρ μ fun ds μ1 => ∃ xs, ds = [.lst xs] ∧ Ra (cntD 0 xs) μ1) (hs : starEach [e] X.env = [(false, eval e X.env)] := by rfl) :
    EvI X (.Tuple elts kk tpos) (.Call (.Name "enumerate" p) [e] [] pos) ρ μ Ra :=
  PIw (pi_enum hg hm pa_a hs) fun σ H Q ⟨α, E, q⟩ => ⟨_, h, α, E, fun vs ds α1 μ1 H1 ⟨xs, e1, r⟩ E1 X1 hv => by
    subst e1
    obtain ⟨v, rfl, hv'⟩ := hasL1 hv
    obtain ⟨a, ws, rfl, s1, t1⟩ := sqL_of hv'
    refine ⟨a, ws, rfl, s1, q _ _ α1 μ1 H1 r E1 X1 fun α3 μ3 H3 kp l => ?_⟩
    obtain ⟨a', ws', ea, s3, t3⟩ := sqL_of (kp.has hv')
    cases ea
    refine ⟨fun i d hd => ?_, ⟨ws', s3, by rw [cntD_len, t3.length]; exact Nat.le_refl _⟩⟩
    obtain ⟨x, f1, rfl⟩ := cntD_at _ _ _ _ hd
    obtain ⟨y, g1, g2⟩ := t3.get f1
    refine ⟨⟨ws', y, s3, g1⟩, ?_⟩
    rintro z H' ⟨T, y2, rfl, nT, rfl, c1⟩
    have q1 := c1 ws' s3
    rw [g1] at q1
    cases q1
    obtain ⟨k2, l2⟩ := l.lay (o := .tup [.int (i : Nat), y]) nT
    rw [show (0 : Int) + (i : Int) = (i : Int) by omega]
    exact ⟨k2, l2, .tup (.of upd_same) (.cons .int (.cons (k2.has g2) .nil))⟩⟩
theorem SI.enm (hg : Gl X "enumerate") (hm : X.mg "enumerate" = none) (ss : SAr X [e] fs) (hs : starEach [e] X.env = [(false, eval e X.env)] := by rfl) : SI X (.Tuple elts kk tpos) (.Call (.Name "enumerate" p) [e] [] pos) (iEnm fs) := fun ρ μ R k => by
  obtain ⟨ds, μ1, e1, k⟩ := okA_bndA k
  split at k
  · exact EvI.enmL hg hm (ss.at e1 ⟨_, rfl, k⟩) hs
  · exact EvI.enmT hg hm (ss.at e1 ⟨_, rfl, k⟩) hs
  · exact k.elim
/-! ### list(range(..)), tuple(range(..)) -/
theorem rgV_has {w : Wd} (a b : Int) : HasL w (rgV a b) (rgD a (b - a).toNat) := by
  unfold rgV rgD
  generalize (List.range (b - a).toNat) = l
  induction l with
  | nil => exact .nil
  | cons i l ih => exact .cons .int ih
def dRgL (fa fb : Den) : Den := fun ρ μ => bnd (fa ρ μ) fun x μ1 => bnd (fb ρ μ1) fun y μ2 => match x, y with
  | .int i, .int j => if -4000000000000000000 ≤ i ∧ i < 4000000000000000000 ∧ -4000000000000000000 ≤ j ∧ j < 4000000000000000000 ∧ j - i ≤ 16777216 then some (.lst (rgD i (j - i).toNat), μ2) else none
  | _, _ => none
theorem SE.rgL (hc : X.calm = true) (hg : Gl X "list") (hm : X.mg "list" = none) (hg2 : Gl X "range") (hm2 : X.mg "range" = none) (sa : SE X a fa) (sb : SE X b fb)
    (na : starEach [a, b] X.env = (false, eval a X.env) :: starEach [b] X.env := by rfl) (nb : starEach [b] X.env = (false, eval b X.env) :: starEach [] X.env := by rfl) (hp : (backTo pos2 (starEach [b] X.env)).any (·.1) = false := by rfl)
    (nc : starEach [.Call (.Name "range" p2) [a, b] [] pos2] X.env = (false, eval (.Call (.Name "range" p2) [a, b] [] pos2) X.env) :: starEach [] X.env := by rfl) :
    SE X (.Call (.Name "list" p) [.Call (.Name "range" p2) [a, b] [] pos2] [] pos) (dRgL fa fb) := fun ρ μ R k => by
  obtain ⟨x, μ1, e1, k⟩ := okE_bnd k
  obtain ⟨y, μ2, e2, k⟩ := okE_bnd k
  cases x with
  | int i =>
   cases y with
   | int j =>
    obtain ⟨c, k⟩ := okE_if k
    refine PEw (pe_listRg hc hg hm (prg_2 hg2 hm2 pe_a pe_a na nb hp) nc) fun σ H Q ⟨α, E, q⟩ => ?_
    refine ⟨_, sa.at (R := fun d m => d = .int i ∧ m = μ1) e1 ⟨rfl, rfl⟩, α, E, ?_⟩
    rintro v d α1 μ1' H1 ⟨rfl, rfl⟩ E1 X1 hv
    cases hv
    refine ⟨_, sb.at (R := fun d m => d = .int j ∧ m = μ2) e2 ⟨rfl, rfl⟩, α1, E1, ?_⟩
    rintro v d α2 μ2' H2 ⟨rfl, rfl⟩ E2 X2 hv
    cases hv
    refine ⟨i, j, rfl, rfl, ⟨by omega, by omega, by omega, by omega, by omega⟩, fun q' nq => ?_⟩
    obtain ⟨k2, l2⟩ := E2.live.lay (o := .lst (rgV i j)) nq
    exact q _ _ α2 μ2' _ k (E2.ext k2 l2) (X1.trans (X2.trans k2)) (.lst (.inl ⟨E2.live.fresh nq, .inl upd_same⟩) (rgV_has i j))
   | _ => exact k.elim
  | _ => exact k.elim
/-! ### a list that was made to be changed is told to stay as it is -/
theorem Sts.frz {xs : List Stmt} {R : Co} (i k : Nat) {ds : List DV} (hi : ρ[i]? = some (some (.mu k))) (hk : μ[k]? = some (.lst ds)) (h : Sts X xs (ρ.set i (some (.lst ds))) (μ.set k .dead) R) : Sts X xs ρ μ R :=
  PSsw h fun D σ H ⟨α, E, q⟩ => by
    obtain ⟨v, e1, e2⟩ := E.at_ i _ hi
    cases e2 with
    | mu ha =>
      obtain ⟨kp, l, nl⟩ := E.live.freeze (k := k)
      obtain ⟨vs, h1, h2⟩ := E.live.ob k _ _ ha hk
      have E2 := (E.ext kp l).set i (.lst (.inl ⟨nl _ ha, .inl h1⟩) (kp.hasL h2))
      have es : ∀ u, σ[i]? = some (some u) → σ.set i (some u) = σ := fun u e1 => by
        obtain ⟨hl, he⟩ := List.getElem?_eq_some_iff.mp e1
        apply List.ext_getElem?
        intro j
        by_cases hj : j = i
        · subst hj
          rw [List.getElem?_set_self hl]
          exact e1.symm
        · rw [List.getElem?_set_ne (Ne.symm hj)]
      rw [es _ e1] at E2
      exact ⟨α, E2, fun ρ' σ' α' μ' H' r E' k' => q.1 ρ' σ' α' μ' H' r E' (kp.trans k'), fun v d α' μ' H' r l' k' => q.2.1 v d α' μ' H' r l' (kp.trans k'),
        fun ρ' σ' α' μ' H' r E' k' => q.2.2.1 ρ' σ' α' μ' H' r E' (kp.trans k'), fun ρ' σ' α' μ' H' r E' k' => q.2.2.2 ρ' σ' α' μ' H' r E' (kp.trans k')⟩
def sFrz (i : Nat) (g : DenS) : DenS := fun ρ μ => match ρ[i]? with
  | some (some (.mu k)) => match μ[k]? with
    | some (.lst ds) => g (ρ.set i (some (.lst ds))) (μ.set k .dead)
    | _ => none
  | some (some (.lst _)) => g ρ μ
  | _ => none
theorem SS.frz {ss : List Stmt} {g : DenS} (i : Nat) (h : SS X ss g) : SS X ss (sFrz i g) := fun ρ μ R k => by
  unfold sFrz at k
  split at k
  · rename_i n hn
    split at k
    · rename_i ds hd
      exact Sts.frz i n hn hd (h _ _ R k)
    · exact k.elim
  · exact h ρ μ R k
  · exact k.elim
end
end Eg

namespace Eg
open PySem PySem.Spec PyProof.Rows L2
section
variable {μ : List MO}
theorem xItems_t (ds : List DV) : itemsD μ (.tup ds) = some ds := rfl
theorem xItems_l (ds : List DV) : itemsD μ (.lst ds) = some ds := rfl
theorem xItems_m (k : Nat) : itemsD μ (.mu k) = match μ[k]? with | some (.lst ds) => some ds | _ => none := rfl
theorem xLen_t (ds : List DV) : lenD μ (.tup ds) = some ds.length := rfl
theorem xLen_l (ds : List DV) : lenD μ (.lst ds) = some ds.length := rfl
theorem xLen_m (k : Nat) : lenD μ (.mu k) = (itemsD μ (.mu k)).map List.length := rfl
theorem xLen_s (y : Str) : lenD μ (.str y) = if y.length ≤ sizeLine then some y.length else none := rfl
theorem xIx_t (ds : List DV) (i : Int) : oIx (.tup ds) (.int i) μ = (atI ds i).map fun d => (d, μ) := rfl
theorem xIx_l (ds : List DV) (i : Int) : oIx (.lst ds) (.int i) μ = (atI ds i).map fun d => (d, μ) := rfl
theorem xIx_m (k : Nat) (i : Int) : oIx (.mu k) (.int i) μ = match itemsD μ (.mu k) with | some ds => (atI ds i).map fun d => (d, μ) | none => none := rfl
theorem xIx_s (z : Str) (i : Int) : oIx (.str z) (.int i) μ = if z.length ≤ sizeLine then (atI z.cps.toList i).map fun c => (.str ⟨#[c]⟩, μ) else none := rfl
end
end Eg

namespace Eg
open PySem PySem.Spec PyProof.Rows L2
/-! ### list(range(..)) of any bounds -/
section
variable {pr : Program} {wo : World} {Ar : Around} {sh : Shared} {rg : Addr} {lo hi : Int} {t1 t2 t3 : Tok} {m : Nat}
/-- how a builtin's code may end, when it goes on as another code -/
def goesOn (pr : Program) (wo : World) (Ar : Around) (W : Result → Shared → Prop) (x : PySem.Fin) (y : Shared) : Prop :=
  match x with
  | .done z => W (.ok z) y
  | .again z => z.quiet = true ∧ codeAny (model pr wo) Ar z W y
/-- what the made list is -/
def madeL (lo : Int) (m : Nat) (sh : Shared) (T : Addr) (W : Heap → Nat → Prop) : Prop := ∀ (g : Heap) (tk : Nat) (got : Array Value) (cap : Nat), (∀ (x : Addr) o, x ≠ T → sh.heap.get? x = some o → g.get? x = some o) →
  g.get? T = some { cls := .type "list", dict := none, data := .seq got cap, slots := #[] } → ItemsOf (fun j v => ∃ t, v = .int (lo + j * 1) t) got m → W g tk
theorem ext_long {W : Result → Shared → Prop} (ho : Ar.handled = none) (hr : IsRange sh.heap rg lo hi 1 t1 t2 t3) (hb : Builtin.Range.small lo hi 1 = false) (hn : Builtin.Range.rangeSize lo hi 1 = m)
    (hm : m ≤ 2 ^ 24) (T : Addr) (out : Value) (cap0 : Nat) (hT : sh.heap.get? T = some { cls := .type "list", data := .seq #[] cap0 })
    (fine : madeL lo m sh T fun g tk => W (.ok (.ret out)) { sh with heap := g, toks := tk }) :
    wpAny (model pr wo) Ar.in1 (Builtin.List.listExtendWith (.ref T) (.ref rg) out) (goesOn pr wo Ar W) (fun e y => W (.error e) y) sh := by
  have nr : T ≠ rg := by
    rintro rfl
    rw [hr] at hT
    simp at hT
  have lt : T < sh.heap.objs.size := Heap.lt_size hT
  have ne : T ≠ sh.heap.objs.size := Nat.ne_of_lt lt
  have walk := (Walks.longrange (prog := pr) (w := wo) (A := Ar.in1) ho sh.heap.objs.size lo 1 m).toS
  have loop : ∀ (g : Heap) (cp tk : Nat), IsLongIter g sh.heap.objs.size (lo + ((0 : Nat) : Int) * 1) ((m : Int) - ((0 : Nat) : Int)) 1 →
      (∀ (x : Addr) o, x ≠ T → sh.heap.get? x = some o → g.get? x = some o) → g.get? T = some { cls := .type "list", data := .seq #[] cp } →
      codeAny (model pr wo) Ar (.builtin "list.extend.loop" ⟨[.ref T, .ref sh.heap.objs.size, out], []⟩) W { sh with heap := g, toks := tk } := by
    intro g cp tk it kp hg
    refine codeAny_extend_loopS walk (by rw [sizeLine_eq]; omega) T (fun q => ne (List.mem_singleton.mp q)) out m 0 _ #[] cp rfl (Nat.zero_le _) it hg (ItemsOf.nil _) ?_
    intro y got cp2 mv hy its
    rw [Moved.eq_with mv]
    refine fine y.heap y.toks got cp2 (fun x o hx e => ?_) hy its
    refine mv.heap x o (fun q => ?_) (kp x o hx e)
    rcases List.mem_cons.mp q with q | q
    · exact hx q
    · rw [List.mem_singleton.mp q] at e
      exact absurd (Heap.lt_size e) (Nat.lt_irrefl _)
  unfold Builtin.List.listExtendWith
  refine wpAny_bind (wpAny_typeOf (T := "range") ⟨_, hr, rfl⟩ ?_)
  have f1 : Builtin.List.listSameRef (.ref T) (.ref rg) = false := by
    unfold Builtin.List.listSameRef
    simp [nr]
  have f2 : (Value.type "range" == Value.type "list") = false := by
    decide
  have f3 : (Value.type "range" == Value.type "tuple") = false := by
    decide
  rw [f1, f2, f3]
  simp only [Bool.or_false, Bool.false_eq_true, if_false]
  refine wpAny_bind (wpAny_pyIter_longrange hr hb ?_)
  refine wpAny_bind (wpAny_holding ?_)
  refine wpAny_hint_range (n := m) (Heap.get?_push_of_some _ hr) hn hm ?_
  generalize hob : ({ cls := .type "longrange_iterator", data := .fields #[rawInt lo, rawInt (Builtin.Range.rangeSize lo hi 1), rawInt 1] } : Obj) = ob
  have it1 : IsLongIter (sh.heap.push ob) sh.heap.objs.size (lo + ((0 : Nat) : Int) * 1) ((m : Int) - ((0 : Nat) : Int)) 1 := by
    show (sh.heap.push ob).get? sh.heap.objs.size = _
    rw [Heap.get?_push_size _ (by rw [← hob]; rfl), ← hob, hn]
    simp
  have hT1 : (sh.heap.push ob).get? T = some { cls := .type "list", data := .seq #[] cap0 } := Heap.get?_push_of_some ob hT
  refine wpAny_ite_split (fun _ => ?_) fun _ => wpAny_pure ⟨plainId_quiet F.plain_extend_loop _, loop _ cap0 _ it1 (fun x o _ e => Heap.get?_push_of_some _ e) hT1⟩
  refine wpAny_bind (wpAny_rule ?_)
  refine wpAny_bind ?_
  show wpAny _ _ (updateSeq T (fun z => z.push .none) >>= fun _ => updateSeq T (fun z => z.pop)) _ _ _
  refine wpAny_bind (wpAny_updateSeq hT1 rfl ?_)
  have hT2 := Heap.get?_update_self (Obj.mapSeq fun z => z.push Value.none) hT1 rfl
  refine wpAny_updateSeq (hz := by seq_fits) hT2 rfl ?_
  have hT3 := Heap.get?_update_self (Obj.mapSeq fun z => z.pop) hT2 rfl
  refine wpAny_pure ⟨plainId_quiet F.plain_extend_loop _, loop _ _ _ ?_ (fun x o hx e => ?_) hT3⟩
  · show Heap.get? _ _ = _
    rw [Heap.get?_update_other _ _ ne, Heap.get?_update_other _ _ ne]
    exact it1
  · rw [Heap.get?_update_other _ _ (Ne.symm hx), Heap.get?_update_other _ _ (Ne.symm hx)]
    exact Heap.get?_push_of_some _ e
theorem init_long {W : Result → Shared → Prop} (ho : Ar.handled = none) (hr : IsRange sh.heap rg lo hi 1 t1 t2 t3) (hb : Builtin.Range.small lo hi 1 = false) (hn : Builtin.Range.rangeSize lo hi 1 = m)
    (hm : m ≤ 2 ^ 24) (T : Addr) (hT : sh.heap.get? T = some { cls := .type "list", data := .seq #[] })
    (fine : madeL lo m sh T fun g tk => W (.ok (.ret .none)) { sh with heap := g, toks := tk }) :
    wpAny (model pr wo) Ar.in1 (Builtin.«list.__init__» ⟨[.ref T, .ref rg], []⟩) (goesOn pr wo Ar W) (fun e y => W (.error e) y) sh := by
  have nr : T ≠ rg := by
    rintro rfl
    rw [hr] at hT
    simp at hT
  show wpAny _ _ (Builtin.List.listItems (.ref T) >>= fun z => Builtin.List.listUpdate (.ref T) (fun _ => #[]) >>= fun _ => letGo z.toList.reverse >>= fun _ => Builtin.List.listExtendWith (.ref T) (.ref rg) .none) _ _ sh
  refine wpAny_bind ?_
  unfold Builtin.List.listItems
  refine wpAny_bind (wpAny_seqItems hT rfl (wpAny_pure ?_))
  show wpAny _ _ (updateSeq T (fun _ => #[]) >>= fun _ => letGo (#[] : Array Value).toList.reverse >>= fun _ => Builtin.List.listExtendWith (.ref T) (.ref rg) .none) _ _ sh
  refine wpAny_bind (wpAny_updateSeq hT rfl ?_)
  have hT2 := Heap.get?_update_self (Obj.mapSeq fun _ => (#[] : Array Value)) hT rfl
  have same : ∀ (x : Addr) o, x ≠ T → sh.heap.get? x = some o → (sh.heap.update T (Obj.mapSeq fun _ => (#[] : Array Value))).get? x = some o := fun x o hx e => by
    rw [Heap.get?_update_other _ _ (Ne.symm hx)]
    exact e
  refine wpAny_bind (wpAny_letGo ?_)
  refine ext_long ho (same rg _ (Ne.symm nr) hr) hb hn hm T .none _ hT2 ?_
  intro g tk got cp kp hg its
  exact fine g tk got cp (fun x o hx e => kp x o hx (same x o hx e)) hg its
theorem call_list_long {Q E : Value → Shared → Prop} (ho : Ar.handled = none) (hr : IsRange sh.heap rg lo hi 1 t1 t2 t3) (hb : Builtin.Range.small lo hi 1 = false) (hn : Builtin.Range.rangeSize lo hi 1 = m)
    (hm : m ≤ 2 ^ 24)
    (fine : ∀ (g : Heap) (tk : Nat) (got : Array Value) (cap : Nat), (∀ x o, sh.heap.get? x = some o → g.get? x = some o) → g.get? sh.heap.objs.size = some { cls := .type "list", dict := none, data := .seq got cap, slots := #[] } →
      ItemsOf (fun j v => ∃ t, v = .int (lo + j * 1) t) got m → Q (.ref sh.heap.objs.size) { sh with heap := g, toks := tk }) :
    wpAny (model pr wo) Ar (call (.type "list") [.ref rg]) Q E sh := by
  refine callType_codes (Q₁ := fun ob y => ob = .ref sh.heap.objs.size ∧ y = { sh with heap := sh.heap.push { cls := .type "list", data := .seq #[] } }) F.called_list (F.typeCall_list_1 _) F.entry_list_init
    (code_list_new _ ⟨rfl, rfl⟩) ?_
  rintro ob y ⟨rfl, rfl⟩
  have hT : (sh.heap.push { cls := .type "list", data := .seq #[] }).get? sh.heap.objs.size = some { cls := .type "list", data := .seq #[] } := Heap.get?_push_size _ rfl
  refine ⟨⟨_, hT, rfl⟩, F.args_list_init_2 _ _, ?_⟩
  refine init_long (Ar := Ar.in1) (sh := { sh with heap := sh.heap.push { cls := .type "list", data := .seq #[] } }) ho (Heap.get?_push_of_some _ hr) hb hn hm _ hT ?_
  intro g tk got cp kp hg its
  exact ⟨rfl, fine g tk got cp (fun x o e => kp x o (Nat.ne_of_lt (Heap.lt_size e)) (Heap.get?_push_of_some _ e)) hg its⟩
end
section
variable {X : Cx} {e a b : Expr} {ρ : RO} {μ : List MO} {p p2 pos pos2 : Pos} {fa fb : Den} {te : L2.St → Hp → (Int → Int → Hp → Prop) → Prop}
def tLstRgA (te : L2.St → Hp → (Int → Int → Hp → Prop) → Prop) : TE := fun σ H Q => te σ H fun i j H1 => (j - i ≤ 16777216) ∧ ∀ q, H1 q = none → Q (.ref q) (upd H1 q (.lst (rgV i j)))
theorem pe_listRgA (hc : X.calm = true) (hg : Gl X "list") (hm : X.mg "list" = none) (he : PRg X e te) (na : starEach [e] X.env = (false, eval e X.env) :: starEach [] X.env := by rfl) :
    PE X (.Call (.Name "list" p) [e] [] pos) (tLstRgA te) := by
  refine ⟨fun pins s σ H Q I h => ?_⟩
  refine Call_ (ld_blt I hg hm boot_list (PyProof.Rows.callWith_type1 (args_cons (thn (he pins s σ H _ I h) fun x s1 q1 => args_nil ?_) na) na))
  obtain ⟨r, i, j, t, u, v, H1, rfl, hr, I1, ok, q⟩ := q1
  have fine : ∀ (g : Heap) (tk : Nat) (got : Array Value) (cap : Nat), (∀ x o, s1.heap.get? x = some o → g.get? x = some o) →
      g.get? s1.heap.objs.size = some { cls := .type "list", dict := none, data := .seq got cap, slots := #[] } → ItemsOf (fun j v => ∃ t, v = .int (i + j * 1) t) got (j - i).toNat →
      ∃ (v : V) (H' : Hp), L2.Inv X pins σ H' { s1 with heap := g, toks := tk } ∧ RelV v (.ref s1.heap.objs.size) ∧ Q v H' := fun g tk got cap kp hg its => by
    refine ⟨.ref s1.heap.objs.size, upd H1 s1.heap.objs.size (.lst (rgV i j)), I1.laid kp (Nat.le_refl _) (show ObjOk X.prog X.w _ _ _ (.lst (rgV i j)) from ⟨?_, got.toList, cap, vals_rg its, ?_⟩), rfl, q _ (I1.hok.fresh (Nat.le_refl _))⟩
    · rw [rgV_length, sizeLine_eq]
      omega
    · rw [Array.toArray_toList]
      exact hg
  cases hs : Builtin.Range.small i j 1
  · exact call_list_long (m := (j - i).toNat) (I1.ok.hd hc) hr hs (rangeSize_nat i j) (by omega) fine
  · exact call_list_range (n := (j - i).toNat) (I1.ok.hd hc) hr hs (rangeSize_nat i j) (by omega) fine
def dRgA (fa fb : Den) : Den := fun ρ μ => bnd (fa ρ μ) fun x μ1 => bnd (fb ρ μ1) fun y μ2 => match x, y with
  | .int i, .int j => if j - i ≤ 16777216 then some (.lst (rgD i (j - i).toNat), μ2) else none
  | _, _ => none
theorem SE.rgA (hc : X.calm = true) (hg : Gl X "list") (hm : X.mg "list" = none) (hg2 : Gl X "range") (hm2 : X.mg "range" = none) (sa : SE X a fa) (sb : SE X b fb)
    (na : starEach [a, b] X.env = (false, eval a X.env) :: starEach [b] X.env := by rfl) (nb : starEach [b] X.env = (false, eval b X.env) :: starEach [] X.env := by rfl) (hp : (backTo pos2 (starEach [b] X.env)).any (·.1) = false := by rfl)
    (nc : starEach [.Call (.Name "range" p2) [a, b] [] pos2] X.env = (false, eval (.Call (.Name "range" p2) [a, b] [] pos2) X.env) :: starEach [] X.env := by rfl) :
    SE X (.Call (.Name "list" p) [.Call (.Name "range" p2) [a, b] [] pos2] [] pos) (dRgA fa fb) := fun ρ μ R k => by
  obtain ⟨x, μ1, e1, k⟩ := okE_bnd k
  obtain ⟨y, μ2, e2, k⟩ := okE_bnd k
  cases x with
  | int i =>
   cases y with
   | int j =>
    obtain ⟨c, k⟩ := okE_if k
    refine PEw (pe_listRgA hc hg hm (prg_2 hg2 hm2 pe_a pe_a na nb hp) nc) fun σ H Q ⟨α, E, q⟩ => ?_
    refine ⟨_, sa.at (R := fun d m => d = .int i ∧ m = μ1) e1 ⟨rfl, rfl⟩, α, E, ?_⟩
    rintro v d α1 μ1' H1 ⟨rfl, rfl⟩ E1 X1 hv
    cases hv
    refine ⟨_, sb.at (R := fun d m => d = .int j ∧ m = μ2) e2 ⟨rfl, rfl⟩, α1, E1, ?_⟩
    rintro v d α2 μ2' H2 ⟨rfl, rfl⟩ E2 X2 hv
    cases hv
    refine ⟨i, j, rfl, rfl, c, fun q' nq => ?_⟩
    obtain ⟨k2, l2⟩ := E2.live.lay (o := .lst (rgV i j)) nq
    exact q _ _ α2 μ2' _ k (E2.ext k2 l2) (X1.trans (X2.trans k2)) (.lst (.inl ⟨E2.live.fresh nq, .inl upd_same⟩) (rgV_has i j))
   | _ => exact k.elim
  | _ => exact k.elim
theorem dRgA_def (fa fb : Den) (ρ : RO) (μ : List MO) : dRgA fa fb ρ μ = bnd (fa ρ μ) fun x μ1 => bnd (fb ρ μ1) fun y μ2 => match x, y with
  | .int i, .int j => if j - i ≤ 16777216 then some (.lst (rgD i (j - i).toNat), μ2) else none
  | _, _ => none := rfl
end
end Eg

namespace Eg
open PySem PySem.Spec PyProof.Rows L2
/-! ### walking range(a, b) of any bounds -/
theorem turn_long {Pr : Program} {wo : World} {K : PySem.W.Frag} {tgt : Expr} (itr : Addr) (lo : Int) (m : Nat) :
    Turn Pr wo K tgt (Itr lo m) [itr] itr (fun j g => IsLongIter g itr (lo + (j : Nat) * 1) ((m : Int) - (j : Nat)) 1) where
  mem := List.mem_cons_self
  obj := by
    rintro j g st b hb
    obtain rfl := List.mem_singleton.mp hb
    exact ⟨_, st, fun v q => nomatch q⟩
  keep := fun j g g' st kp => kp itr List.mem_cons_self _ st
  item := by
    rintro X rfl rfl rfl hc j pins sh σ H E I hf st hg
    obtain ⟨a0, a1, a2, a3, a4, a5⟩ := hf itr List.mem_cons_self
    refine (Walks.longrange (prog := X.prog) (w := X.w) (A := X.A) (I.ok.hd hc) itr lo 1 m).item j sh _ _ hg st ?_
    rintro v g tk ⟨t, rfl⟩ st' kp
    have I2 : L2.Inv X pins σ H { sh with heap := g, toks := tk } := I.turned (fun b o hb e => kp b o (by simpa using hb) e) a0 a1 a3 a4 a5
    refine ⟨_, rfl, go_of (s := { sh with heap := g, toks := tk }) (n := "longrange_iterator") st' rfl rfl (by decide) ?_⟩
    refine ⟨.int (lo + j), H, I2, ⟨t, ?_⟩, ⟨rfl, rfl⟩, st', fun b hb => (hf b hb).1⟩
    rw [Int.mul_one]
  done := by
    rintro X rfl rfl rfl hc j pins sh σ H E I hf st hg
    obtain ⟨a0, a1, a2, a3, a4, a5⟩ := hf itr List.mem_cons_self
    have hg' : m ≤ j := hg
    refine wpAny_pyNext_long_end (I.ok.hd hc) st (by omega) fun g eb => ?_
    exact ⟨rfl, I.turned (t' := sh.toks) (fun b o hb e => eb b o hb e) a0 a1 a3 a4 a5⟩
  self := fun _ _ _ _ _ st h => wpAny_pyIter_longiter st h
def iRngA (ta : TA) : TI := fun σ H R => ta σ H fun vs H1 => ∃ i j, vs = [.int i, .int j] ∧ R (Itr i (j - i).toNat) H1
section
variable {X : Cx} {e a b : Expr} {fs : DenA} {ρ : RO} {μ : List MO} {p p2 pos pos2 tpos : Pos} {Ra : Ca} {fa fb : Den}
theorem range_itA {tg : Expr} {pins : List (Addr × Obj)} {σ : L2.St} {H : Hp} {sh : Shared} {R : It → Hp → Prop} {E : Value → Shared → Prop} {lo hi : Int} {t1 t2 t3 : Tok} {tk : Nat} (I : L2.Inv X pins σ H sh) (q : R (Itr lo (hi - lo).toNat) H) :
    wpAny (model X.prog X.w) X.A (pyIter (.ref sh.heap.objs.size)) (PIE X pins σ tg R) E { sh with heap := sh.heap.push { cls := .type "range", data := .fields #[.int lo t1, .int hi t2, .int 1 t3] }, toks := tk } := by
  generalize hg : sh.heap.push { cls := .type "range", data := .fields #[.int lo t1, .int hi t2, .int 1 t3] } = g
  have ir : IsRange g sh.heap.objs.size lo hi 1 t1 t2 t3 := by
    rw [← hg]
    exact IsRange.new ..
  have I1 : L2.Inv X pins σ H { sh with heap := g, toks := tk } := I.kept fun b o e => by
    rw [← hg]
    exact Heap.get?_push_of_some _ e
  have sz : (((hi - lo).toNat : Nat) : Int) - ((0 : Nat) : Int) = Builtin.Range.rangeSize lo hi 1 := by
    rw [rangeSize_one]
    split <;> omega
  have z1 : lo + ((0 : Nat) : Int) * 1 = lo := by omega
  have fp : ∀ b ∈ [g.objs.size], FpOk X pins H b := fun b hb => by
    rw [List.mem_singleton.mp hb]
    exact I1.fpOk (Nat.le_refl _) (I1.hok.fresh (Nat.le_refl _))
  cases hsm : Builtin.Range.small lo hi 1 with
  | true =>
    refine wpAny_pyIter_range ir hsm ⟨g.objs.size, [g.objs.size], _, _, H, rfl, I1.kept (t' := tk) fun b o e => Heap.get?_push_of_some _ e, turn_range _ lo (hi - lo).toNat, ?_, fp, q⟩
    show IsRangeIter _ _ (lo + ((0 : Nat) : Int) * 1) _ 1
    rw [z1, sz]
    exact Heap.get?_push_size _ rfl
  | false =>
    refine wpAny_pyIter_longrange ir hsm ⟨g.objs.size, [g.objs.size], _, _, H, rfl, I1.kept (t' := tk) fun b o e => Heap.get?_push_of_some _ e, turn_long _ lo (hi - lo).toNat, ?_, fp, q⟩
    show IsLongIter _ _ (lo + ((0 : Nat) : Int) * 1) _ 1
    rw [z1, sz]
    exact Heap.get?_push_size _ rfl
theorem pi_range2A {tg : Expr} {ta : TA} (hg : Gl X "range") (hm : X.mg "range" = none) (ha : PA X [a, b] ta) (hs : starEach [a, b] X.env = [(false, eval a X.env), (false, eval b X.env)] := by rfl) (hs2 : starEach [b] X.env = [(false, eval b X.env)] := by rfl) :
    PI X tg (.Call (.Name "range" p) [a, b] [] pos) (iRngA ta) := by
  refine ⟨fun pins s σ H R I h => ?_⟩
  refine Call_ (ld_blt I hg hm boot_range (PyProof.Rows.callWith_type1 (thn (ha.run pos pins s σ H _ I h) fun us s1 q1 => ?_) (by rw [hs, hs2]) (by rw [hs2]; rfl)))
  obtain ⟨vs, H1, I1, r1, i, j, rfl, q⟩ := q1
  cases r1 with
  | cons r rr =>
    cases rr with
    | cons r' rr =>
      cases rr
      obtain ⟨t, rfl⟩ := r
      obtain ⟨t', rfl⟩ := r'
      exact call_range_2 (range_itA I1 q)
def iRangeA (fs : DenA) : DenA := fun ρ μ => bnd (fs ρ μ) fun ds μ1 => match ds with
  | [.int i, .int j] => some (rgD i (j - i).toNat, μ1)
  | _ => none
theorem SI.rangeA {tg : Expr} (hg : Gl X "range") (hm : X.mg "range" = none) (ss : SAr X [a, b] fs) (hs : starEach [a, b] X.env = [(false, eval a X.env), (false, eval b X.env)] := by rfl) (hs2 : starEach [b] X.env = [(false, eval b X.env)] := by rfl) : SI X tg (.Call (.Name "range" p) [a, b] [] pos) (iRangeA fs) := fun ρ μ R k => by
  obtain ⟨ds, μ1, e1, k⟩ := okA_bndA k
  split at k
  · rename_i i j
    refine PIw (pi_range2A hg hm pa_a hs hs2) fun σ H Q ⟨α, E, q⟩ => ⟨_, ss.at (R := fun ds m => ds = [.int i, .int j] ∧ m = μ1) e1 ⟨rfl, rfl⟩, α, E, ?_⟩
    rintro vs ds α1 μ1' H1 ⟨rfl, rfl⟩ E1 X1 hv
    obtain ⟨v, u, rfl, hw, hu⟩ := hasL2 hv
    cases hw
    cases hu
    exact ⟨i, j, rfl, q _ _ α1 μ1' H1 k E1 X1 (itr_ok i (j - i).toNat)⟩
  · exact k.elim
/-! ### a list that may change and another one: a new one that may change -/
def oAddM : DV → DV → List MO → RE
  | .mu k, .lst ys, μ => match μ[k]? with
    | some (.lst xs) => if xs.length + ys.length ≤ sizeLine then some (.mu μ.length, μ ++ [.lst (xs ++ ys)]) else none
    | _ => none
  | _, _, _ => none
def sCatMM : S2 := fun x y μ R => ∃ k xs ys, x = .mu k ∧ μ[k]? = some (.lst xs) ∧ y = .lst ys ∧ xs.length + ys.length ≤ sizeLine ∧ R (.mu μ.length) (μ ++ [.lst (xs ++ ys)])
theorem rCatMM_S : R2S X (rCatL X.K) sCatMM := fun α μ H σ ρ x y da db R Q E hx hy h q => by
  obtain ⟨k, xs, ys, rfl, hk, rfl, c, r⟩ := h
  obtain ⟨b, us, rfl, s2, t2⟩ := sqL_of hy
  cases hx with
  | mu ha =>
    obtain ⟨vs, h1, t1⟩ := E.live.ob k _ _ ha hk
    refine ⟨_, b, vs, us, rfl, rfl, .inl (.inl h1), s2, by rw [t1.length, t2.length]; exact c, fun p np => ?_⟩
    obtain ⟨kp, l, e⟩ := E.live.layM (o := .lst (vs ++ us)) (m := .lst (xs ++ ys)) np (fun _ k => ⟨vs ++ us, upd_same, k.hasL (HasL.app t1 t2)⟩)
    exact q _ _ _ _ _ r (E.ext kp l) kp (.mu e)
theorem SE.addM (sa : SE X a fa) (sb : SE X b fb) : SE X (.BinOp a .Add b pos) (dOp2 oAddM fa fb) := SE.op2 sa sb fun x y μ2 R h => by
  unfold oAddM at h
  split at h
  · split at h
    · rename_i hk
      obtain ⟨c, h⟩ := okE_if h
      exact ⟨sCatMM, ⟨_, _, _, rfl, hk, rfl, c, h⟩, fun ρ μ k => Ev.op op_catL rCatMM_S k⟩
    · exact h.elim
  · exact h.elim
end
end Eg

namespace Eg
open PySem PySem.Spec PyProof.Rows L2
/-! ### gcd of two to four numbers -/
def gcdL (ns : List Int) : Nat := ns.foldl (fun g x => g.gcd x.natAbs) 0
theorem args_gcd3 (a b c : Value) : argsOk "math.gcd" ⟨[a, b, c], []⟩ := by unfold argsOk; kernel_rfl
theorem args_gcd4 (a b c d : Value) : argsOk "math.gcd" ⟨[a, b, c, d], []⟩ := by unfold argsOk; kernel_rfl
theorem run_gcd2 (a b : Int) (t u : Tok) : Gives (Builtin.«math.gcd» ⟨[.int a t, .int b u], []⟩) (.int ((gcdL [a, b] : Nat) : Int)) :=
  .of_wp fun M A E s Q h => by
    obtain ⟨hp, g, d, tk, os⟩ := s
    wp_walk
    exact ⟨_, rfl, h⟩
theorem run_gcd3 (a b c : Int) (t u v : Tok) : Gives (Builtin.«math.gcd» ⟨[.int a t, .int b u, .int c v], []⟩) (.int ((gcdL [a, b, c] : Nat) : Int)) :=
  .of_wp fun M A E s Q h => by
    obtain ⟨hp, g, d, tk, os⟩ := s
    wp_walk
    exact ⟨_, rfl, h⟩
theorem run_gcd4 (a b c e : Int) (t u v x : Tok) : Gives (Builtin.«math.gcd» ⟨[.int a t, .int b u, .int c v, .int e x], []⟩) (.int ((gcdL [a, b, c, e] : Nat) : Int)) :=
  .of_wp fun M A E s Q h => by
    obtain ⟨hp, g, d, tk, os⟩ := s
    wp_walk
    exact ⟨_, rfl, h⟩
def rGcdN : List V → Hp → VK → Prop := fun vs H Q => ∃ ns : List Int, vs = ns.map V.int ∧ (2 ≤ ns.length ∧ ns.length ≤ 4) ∧ Q (.int ((gcdL ns : Nat) : Int)) H
section
variable {X : Cx} {a : Expr} {es : List Expr} {fs : DenA} {ρ : RO} {μ : List MO} {p pos : Pos}
theorem cr_gcdN : CallR X (.builtin "math.gcd") rGcdN := by
  intro pins s σ H vs us Q I r h
  obtain ⟨ns, rfl, ⟨l1, l2⟩, q⟩ := h
  match ns, l1, l2, r with
  | [a, b], _, _, .cons r1 (.cons r2 .nil) =>
    obtain ⟨t1, rfl⟩ := r1
    obtain ⟨t2, rfl⟩ := r2
    exact call_function_meets PySem.W.MGF.kind_gcd PySem.W.MGF.plain_gcd PySem.W.MGF.entry_gcd (PySem.W.MGF.args_gcd _ _) (run_gcd2 a b t1 t2).meets ⟨.int _, H, I.tok _, ⟨_, rfl⟩, q⟩
  | [a, b, c], _, _, .cons r1 (.cons r2 (.cons r3 .nil)) =>
    obtain ⟨t1, rfl⟩ := r1
    obtain ⟨t2, rfl⟩ := r2
    obtain ⟨t3, rfl⟩ := r3
    exact call_function_meets PySem.W.MGF.kind_gcd PySem.W.MGF.plain_gcd PySem.W.MGF.entry_gcd (args_gcd3 _ _ _) (run_gcd3 a b c t1 t2 t3).meets ⟨.int _, H, I.tok _, ⟨_, rfl⟩, q⟩
  | [a, b, c, e], _, _, .cons r1 (.cons r2 (.cons r3 (.cons r4 .nil))) =>
    obtain ⟨t1, rfl⟩ := r1
    obtain ⟨t2, rfl⟩ := r2
    obtain ⟨t3, rfl⟩ := r3
    obtain ⟨t4, rfl⟩ := r4
    exact call_function_meets PySem.W.MGF.kind_gcd PySem.W.MGF.plain_gcd PySem.W.MGF.entry_gcd (args_gcd4 _ _ _ _) (run_gcd4 a b c e t1 t2 t3 t4).meets ⟨.int _, H, I.tok _, ⟨_, rfl⟩, q⟩
theorem hasL_ints {w : Wd} : ∀ {vs : List V} {ns : List Int}, HasL w vs (ns.map DV.int) → vs = ns.map V.int
  | _, [], h => by cases h; rfl
  | _, n :: ns, h => by
    cases h with
    | cons h1 h2 =>
      cases h1
      rw [hasL_ints h2]
      rfl
def oGcd : List DV → List MO → RE := fun ds μ => match intsD ds with
  | some ns => if 2 ≤ ns.length ∧ ns.length ≤ 4 then some (.int ((gcdL ns : Nat) : Int), μ) else none
  | none => none
theorem SE.gcd {x : Str} (hg : Gl X x) (hm : X.mg x = some (.builtin "math.gcd")) (ss : SAr X (a :: es) fs) (hdb : (x == ("__debug__" : Str)) = false := by decide)
    (he : starEach (a :: es) X.env = (false, eval a X.env) :: starEach es X.env := by rfl) (hpl : (backTo pos (starEach es X.env)).any (·.1) = false := by rfl) :
    SE X (.Call (.Name x p) (a :: es) [] pos) (dBlt oGcd fs) := fun ρ μ R k => by
  obtain ⟨ds, μ1, e1, k⟩ := okE_bndA k
  unfold oGcd at k
  split at k
  · rename_i ns hn
    obtain ⟨c, k⟩ := okE_if k
    have hd := intsD_eq hn
    refine PEw (pe_callBfun cr_gcdN hg hm pa_a hdb he hpl) fun σ H Q ⟨α, E, q⟩ => ⟨_, ss.at (R := fun ds' m => ds' = ds ∧ m = μ1) e1 ⟨rfl, rfl⟩, α, E, ?_⟩
    rintro vs ds' α1 μ1' H1 ⟨rfl, rfl⟩ E1 X1 hv
    subst hd
    exact ⟨ns, hasL_ints hv, c, q _ _ α1 μ1' H1 k E1 X1 .int⟩
  · exact k.elim
end
end Eg

namespace Eg
open PySem PySem.Spec PyProof.Rows L2
/-! ### lcm of two numbers -/
def rLcmN : List V → Hp → VK → Prop := fun vs H Q => ∃ a b : Int, vs = [.int a, .int b] ∧ (a.natAbs < 2 ^ 64 ∧ b.natAbs < 2 ^ 64) ∧ Q (.int ((Nat.lcm a.natAbs b.natAbs : Nat) : Int)) H
section
variable {X : Cx} {a b : Expr} {fs : DenA} {ρ : RO} {μ : List MO} {p pos : Pos}
theorem cr_lcmN : CallR X (.builtin "math.lcm") rLcmN := by
  intro pins s σ H vs us Q I r h
  obtain ⟨a, b, rfl, ⟨ha, hb⟩, q⟩ := h
  obtain ⟨t, u, rfl⟩ := Vals.int2 r
  have e : Nat.lcm 1 a.natAbs = a.natAbs := Nat.lcm_one_left _
  refine PySem.W.mg_lcm ha hb ?_ ⟨.int _, H, I.tok _, ⟨_, rfl⟩, by rw [e]; exact q⟩
  rw [e]
  have le : Nat.lcm a.natAbs b.natAbs ≤ a.natAbs * b.natAbs := Nat.div_le_self _ _
  have lt : a.natAbs * b.natAbs < 2 ^ 64 * 2 ^ 64 := Nat.mul_lt_mul'' ha hb
  have lt2 : Nat.lcm a.natAbs b.natAbs < 2 ^ 128 := Nat.lt_of_le_of_lt le lt
  have := log_lt (n := 128) (i := ((Nat.lcm a.natAbs b.natAbs : Nat) : Int)) (by omega) (by omega)
  refine Nat.lt_of_le_of_lt this ?_
  decide
def oLcm : List DV → List MO → RE
  | [.int a, .int b], μ => if a.natAbs < 2 ^ 64 ∧ b.natAbs < 2 ^ 64 then some (.int ((Nat.lcm a.natAbs b.natAbs : Nat) : Int), μ) else none
  | _, _ => none
theorem SE.lcm {x : Str} (hg : Gl X x) (hm : X.mg x = some (.builtin "math.lcm")) (ss : SAr X [a, b] fs) (hdb : (x == ("__debug__" : Str)) = false := by decide)
    (he : starEach [a, b] X.env = (false, eval a X.env) :: starEach [b] X.env := by rfl) (hpl : (backTo pos (starEach [b] X.env)).any (·.1) = false := by rfl) :
    SE X (.Call (.Name x p) [a, b] [] pos) (dBlt oLcm fs) := fun ρ μ R k => by
  obtain ⟨ds, μ1, e1, k⟩ := okE_bndA k
  unfold oLcm at k
  split at k
  · rename_i i j
    obtain ⟨c, k⟩ := okE_if k
    refine PEw (pe_callBfun cr_lcmN hg hm pa_a hdb he hpl) fun σ H Q ⟨α, E, q⟩ => ⟨_, ss.at (R := fun ds' m => ds' = [.int i, .int j] ∧ m = μ1) e1 ⟨rfl, rfl⟩, α, E, ?_⟩
    rintro vs ds' α1 μ1' H1 ⟨rfl, rfl⟩ E1 X1 hv
    obtain ⟨v, u, rfl, hw, hu⟩ := hasL2 hv
    cases hw
    cases hu
    exact ⟨i, j, rfl, c, q _ _ α1 μ1' H1 k E1 X1 .int⟩
  · exact k.elim
end
end Eg

namespace Eg
open PySem PySem.Spec PyProof.Rows L2
section
variable {X : Cx} {a b c e : Expr} {es : List Expr} {fa fb fc f : Den} {fs : DenA} {pos p : Pos} {ρ : RO} {μ : List MO}
/-! ### a tuple, k times -/
def oRep : DV → DV → List MO → RE
  | .tup xs, .int k, μ => if xs.isEmpty = false ∧ 2 ≤ k ∧ k ≤ 1000 ∧ xs.length ≤ 1000 then some (.tup (List.replicate k.toNat xs).flatten, μ) else none
  | _, _, _ => none
def sRep : S2 := fun x y μ R => ∃ xs k, x = .tup xs ∧ y = .int k ∧ xs.isEmpty = false ∧ 2 ≤ k ∧ k ≤ 1000 ∧ xs.length ≤ 1000 ∧ R (.tup (List.replicate k.toNat xs).flatten) μ
theorem HasL.rep {w : Wd} {vs : List V} {ds : List DV} (h : HasL w vs ds) : ∀ m : Nat, HasL w (List.replicate m vs).flatten (List.replicate m ds).flatten
  | 0 => .nil
  | m + 1 => by
    rw [List.replicate_succ, List.replicate_succ, List.flatten_cons, List.flatten_cons]
    exact HasL.app h (HasL.rep h m)
theorem rRepT_S : R2S X (rRepT X.K) sRep := fun α μ H σ ρ x y da db R Q E hx hy h q => by
  obtain ⟨xs, k, rfl, rfl, hne, h1, h2, hz, r⟩ := h
  cases hx with
  | @tup a vs _ s1 t1 =>
    cases hy
    refine ⟨a, k, vs, rfl, rfl, s1, ?_, h1, h2, by rw [t1.length]; exact hz, ?_⟩
    · rintro rfl
      have e : xs = [] := List.length_eq_zero_iff.mp t1.length.symm
      subst e
      simp at hne
    · intro p np
      obtain ⟨kk, l⟩ := E.live.lay (o := .tup (List.replicate k.toNat vs).flatten) np
      exact q _ _ α μ _ r (E.ext kk l) kk (.tup (.of upd_same) (kk.hasL (HasL.rep t1 _)))
theorem SE.rep (sa : SE X a fa) (sb : SE X b fb) : SE X (.BinOp a .Mult b pos) (dOp2 oRep fa fb) := SE.op2 sa sb fun x y μ2 R h => by
  unfold oRep at h
  split at h
  · obtain ⟨⟨c1, c2, c3, c4⟩, h⟩ := okE_if h
    exact ⟨sRep, ⟨_, _, rfl, rfl, c1, c2, c3, c4, h⟩, fun ρ μ k => Ev.op op_repT rRepT_S k⟩
  · exact h.elim
end
end Eg

namespace Eg
open PySem PySem.Spec PyProof.Rows L2
section
variable {X : Cx} {a b c e : Expr} {es : List Expr} {fa fb fc f : Den} {fs : DenA} {pos p : Pos} {ρ : RO} {μ : List MO}
/-! ### range(a, b, c) -/
def stD (lo c : Int) (n : Nat) : List DV := (List.range n).map fun (i : Nat) => DV.int (lo + (i : Int) * c)
theorem stD_len (lo c : Int) (n : Nat) : (stD lo c n).length = n := by simp [stD]
theorem itc_ok {w : Wd} (lo c : Int) (n : Nat) : ItOk X (Itc lo c n) (stD lo c n) w := fun α μ H k l => by
  refine ⟨fun i d hd => ?_, Nat.le_of_eq (stD_len lo c n).symm⟩
  obtain ⟨hi, e⟩ := List.getElem?_eq_some_iff.mp hd
  rw [stD_len] at hi
  refine ⟨hi, fun x H' y => ?_⟩
  obtain ⟨rfl, rfl⟩ := y
  have e' : d = .int (lo + (i : Int) * c) := by
    rw [← e]
    simp [stD]
  rw [e']
  exact ⟨l.refl, l, .int⟩
def rgOk (i j c : Int) : Prop := c ≠ 0 ∧ c.natAbs < 1073741824 ∧ Builtin.Range.small i j c = true ∧ Builtin.Range.rangeSize i j c = ((Builtin.Range.rangeSize i j c).toNat : Int)
instance (i j c : Int) : Decidable (rgOk i j c) := by unfold rgOk; infer_instance
def iRange3 (fs : DenA) : DenA := fun ρ μ => bnd (fs ρ μ) fun ds μ1 => match ds with
  | [.int i, .int j, .int c] => if rgOk i j c then some (stD i c (Builtin.Range.rangeSize i j c).toNat, μ1) else none
  | _ => none
theorem SI.range3 {tg : Expr} (hg : Gl X "range") (hm : X.mg "range" = none) (ss : SAr X [a, b, c] fs)
    (hs : starEach [a, b, c] X.env = (false, eval a X.env) :: starEach [b, c] X.env := by rfl) (hpl : (backTo pos (starEach [b, c] X.env)).any (·.1) = false := by rfl) : SI X tg (.Call (.Name "range" p) [a, b, c] [] pos) (iRange3 fs) := fun ρ μ R k => by
  obtain ⟨ds, μ1, e1, k⟩ := okA_bndA k
  split at k
  · rename_i i j c
    obtain ⟨⟨c1, c2, c3, c4⟩, k⟩ := okA_if k
    refine PIw (pi_range3 hg hm pa_a hs hpl) fun σ H Q ⟨α, E, q⟩ => ⟨_, ss.at (R := fun ds m => ds = [.int i, .int j, .int c] ∧ m = μ1) e1 ⟨rfl, rfl⟩, α, E, ?_⟩
    rintro vs ds α1 μ1' H1 ⟨rfl, rfl⟩ E1 X1 hv
    obtain ⟨v, u, t, rfl, hw, hu, ht⟩ := hasL3 hv
    cases hw
    cases hu
    cases ht
    exact ⟨i, j, c, _, rfl, ⟨c1, c2, c3, c4⟩, q _ _ α1 μ1' H1 k E1 X1 (itc_ok i c _)⟩
  · exact k.elim
theorem rgOk_up {i j c : Int} (hi : -(2 ^ 40) ≤ i) (hi' : i < 2 ^ 40) (hj : -(2 ^ 40) ≤ j) (hj' : j < 2 ^ 40) (hc : 0 < c) (hc' : c < 2 ^ 20) : rgOk i j c := by
  refine ⟨by omega, by omega, ?_, ?_⟩
  · have e : Builtin.Range.rangeSize i j c = (if i < j then (j - i - 1) / c + 1 else 0) := by
      unfold Builtin.Range.rangeSize
      rw [if_pos (by omega)]
    have n0 : 0 ≤ Builtin.Range.rangeSize i j c ∧ Builtin.Range.rangeSize i j c ≤ 2 ^ 42 := by
      rw [e]
      split
      · have h1 : (j - i - 1) / c ≤ j - i - 1 := Int.ediv_le_self _ (by omega)
        have h2 : 0 ≤ (j - i - 1) / c := Int.ediv_nonneg (by omega) (by omega)
        omega
      · omega
    unfold Builtin.Range.small
    generalize Builtin.Range.rangeSize i j c = n at *
    simp only [Builtin.Range.rangeFitsLong, Bool.and_eq_true, Bool.or_eq_true, decide_eq_true_eq, beq_iff_eq]
    have hc0 : c > 0 := hc
    simp only [if_pos hc0]
    simp
    omega
  · rw [Int.toNat_of_nonneg]
    unfold Builtin.Range.rangeSize
    rw [if_pos (by omega)]
    split
    · have h2 : 0 ≤ (j - i - 1) / c := Int.ediv_nonneg (by omega) (by omega)
      omega
    · omega
theorem oDiv_neg {i j : Int} (h1 : j < 0) (h2 : -1267650600228229401496703205376 < j) : oDiv (.int i) (.int j) μ = some (.int (i.fdiv j), μ) := by
  have b := log_lt (n := 100) (i := j) (by omega) (by omega)
  unfold oDiv
  dsimp only
  rw [if_neg (by omega), if_pos ⟨h1, by omega⟩]
theorem oDiv_big {i j : Int} (h1 : j ≠ 0) (h2 : -(2 ^ 400) < j) (h3 : j < 2 ^ 400) : oDiv (.int i) (.int j) μ = some (.int (i.fdiv j), μ) := by
  have b := log_lt (n := 400) (i := j) h2 h3
  unfold oDiv
  dsimp only
  by_cases c : 0 < j
  · rw [if_pos ⟨c, by omega⟩, Int.fdiv_eq_ediv_of_nonneg _ (by omega)]
  · rw [if_neg (by omega), if_pos ⟨by omega, by omega⟩]
theorem oMod_any {i j : Int} (h1 : j ≠ 0) : oMod (.int i) (.int j) μ = some (.int (i.fmod j), μ) := by
  unfold oMod
  dsimp only
  rw [if_pos h1]
/-! ### i << j -/
def oShl : DV → DV → List MO → RE
  | .int i, .int j, μ => if 0 ≤ j ∧ j ≤ 1000000 ∧ i.natAbs < 2 ^ 64 then some (.int (i * 2 ^ j.toNat), μ) else none
  | _, _, _ => none
def sShl : S2 := fun x y μ R => ∃ i j, x = .int i ∧ y = .int j ∧ CPow i j ∧ R (.int (i * 2 ^ j.toNat)) μ
theorem SE.shl (sa : SE X a fa) (sb : SE X b fb) : SE X (.BinOp a .LShift b pos) (dOp2 oShl fa fb) := SE.op2 sa sb fun x y μ2 R h => by
  unfold oShl at h
  split at h
  · obtain ⟨c, h⟩ := okE_if h
    exact ⟨sShl, ⟨_, _, rfl, rfl, c, h⟩, fun ρ μ k => Ev.op op_shl (rI_S fun _ _ _ => .int) k⟩
  · exact h.elim
end
end Eg

namespace Eg
open PySem PySem.Spec PyProof.Rows L2
section
variable {X : Cx} {a b c e : Expr} {es : List Expr} {fa fb fc f : Den} {fs : DenA} {pos p : Pos} {ρ : RO} {μ : List MO} {k : Nat}
/-! ### repr of data -/
noncomputable def reprD : DV → Option Str
  | .non => some "None"
  | .bl b => some (if b then "True" else "False")
  | .int i => if i.natAbs.log2 < 1920 then some (toString i : String) else none
  | .tup xs => match toPy (.tup xs) with
    | some pd => if pd.showable = true ∧ pd.depth ≤ 100 ∧ pd.shown.length ≤ sizeLine then some pd.shown else none
    | none => none
  | .lst xs => match toPy (.lst xs) with
    | some pd => if pd.showable = true ∧ pd.depth ≤ 100 ∧ pd.shown.length ≤ sizeLine then some pd.shown else none
    | none => none
  | _ => none
noncomputable def oRepr : List DV → List MO → RE
  | [d], μ => match reprD d with
    | some x => some (.str x, μ)
    | none => none
  | _, _ => none
theorem Ev.reprA {R : Cn} (hA : X.A.guards = some []) (hu : X.A.units + 200 < cLine) (hB : ∃ mm, X.base.Ns sysModules mm) (hg : Gl X "repr") (hm : X.mg "repr" = none)
    (h : EvA X [e] ρ μ fun ds μ1 => ∃ d x, ds = [d] ∧ reprD d = some x ∧ R (.str x) μ1) (he : starEach [e] X.env = (false, eval e X.env) :: starEach [] X.env := by rfl) :
    Ev X (.Call (.Name "repr" p) [e] [] pos) ρ μ R := by
  refine ⟨fun pins s σ H Q I ⟨α, E, q⟩ => ?_⟩
  refine wpAny_Call_Name_kw (ld_blt I hg hm PyProof.Rows.boot_repr ?_ (by decide) (by decide))
  have ha : PA X [e] (tEvA X ρ μ fun ds μ1 => ∃ d x, ds = [d] ∧ reprD d = some x ∧ R (.str x) μ1) := h
  refine PyProof.Rows.callWith_builtin1 (thn (ha.run pos pins s σ H (fun vs H1 => ∃ α1 μ1 ds, (∃ d x, ds = [d] ∧ reprD d = some x ∧ R (.str x) μ1) ∧ En ⟨X.K, α1, μ1, H1⟩ σ ρ ∧ Kp ⟨X.K, α, μ, H⟩ ⟨X.K, α1, μ1, H1⟩ ∧ HasL ⟨X.K, α1, μ1, H1⟩ vs ds) I ⟨α, E, fun vs ds α1 μ1 H1 c E1 X1 hv => ⟨α1, μ1, ds, c, E1, X1, hv⟩⟩) ?_) he rfl
  rintro us s1 ⟨vs, H1, I1, rv, α1, μ1, ds, ⟨d, x, rfl, hx, r⟩, E1, X1, hv⟩
  obtain ⟨v, rfl, hw⟩ := hasL1 hv
  obtain ⟨u, rfl, ru⟩ := vals1 rv
  cases hw with
  | non =>
    have e1 : u = .none := ru
    subst e1
    cases hx
    exact PySem.P.repr_of_none ⟨.str _, H1, I1.tok _, ⟨_, rfl⟩, q _ _ α1 μ1 H1 r E1 X1 .str⟩
  | @bl bb =>
    have e1 : u = .bool bb := ru
    subst e1
    cases hx
    exact PySem.P.repr_of_bool ⟨.str _, H1, I1.tok _, ⟨_, by cases bb <;> rfl⟩, q _ _ α1 μ1 H1 r E1 X1 .str⟩
  | @int i =>
    obtain ⟨t, rfl⟩ := ru
    simp only [reprD] at hx
    split at hx
    · rename_i hl
      cases hx
      exact PySem.P.repr_of_int hl ⟨.str _, H1, I1.tok _, ⟨_, rfl⟩, q _ _ α1 μ1 H1 r E1 X1 .str⟩
    · cases hx
  | @tup pp vs2 ds2 h1 h2 =>
    have e1 : u = .ref pp := ru
    subst e1
    simp only [reprD] at hx
    split at hx
    · rename_i pd hpd
      split at hx
      · rename_i hc
        cases hx
        obtain ⟨as, rd, ns⟩ := rd_of I1 hB (.tup h1 h2) (u := .ref pp) rfl hpd
        exact PySem.repr_of_reads' rd hc.1 (fun _ => ns) hA (by omega) (fun _ _ z => z) (fun h' t tk k => ⟨.str pd.shown, H1, I1.kept k, ⟨_, rfl⟩, q _ _ α1 μ1 H1 r E1 X1 .str⟩) hc.2.2
      · cases hx
    · cases hx
  | @lst pp vs2 ds2 h1 h2 =>
    have e1 : u = .ref pp := ru
    subst e1
    simp only [reprD] at hx
    split at hx
    · rename_i pd hpd
      split at hx
      · rename_i hc
        cases hx
        obtain ⟨as, rd, ns⟩ := rd_of I1 hB (.lst h1 h2) (u := .ref pp) rfl hpd
        exact PySem.repr_of_reads' rd hc.1 (fun _ => ns) hA (by omega) (fun _ _ z => z) (fun h' t tk k => ⟨.str pd.shown, H1, I1.kept k, ⟨_, rfl⟩, q _ _ α1 μ1 H1 r E1 X1 .str⟩) hc.2.2
      · cases hx
    · cases hx
  | str => cases hx
  | dic _ _ _ => cases hx
  | exc _ _ _ => cases hx
  | exc0 _ => cases hx
  | mu _ => cases hx
theorem SE.repr (hA : X.A.guards = some []) (hr : Room k X.A) (hB : ∃ mm, X.base.Ns sysModules mm) (hg : Gl X "repr") (hm : X.mg "repr" = none) (ss : SAr X [e] fs)
    (he : starEach [e] X.env = (false, eval e X.env) :: starEach [] X.env := by rfl) : SE X (.Call (.Name "repr" p) [e] [] pos) (dBlt oRepr fs) := fun ρ μ R h => by
  obtain ⟨ds, μ1, e1, h⟩ := okE_bndA h
  have hu := hr.un
  refine Ev.reprA hA (by omega) hB hg hm (ss.at (R := fun ds m => ∃ d x, ds = [d] ∧ reprD d = some x ∧ R (.str x) m) e1 ?_) he
  unfold oRepr at h
  split at h
  · rename_i d
    split at h
    · rename_i x hx
      exact ⟨d, x, rfl, hx, h⟩
    · exact h.elim
  · exact h.elim
/-! ### two reprs beside one another -/
def oNeR : DV → DV → List MO → RE
  | .str x, .str y, μ => some (.bl (!decide (x = y)), μ)
  | _, _, _ => none
def oEqR : DV → DV → List MO → RE
  | .str x, .str y, μ => some (.bl (decide (x = y)), μ)
  | _, _, _ => none
theorem SE.neR (sa : SE X a fa) (sb : SE X b fb) : SE X (.Compare a [.NotEq] [b] pos) (dOp2 oNeR fa fb) := SE.op2 sa sb fun x y μ2 R h => by
  unfold oNeR at h
  split at h
  · rename_i x y
    have h' : R (.bl (!decide (x = y))) μ2 := h
    exact ⟨sNe, ⟨_, _, rfl, rfl, rfl, by simpa using h'⟩, fun ρ μ k => Ev.ne k⟩
  · exact h.elim
theorem SE.eqR (sa : SE X a fa) (sb : SE X b fb) : SE X (.Compare a [.Eq] [b] pos) (dOp2 oEqR fa fb) := SE.op2 sa sb fun x y μ2 R h => by
  unfold oEqR at h
  split at h
  · rename_i x y
    have h' : R (.bl (decide (x = y))) μ2 := h
    exact ⟨sEq, ⟨_, _, rfl, rfl, rfl, by simpa using h'⟩, fun ρ μ k => Ev.eq k⟩
  · exact h.elim
theorem ST.neR (sa : SE X a fa) (sb : SE X b fb) : ST X (.Compare a [.NotEq] [b] pos) (dOp2 oNeR fa fb) := ST.op2 sa sb fun x y μ2 R h => by
  unfold oNeR at h
  split at h
  · rename_i x y
    have h' : R (.bl (!decide (x = y))) μ2 := h
    exact ⟨sNe, ⟨_, _, rfl, rfl, rfl, by simpa using h'⟩, fun R' e ρ μ k => by subst e; exact EvT.ne k⟩
  · exact h.elim
theorem ST.eqR (sa : SE X a fa) (sb : SE X b fb) : ST X (.Compare a [.Eq] [b] pos) (dOp2 oEqR fa fb) := ST.op2 sa sb fun x y μ2 R h => by
  unfold oEqR at h
  split at h
  · rename_i x y
    have h' : R (.bl (decide (x = y))) μ2 := h
    exact ⟨sEq, ⟨_, _, rfl, rfl, rfl, by simpa using h'⟩, fun R' e ρ μ k => by subst e; exact EvT.eq k⟩
  · exact h.elim
end
/-! ### what is shown is short -/
def Shw (n L : Nat) (d : DV) : Prop := ∃ pd, toPy d = some pd ∧ pd.showable = true ∧ pd.depth ≤ n ∧ pd.shown.length ≤ L
theorem Shw.repr {n L : Nat} {xs : List DV} (h : Shw n L (.tup xs)) (hn : n ≤ 100) (hL : L ≤ sizeLine) : ∃ x, reprD (.tup xs) = some x := by
  obtain ⟨pd, e, h1, h2, h3⟩ := h
  refine ⟨pd.shown, ?_⟩
  simp only [reprD, e]
  rw [if_pos ⟨h1, by omega, by omega⟩]
end Eg

namespace Eg
open PySem PySem.Spec PyProof.Rows L2
section
variable {X : Cx} {a b c e : Expr} {es : List Expr} {fa fb fc f : Den} {fs : DenA} {pos p : Pos} {ρ : RO} {μ : List MO}
/-! ### any, sum of a list -/
def oAny : List DV → List MO → RE
  | [.lst xs], μ => match blsD xs with
    | some bs => some (.bl (bs.any id), μ)
    | none => none
  | _, _ => none
def sAny : SA := fun ds μ R => ∃ bs : List Bool, ds = [.lst (bs.map DV.bl)] ∧ R (.bl (bs.any id)) μ
theorem any_S : RaS X (rAny X.K) sAny := fun α μ H σ ρ vs ds R Q E hv h q => by
  obtain ⟨bs, rfl, hR⟩ := h
  obtain ⟨v, rfl, hw⟩ := hasL1 hv
  obtain ⟨a, vs, rfl, s1, t1⟩ := sqL_of hw
  have ev := bls_has t1
  subst ev
  exact ⟨a, bs, rfl, s1, q.sc E hR .bl⟩
theorem Ev.any {R : Cn} {p : Pos} (hc : X.calm = true) (hg : Gl X "any") (hm : X.mg "any" = none) (h : EvA X [e] ρ μ fun ds μ1 => sAny ds μ1 R) (he : starEach [e] X.env = (false, eval e X.env) :: starEach [] X.env := by rfl) :
    Ev X (.Call (.Name "any" p) [e] [] pos) ρ μ R := .callB (cr_any hc) any_S hg hm PyProof.Rows.boot_any h (by decide) (by decide) he rfl
theorem SE.any (hc : X.calm = true) (hg : Gl X "any") (hm : X.mg "any" = none) (ss : SAr X [a] fs) (he : starEach [a] X.env = (false, eval a X.env) :: starEach [] X.env := by rfl) : SE X (.Call (.Name "any" p) [a] [] pos) (dBlt oAny fs) :=
  SE.blt ss (S := sAny) (fun ds μ R h => by
    unfold oAny at h
    split at h
    · split at h
      · rename_i xs _ bs e
        exact ⟨bs, by rw [blsD_eq e], h⟩
      · exact h.elim
    · exact h.elim) fun ρ μ R k => Ev.any hc hg hm k he
def oSum : List DV → List MO → RE
  | [.lst xs], μ => match intsD xs with
    | some ns => some (.int ns.sum, μ)
    | none => none
  | _, _ => none
def sSum : SA := fun ds μ R => ∃ ns : List Int, ds = [.lst (ns.map DV.int)] ∧ R (.int ns.sum) μ
theorem sum_S : RaS X (rSum X.K) sSum := fun α μ H σ ρ vs ds R Q E hv h q => by
  obtain ⟨ns, rfl, hR⟩ := h
  obtain ⟨v, rfl, hw⟩ := hasL1 hv
  obtain ⟨a, vs, rfl, s1, t1⟩ := sqL_of hw
  have ev := hasL_ints t1
  subst ev
  exact ⟨a, ns, rfl, s1, q.sc E hR .int⟩
theorem Ev.sum {R : Cn} {p : Pos} (hc : X.calm = true) (hg : Gl X "sum") (hm : X.mg "sum" = none) (h : EvA X [e] ρ μ fun ds μ1 => sSum ds μ1 R) (he : starEach [e] X.env = (false, eval e X.env) :: starEach [] X.env := by rfl) :
    Ev X (.Call (.Name "sum" p) [e] [] pos) ρ μ R := .callB (cr_sum hc) sum_S hg hm PyProof.Rows.boot_sum h (by decide) (by decide) he rfl
theorem SE.sum (hc : X.calm = true) (hg : Gl X "sum") (hm : X.mg "sum" = none) (ss : SAr X [a] fs) (he : starEach [a] X.env = (false, eval a X.env) :: starEach [] X.env := by rfl) : SE X (.Call (.Name "sum" p) [a] [] pos) (dBlt oSum fs) :=
  SE.blt ss (S := sSum) (fun ds μ R h => by
    unfold oSum at h
    split at h
    · split at h
      · rename_i xs _ bs e
        exact ⟨bs, by rw [intsD_eq e], h⟩
      · exact h.elim
    · exact h.elim) fun ρ μ R k => Ev.sum hc hg hm k he
end
end Eg

namespace Eg
open PySem PySem.Spec PyProof.Rows L2
section
variable {X : Cx} {a b c e : Expr} {es : List Expr} {fa fb fc f : Den} {fs fi : DenA} {pos p : Pos} {ρ : RO} {μ : List MO} {R : Cn}
/-! ### a comprehension whose elements make objects -/
theorem lc_SG {elt iter : Expr} {ifs : List Expr} {scope : Scope} {x : Str} {px : Pos} (i : Nat)
    (h : EvI X (.Name x px) iter ρ μ fun ds μ1 => ds.length ≤ sizeLine ∧ ∃ I : Nat → List DV → List MO → List MO → Prop, I 0 [] μ1 [] ∧
      (∀ j d acc A B, ds[j]? = some d → A.length = μ1.length → I j acc A B → ∃ tt : RO → List MO → Ct → TT, (∀ s H C cl fp, PTs (blkX X s H scope C cl fp) ifs (tt (ρ.set i (some d)) (A ++ .lst acc :: B) fun b μ3 =>
        if b = true then ∀ s H C cl fp, Ev (blkX X s H scope C cl fp) elt (ρ.set i (some d)) μ3 fun y μ5 => ∃ A' B', μ5 = A' ++ .lst acc :: B' ∧ A'.length = μ1.length ∧ I (j + 1) (acc ++ [y]) A' B'
        else ∃ A' B', μ3 = A' ++ .lst acc :: B' ∧ A'.length = μ1.length ∧ I (j + 1) acc A' B')) ∧ ∀ ρ' μ' Rt σ H Q, tEvT X ρ' μ' Rt σ H Q → tt ρ' μ' Rt σ H Q) ∧
      ∀ acc A B, A.length = μ1.length → I ds.length acc A B → R (.lst acc) (A ++ .dead :: B))
    (σ : L2.St) (H : Hp) (Q : VK) (q : tEv X ρ μ R σ H Q) : tLc (aI X (.Name x px) iter) (gName i) (aBT X scope ifs) (aB X scope elt) [i] σ H Q := by
  obtain ⟨α, E, q⟩ := q
  refine ⟨_, h, α, E, ?_⟩
  rintro J ds α1 μ1 H1 ⟨hz, I, i0, turn, done⟩ E1 X1 ok D hD
  have hlen : α1.length = μ1.length := E1.live.len
  obtain ⟨kM, lM, eM⟩ := E1.live.layM (o := .lst []) (m := .lst []) hD (fun _ k => ⟨[], upd_same, .nil⟩)
  let P : Nat → Hp → Prop := fun j H' => ∃ acc A B α', acc.length ≤ j ∧ I j acc A B ∧ A.length = μ1.length ∧ α'[μ1.length]? = some D ∧ Live ⟨X.K, α', A ++ .lst acc :: B, H'⟩ ∧ Kp ⟨X.K, α1, μ1, H1⟩ ⟨X.K, α', A ++ .lst acc :: B, H'⟩
  refine ⟨fun j m H' => m = ds.length - j ∧ j ≤ ds.length ∧ P j H', ⟨ds.length, by simp, Nat.zero_le _, [], μ1, [], α1 ++ [D], Nat.le_refl _, i0, rfl, eM, lM, kM⟩, ?_⟩
  rintro j m H2 ⟨rfl, hj, acc, A, B, α2, ha, hI, hA, hα, l2, k2⟩
  obtain ⟨go, stop⟩ := ok α2 _ H2 k2 l2
  have at_ : ∀ (A B : List MO) (m : MO), A.length = μ1.length → (A ++ m :: B)[μ1.length]? = some m := fun A B m e => by
    rw [List.getElem?_append_right (by omega), e, Nat.sub_self]
    rfl
  have setl : ∀ (A B : List MO) (m m' : MO), A.length = μ1.length → (A ++ m :: B).set μ1.length m' = A ++ m' :: B := fun A B m m' e => by
    rw [← e]
    simp
  have kD := at_ A B (.lst acc) hA
  by_cases hlt : j < ds.length
  · obtain ⟨g1, g2⟩ := go j ds[j] (by simp [hlt])
    refine .inr ⟨g1, P (j + 1), fun H' p => ⟨ds.length - (j + 1), by omega, rfl, hlt, p⟩, fun y H3 yy => ?_⟩
    obtain ⟨ky, ly, hy⟩ := g2 y H3 yy
    obtain ⟨tt, ht, hm⟩ := turn j ds[j] acc A B (by simp [hlt]) hA hI
    show wipe ((wipe σ [i]).set i (some y)) [i] = wipe σ [i] ∧ _
    refine ⟨by simp [wipe], _, ht, ?_⟩
    have k3 := k2.trans ky
    have E3 : En ⟨X.K, α2, A ++ .lst acc :: B, H3⟩ ((wipe σ [i]).set i (some y)) (ρ.set i (some ds[j])) := by
      have z := ((E1.ext k3 ly).wipe i).set i hy
      have eρ : (ρ.set i none).set i (some ds[j]) = ρ.set i (some ds[j]) := by simp
      rw [eρ] at z
      exact z
    refine hm _ _ _ _ _ _ ⟨α2, E3, ?_⟩
    intro b α3 μ3 H4 r3 E4 k4
    cases b with
    | false =>
      refine iteF ?_
      obtain ⟨A', B', rfl, h4, hI4⟩ := r3
      exact ⟨acc, A', B', α3, Nat.le_succ_of_le ha, hI4, h4, k4.α _ _ hα, E4.live, k3.trans k4⟩
    | true =>
      refine iteT ⟨tEv X (ρ.set i (some ds[j])) μ3 _, r3, α3, E4, ?_⟩
      rintro v d α5 μ5 H5 ⟨A', B', rfl, h4, hI4⟩ E5 k5 hv
      have hα5 := k5.α _ _ (k4.α _ _ hα)
      have kD5 := at_ A' B' (.lst acc) h4
      obtain ⟨vs, e1, e2⟩ := E5.live.ob _ _ _ hα5 kD5
      have hl := e2.length
      refine ⟨vs, e1, by omega, ?_⟩
      obtain ⟨k6, l6⟩ := E5.live.put (o := .lst (vs ++ [v])) (m := .lst (acc ++ [d])) hα5 kD5 (fun z => nomatch z) fun k => ⟨_, upd_same, HasL.app (k.hasL e2) (.cons (k.has hv) .nil)⟩
      rw [setl _ _ _ _ h4] at k6 l6
      exact ⟨acc ++ [d], A', B', α5, by rw [List.length_append]; exact Nat.succ_le_succ ha, hI4, h4, hα5, l6, k3.trans (k4.trans (k5.trans k6))⟩
  · have e : j = ds.length := by omega
    subst e
    refine .inl ⟨stop, ?_⟩
    obtain ⟨vs, e1, e2⟩ := l2.ob _ _ _ hα kD
    obtain ⟨k6, l6, nl⟩ := l2.freeze (k := μ1.length)
    rw [setl _ _ _ _ hA] at k6 l6 nl
    have k7 := k2.trans k6
    exact q _ _ _ _ _ (done acc A B hA hI) (E1.ext k7 l6) (X1.trans k7) (.lst (.inl ⟨nl _ hα, .inl e1⟩) (k6.hasL e2))
theorem lc_SG0 {elt iter : Expr} {scope : Scope} {x : Str} {px : Pos} {i : Nat}
    (h : EvI X (.Name x px) iter ρ μ fun ds μ1 => ds.length ≤ sizeLine ∧ ∃ I : Nat → List DV → List MO → List MO → Prop, I 0 [] μ1 [] ∧
      (∀ j d acc A B, ds[j]? = some d → A.length = μ1.length → I j acc A B → ∀ s H C cl fp, Ev (blkX X s H scope C cl fp) elt (ρ.set i (some d)) (A ++ .lst acc :: B) fun y μ5 => ∃ A' B', μ5 = A' ++ .lst acc :: B' ∧ A'.length = μ1.length ∧ I (j + 1) (acc ++ [y]) A' B') ∧
      ∀ acc A B, A.length = μ1.length → I ds.length acc A B → R (.lst acc) (A ++ .dead :: B))
    (σ : L2.St) (H : Hp) (Q : VK) (q : tEv X ρ μ R σ H Q) : tLc (aI X (.Name x px) iter) (gName i) (aBT X scope []) (aB X scope elt) [i] σ H Q :=
  lc_SG i (EvI.mono h fun ds μ1 ⟨hz, I, i0, turn, done⟩ => ⟨hz, I, i0, fun j d acc A B h1 h2 h3 => ⟨fun ρ' μ' Rt σ H Q => ∃ α, En ⟨X.K, α, μ', H⟩ σ ρ' ∧ ∀ b α' μ'' H', Rt b μ'' → En ⟨X.K, α', μ'', H'⟩ σ ρ' → Kp ⟨X.K, α, μ', H⟩ ⟨X.K, α', μ'', H'⟩ → Q b H',
    fun s H C cl fp => ⟨fun pins s' σ H' Q' J ⟨α, E, q⟩ => pts_nil.run pins s' σ H' Q' J (q true α _ H' (turn j d acc A B h1 h2 h3) E E.live.refl)⟩, fun _ _ _ _ _ _ z => z⟩, done⟩) σ H Q q
/-! ### list(xs), a list that may change -/
def sListM : SA := fun ds μ R => ∃ xs, (ds = [.lst xs] ∨ ds = [.tup xs]) ∧ R (.mu μ.length) (μ ++ [.lst xs])
theorem list_SM : RaS X (fun xs H Q => ∃ p ys, xs = [.ref p] ∧ (SqL X.K H p ys ∨ SqT X.K H p ys) ∧ ∀ l, H l = none → Q (.ref l) (upd H l (.lst ys))) sListM := fun α μ H σ ρ vs ds R Q E hv h q => by
  obtain ⟨xs, hd, r⟩ := h
  have key : ∃ p ys, vs = [.ref p] ∧ (SqL X.K H p ys ∨ SqT X.K H p ys) ∧ HasL ⟨X.K, α, μ, H⟩ ys xs := by
    rcases hd with rfl | rfl
    · obtain ⟨v, rfl, hw⟩ := hasL1 hv
      obtain ⟨a, vs, rfl, s1, t1⟩ := sqL_of hw
      exact ⟨a, vs, rfl, .inl s1, t1⟩
    · obtain ⟨v, rfl, hw⟩ := hasL1 hv
      cases hw with
      | tup h1 h2 => exact ⟨_, _, rfl, .inr h1, h2⟩
  obtain ⟨p, ys, rfl, hs, hl⟩ := key
  refine ⟨p, ys, rfl, hs, fun l nl => ?_⟩
  obtain ⟨k, l', e⟩ := E.live.layM (o := .lst ys) (m := .lst xs) nl (fun _ k => ⟨ys, upd_same, k.hasL hl⟩)
  exact q _ _ _ _ _ r (E.ext k l') k (.mu e)
def oListM : List DV → List MO → RE
  | [.lst xs], μ => some (.mu μ.length, μ ++ [.lst xs])
  | [.tup xs], μ => some (.mu μ.length, μ ++ [.lst xs])
  | _, _ => none
theorem SE.listM (hg : Gl X "list") (hm : X.mg "list" = none) (ss : SAr X [a] fs) (he : starEach [a] X.env = (false, eval a X.env) :: starEach [] X.env := by rfl) : SE X (.Call (.Name "list" p) [a] [] pos) (dBlt oListM fs) :=
  SE.blt ss (S := sListM) (fun ds μ R h => by
    unfold oListM at h
    split at h
    · exact ⟨_, .inl rfl, h⟩
    · exact ⟨_, .inr rfl, h⟩
    · exact h.elim) fun ρ μ R k => Ev.callTy call_list_of list_SM hg hm PyProof.Rows.boot_list k (by decide) (by decide) he rfl
/-! ### ys = [list(x) for x in xs]: rows that may change -/
def rowsD : List DV → Option (List (List DV))
  | [] => some []
  | .lst xs :: r => (rowsD r).map (xs :: ·)
  | .tup xs :: r => (rowsD r).map (xs :: ·)
  | _ :: _ => none
theorem rowsD_len : ∀ {ds : List DV} {rs : List (List DV)}, rowsD ds = some rs → rs.length = ds.length
  | [], _, e => by cases e; rfl
  | .lst xs :: r, _, e => by
    obtain ⟨rs, e1, rfl⟩ := Option.map_eq_some_iff.mp (show (rowsD r).map (xs :: ·) = some _ from e)
    simp [rowsD_len e1]
  | .tup xs :: r, _, e => by
    obtain ⟨rs, e1, rfl⟩ := Option.map_eq_some_iff.mp (show (rowsD r).map (xs :: ·) = some _ from e)
    simp [rowsD_len e1]
  | .non :: _, _, e => by cases e
  | .bl _ :: _, _, e => by cases e
  | .int _ :: _, _, e => by cases e
  | .str _ :: _, _, e => by cases e
  | .dic _ :: _, _, e => by cases e
  | .exc _ _ :: _, _, e => by cases e
  | .mu _ :: _, _, e => by cases e
theorem rowsD_at : ∀ {ds : List DV} {rs : List (List DV)} {j : Nat} {d : DV}, rowsD ds = some rs → ds[j]? = some d → ∃ xs, rs[j]? = some xs ∧ (d = .lst xs ∨ d = .tup xs)
  | [], _, j, d, e, h => by simp at h
  | .lst xs :: r, _, j, d, e, h => by
    obtain ⟨rs, e1, rfl⟩ := Option.map_eq_some_iff.mp (show (rowsD r).map (xs :: ·) = some _ from e)
    cases j with
    | zero => simp at h; exact ⟨xs, rfl, .inl h.symm⟩
    | succ j => exact rowsD_at (j := j) e1 (by simpa using h)
  | .tup xs :: r, _, j, d, e, h => by
    obtain ⟨rs, e1, rfl⟩ := Option.map_eq_some_iff.mp (show (rowsD r).map (xs :: ·) = some _ from e)
    cases j with
    | zero => simp at h; exact ⟨xs, rfl, .inr h.symm⟩
    | succ j => exact rowsD_at (j := j) e1 (by simpa using h)
  | .non :: _, _, _, _, e, _ => by cases e
  | .bl _ :: _, _, _, _, e, _ => by cases e
  | .int _ :: _, _, _, _, e, _ => by cases e
  | .str _ :: _, _, _, _, e, _ => by cases e
  | .dic _ :: _, _, _, _, e, _ => by cases e
  | .exc _ _ :: _, _, _, _, e, _ => by cases e
  | .mu _ :: _, _, _, _, e, _ => by cases e
/-- the rows' places: behind the place of the list of them -/
def musL (n m : Nat) : List DV := (List.range m).map fun j => DV.mu (n + 1 + j)
def sRows (i j : Nat) (fi : DenA) : DenS := fun ρ μ => bnd (fi ρ μ) fun ds μ1 => match rowsD ds with
  | some rs => if ds.length ≤ 1000 ∧ j < ρ.length then some (.nx (ρ.set i (some (.lst (musL μ1.length rs.length)))) (μ1 ++ .dead :: rs.map MO.lst)) else none
  | none => none
theorem S1.rows {elt iter : Expr} {scope : Scope} {x y : Str} {px py spos : Pos} (i j : Nat) (hc : X.calm = true) (hN : X.N.Nodup) (hy : X.N[i]? = some y) (hyl : X.env.scope.names.lookup y = some .local)
    (hsw : swapsWith (.ListComp elt [⟨.Name x px, iter, [], 0⟩] scope pos) (some (.Name y py)) spos.line X.env = pure true) (hj : X.N[j]? = some x) (ok : BlkOk X.N X.env.scope scope [(x, j)])
    (hl : ∀ (s : Shared) (H : Hp) (C : Addr) (cl : List (Str × Addr)) (fp : List Addr), Loc (blkX X s H scope C cl fp).env.scope x ∧ ((blkX X s H scope C cl fp).fn x = true ∨ (blkX X s H scope C cl fp).env.scope.names.lookup x = some .local))
    (si : SI X (.Name x px) iter fi) (se : ∀ s H C cl fp, SE (blkX X s H scope C cl fp) elt (dBlt oListM (aCons (dVar j) aNil))) (hs : ∀ x, foldedSetIterable iter X.env x = pure x := by intro _; rfl) :
    S1 X (.Assign [.Name y py] (.ListComp elt [⟨.Name x px, iter, [], 0⟩] scope pos) spos) (sRows i j fi) := fun ρ μ R h => by
  obtain ⟨ds, μ1, e1, k⟩ := okS_bndA h
  split at k
  · rename_i rs hrs
    by_cases hcd : ds.length ≤ 1000 ∧ j < ρ.length
    · rw [if_pos hcd] at k
      have rl := rowsD_len hrs
      refine PSw (ps_setLc (own := [(x, j)]) (g := gName j) hc hN hy hyl hsw pi_a ok (fun s H C cl fp => pg_name hN hj (hl s H C cl fp).1 (hl s H C cl fp).2) (fun s H C cl fp => pts_aB s H C cl fp) (fun s H C cl fp => pe_aB s H C cl fp) hs)
        fun D σ H ⟨α, E, q⟩ => lc_SG0 (ρ := ρ) (μ := μ) (R := fun d μ1 => okS (some (.nx (ρ.set i (some d)) μ1)) R) ?_ σ H _ ⟨α, E, fun v d α1 μ1 H1 r E1 X1 hv => ?_⟩
      · refine si ρ μ _ ?_
        rw [e1]
        refine ⟨by rw [sizeLine_eq]; omega, fun j' acc A B => A = μ1 ∧ acc = (musL μ1.length rs.length).take j' ∧ B = (rs.map MO.lst).take j', ⟨rfl, rfl, rfl⟩, ?_, ?_⟩
        · rintro j' d acc A B hd hA ⟨rfl, rfl, rfl⟩ s H C cl fp
          obtain ⟨xs, hx, hdx⟩ := rowsD_at hrs hd
          have hj' : j' < rs.length := (List.getElem?_eq_some_iff.mp hx).1
          have hlen : (A ++ MO.lst ((musL A.length rs.length).take j') :: (rs.map MO.lst).take j').length = A.length + 1 + j' := by
            simp only [List.length_append, List.length_cons, List.length_take, List.length_map]
            omega
          have ev : dBlt oListM (aCons (dVar j) aNil) (ρ.set j (some d)) (A ++ MO.lst ((musL A.length rs.length).take j') :: (rs.map MO.lst).take j') = some (.mu (A.length + 1 + j'), (A ++ MO.lst ((musL A.length rs.length).take j') :: (rs.map MO.lst).take j') ++ [.lst xs]) := by
            have hv : (ρ.set j (some d))[j]? = some (some d) := List.getElem?_set_self hcd.2
            unfold dBlt aCons aNil dVar
            rw [hv]
            rcases hdx with rfl | rfl <;> (simp only [bnd_some, oListM]; rw [hlen])
          refine (se s H C cl fp).at ev ⟨A, (rs.map MO.lst).take (j' + 1), ?_, rfl, rfl, ?_, rfl⟩
          · rw [List.take_add_one, List.getElem?_map, hx]
            simp
          · rw [List.take_add_one]
            have : (musL A.length rs.length)[j']? = some (.mu (A.length + 1 + j')) := by
              unfold musL
              rw [List.getElem?_map, List.getElem?_range hj']
              rfl
            rw [this]
            rfl
        · rintro acc A B hA ⟨rfl, rfl, rfl⟩
          have t1 : (musL A.length rs.length).take ds.length = musL A.length rs.length := List.take_of_length_le (by unfold musL; simp; omega)
          have t2 : (rs.map MO.lst).take ds.length = rs.map MO.lst := List.take_of_length_le (by simp; omega)
          rw [t1, t2]
          exact k
      · exact q.1 _ _ _ _ _ r (E1.set i hv) X1
    · rw [if_neg hcd] at k
      exact k.elim
  · exact k.elim
/-! ### rows in a slot are told to stay as they are -/
def thawL : List MO → List DV → Option (List DV × List MO)
  | μ, [] => some ([], μ)
  | μ, .mu k :: ds => match μ[k]? with
    | some (.lst xs) => (thawL (μ.set k .dead) ds).map fun q => (.lst xs :: q.1, q.2)
    | _ => none
  | μ, d :: ds => (thawL μ ds).map fun q => (d :: q.1, q.2)
theorem thaw_ok {K : PySem.W.Frag} {α : List Addr} {H : Hp} : ∀ {ds : List DV} {vs : List V} {μ : List MO} {ds' : List DV} {μ' : List MO}, Live ⟨K, α, μ, H⟩ → HasL ⟨K, α, μ, H⟩ vs ds → thawL μ ds = some (ds', μ') →
    Kp ⟨K, α, μ, H⟩ ⟨K, α, μ', H⟩ ∧ Live ⟨K, α, μ', H⟩ ∧ HasL ⟨K, α, μ', H⟩ vs ds'
  | [], vs, μ, ds', μ', l, h, e => by
    cases h
    cases e
    exact ⟨l.refl, l, .nil⟩
  | d :: ds, vs, μ, ds', μ', l, h, e => by
    cases h with
    | @cons v _ vs _ h1 h2 =>
    have other : (thawL μ ds).map (fun q => (d :: q.1, q.2)) = some (ds', μ') → Kp ⟨K, α, μ, H⟩ ⟨K, α, μ', H⟩ ∧ Live ⟨K, α, μ', H⟩ ∧ HasL ⟨K, α, μ', H⟩ (v :: vs) ds' := fun e => by
      obtain ⟨⟨q1, q2⟩, e1, e2⟩ := Option.map_eq_some_iff.mp e
      cases e2
      obtain ⟨kp, l', hl⟩ := thaw_ok l h2 e1
      exact ⟨kp, l', .cons (kp.has h1) hl⟩
    cases d with
    | mu k =>
      unfold thawL at e
      split at e
      · rename_i xs hk
        obtain ⟨⟨q1, q2⟩, e1, e2⟩ := Option.map_eq_some_iff.mp e
        cases e2
        cases h1 with
        | @mu _ a ha =>
          obtain ⟨kp, l1, nl⟩ := l.freeze (k := k)
          obtain ⟨us, z1, z2⟩ := l.ob k a _ ha hk
          obtain ⟨kp2, l2, hl⟩ := thaw_ok l1 (kp.hasL h2) e1
          exact ⟨kp.trans kp2, l2, .cons (kp2.has (.lst (.inl ⟨nl _ ha, .inl z1⟩) (kp.hasL z2))) hl⟩
      · cases e
    | non => exact other e
    | bl _ => exact other e
    | int _ => exact other e
    | str _ => exact other e
    | tup _ => exact other e
    | lst _ => exact other e
    | dic _ => exact other e
    | exc _ _ => exact other e
def sThaw (i : Nat) (g : DenS) : DenS := fun ρ μ => match ρ[i]? with
  | some (some (.lst ds)) => match thawL μ ds with
    | some (ds', μ') => g (ρ.set i (some (.lst ds'))) μ'
    | none => none
  | _ => none
theorem SS.thaw {ss : List Stmt} {g : DenS} (i : Nat) (h : SS X ss g) : SS X ss (sThaw i g) := fun ρ μ R k => by
  unfold sThaw at k
  split at k
  · rename_i ds hi
    split at k
    · rename_i ds' μ' ht
      refine PSsw (h _ _ R k) fun D σ H ⟨α, E, q⟩ => ?_
      obtain ⟨v, e1, e2⟩ := E.at_ i _ hi
      cases e2 with
      | @lst p vs _ r t =>
        obtain ⟨kp, l, hl⟩ := thaw_ok E.live t ht
        have r' : (¬ Wd.lv ⟨X.K, α, μ', H⟩ p ∧ Rd H p (.lst vs)) ∨ WrL X.K p vs := by
          rcases r with ⟨n, r⟩ | r
          · refine .inl ⟨fun z => n (kp.lv _ (by rcases r with r | ⟨o, r⟩ <;> (rw [r]; exact fun z => nomatch z)) z), r⟩
          · exact .inr r
        have E2 := (E.ext kp l).set i (.lst r' hl)
        have es : ∀ u, σ[i]? = some (some u) → σ.set i (some u) = σ := fun u e1 => by
          obtain ⟨hl, he⟩ := List.getElem?_eq_some_iff.mp e1
          apply List.ext_getElem?
          intro j
          by_cases hj : j = i
          · subst hj
            rw [List.getElem?_set_self hl]
            exact e1.symm
          · rw [List.getElem?_set_ne (Ne.symm hj)]
        rw [es _ e1] at E2
        exact ⟨α, E2, fun ρ' σ' α' μ' H' r E' k' => q.1 ρ' σ' α' μ' H' r E' (kp.trans k'), fun v d α' μ' H' r l' k' => q.2.1 v d α' μ' H' r l' (kp.trans k'),
          fun ρ' σ' α' μ' H' r E' k' => q.2.2.1 ρ' σ' α' μ' H' r E' (kp.trans k'), fun ρ' σ' α' μ' H' r E' k' => q.2.2.2 ρ' σ' α' μ' H' r E' (kp.trans k')⟩
    · exact k.elim
  · exact k.elim
end
end Eg

namespace Eg
open PySem PySem.Spec PyProof.Rows L2
open PySem.Sem (wp)
/-! ### zip of a list and a tuple: sequences of either kind (true: a list) -/
def sqk : Bool → Heap → Addr → Array Value → Prop
  | true => fun h a xs => h.IsList a xs
  | false => fun h a xs => h.IsTuple a xs
def itk : Bool → Heap → Addr → Addr → Nat → Prop
  | true => fun h a l i => h.IsListIter a l i
  | false => fun h a l i => h.IsTupleIter a l i
def itName : Bool → String
  | true => "list_iterator"
  | false => "tuple_iterator"
theorem sqk.ext {b : Bool} {h h' : Heap} {a c : Addr} {xs : Array Value} (x : sqk b h a xs) (hs : Heap.ExtBut c h h') (n : a ≠ c) : sqk b h' a xs := by
  cases b
  · exact Heap.IsTuple.extBut x hs n
  · exact Heap.IsList.extBut x hs n
theorem itk.ext {b : Bool} {h h' : Heap} {a c l : Addr} {i : Nat} (x : itk b h a l i) (hs : Heap.ExtBut c h h') (n : a ≠ c) : itk b h' a l i := by
  cases b
  · exact Heap.IsTupleIter.extBut x hs n
  · exact Heap.IsListIter.extBut x hs n
theorem itk.to {b : Bool} {h h' : Heap} {a l : Addr} {i : Nat} (x : itk b h a l i) (e : ∀ o, h.get? a = some o → h'.get? a = some o) : itk b h' a l i := by
  cases b
  · exact Heap.IsTupleIter.at x e
  · exact Heap.IsListIter.at x e
theorem itk.obj {b : Bool} {h : Heap} {a l : Addr} {i : Nat} (x : itk b h a l i) : ∃ o, h.get? a = some o ∧ o.cls = .type (itName b) ∧ o.data = .fields #[.ref l, rawInt i] := by
  cases b
  · exact x
  · exact x
section
variable {prog : Program} {w : World} {A : Around} {E : Value → Shared → Prop} {s : Shared}
theorem nextK {b : Bool} {it l : Addr} {i : Nat} {xs : Array Value} {x : Value} {Q : Value → Shared → Prop} (hi : itk b s.heap it l i) (hl : sqk b s.heap l xs) (hx : xs[i]? = some x)
    (hQ : ∀ h', itk b h' it l (i + 1) → Heap.SameBut it s.heap h' → Q x { s with heap := h' }) : wpAny (model prog w) A (Builtin.SmallTypes.nextOf (.ref it)) Q E s := by
  cases b
  · exact RZ.nextOf_tuple_item hi hl hx hQ
  · exact wpAny_nextOf_list_item hi hl hx hQ
theorem lastK {b : Bool} {it l : Addr} {i : Nat} {xs : Array Value} {Q : Value → Shared → Prop} (hh : A.handled = none) (hi : itk b s.heap it l i) (hl : sqk b s.heap l xs) (hx : xs[i]? = none)
    (hE : ∀ h' e, Heap.ExtBut it s.heap h' → (∃ o, h'.get? e = some o ∧ o.cls = .type "StopIteration") → E (.ref e) { s with heap := h' }) : wpAny (model prog w) A (Builtin.SmallTypes.nextOf (.ref it)) Q E s := by
  cases b
  · exact RZ.nextOf_tuple_end hh hi hl hx hE
  · exact wpAny_nextOf_list_end hh hi hl hx hE
theorem iterK {b : Bool} {l : Addr} {xs : Array Value} {Q : Value → Shared → Prop} (hl : sqk b s.heap l xs)
    (hQ : Q (.ref s.heap.objs.size) { s with heap := s.heap.push { cls := .type (itName b), data := .fields #[.ref l, .int 0 0] } }) : wpAny (model prog w) A (pyIter (.ref l)) Q E s := by
  cases b
  · exact wpAny_pyIter_tuple hl hQ
  · exact wpAny_pyIter_list hl hQ

variable {z TI TO i1 i2 l1 l2 : Addr} {k1 k2 : Nat} {xs ys : Array Value} {b1 b2 : Bool}
theorem zipK_item {x y a b : Value} {Q : Value → Shared → Prop} (D : ZipApart z TI TO i1 i2 l1 l2)
    (hz : IsZip s.heap z TI TO .none) (hTI : IsPair s.heap TI (.ref i1) (.ref i2)) (hTO : IsPair s.heap TO a b)
    (g1 : itk b1 s.heap i1 l1 k1) (g2 : itk b2 s.heap i2 l2 k2) (f1 : sqk b1 s.heap l1 xs) (f2 : sqk b2 s.heap l2 ys) (hx : xs[k1]? = some x) (hy : ys[k2]? = some y)
    (hQ : ∀ h', IsZip h' z TI TO (rawInt s.heap.objs.size) → IsPair h' TO x y → itk b1 h' i1 l1 (k1 + 1) → itk b2 h' i2 l2 (k2 + 1) → IsPair h' s.heap.objs.size x y → h'.objs.size = s.heap.objs.size + 1 →
      (∀ c o, c ≠ z → c ≠ TO → c ≠ i1 → c ≠ i2 → s.heap.get? c = some o → h'.get? c = some o) → Q (.ref s.heap.objs.size) { s with heap := h' }) :
    wpAny (model prog w) A (Builtin.«zip.__next__» ⟨[.ref z], []⟩) (fun fin s' => ∃ v, fin = .done (.ret v) ∧ Q v s') E s := by
  show wpAny _ _ (field (.ref z) 2 >>= _) _ _ _
  refine wpAny_bind (wpAny_field hz rfl (x := .bool false) rfl ?_)
  show wpAny _ _ (field (.ref z) 3 >>= _) _ _ _
  refine wpAny_bind (wpAny_field hz rfl (x := .ref TI) rfl (wpAny_bind (wpAny_seqItems hTI rfl ?_)))
  show wpAny _ _ (Builtin.SmallTypes.ownedTupleIsFree (.ref z) >>= _) _ _ _
  refine wpAny_bind ?_
  unfold Builtin.SmallTypes.ownedTupleIsFree
  refine wpAny_bind (wpAny_field hz rfl (x := .none) rfl (wpAny_pure ?_))
  simp only [if_true]
  refine wpAny_bind (wpAny_rule (wpAny_bind (wpAny_field hz rfl (x := .ref TO) rfl ?_)))
  refine wpAny_bind (wpAny_setField_rec hz (by simp) fun ha za sa => ?_)
  replace za : IsZip ha z TI TO .ellipsis := za
  refine wpAny_bind ?_
  simp only [List.zipIdx_cons, List.zipIdx_nil, List.forIn_cons, List.forIn_nil]
  refine wpAny_bind (wpAny_bind (wpAny_onRaise ?_))
  show wpAny _ _ (Builtin.SmallTypes.nextOf (.ref i1) >>= _) _ _ _
  refine wpAny_bind (nextK (g1.ext sa.extBut D.i1z) (f1.ext sa.extBut D.l1z) hx fun hb g1b sb => wpAny_pure ?_)
  have Tb : IsPair hb TO a b := sb.extBut _ _ D.TOi1 (sa.extBut _ _ D.TOz hTO)
  refine wpAny_bind (wpAny_seqItems Tb rfl (wpAny_bind (wpAny_updateSeq_pair Tb fun hc Tc sc => ?_)))
  replace Tc : IsPair hc TO x b := Tc
  refine wpAny_bind (wpAny_letGo (wpAny_pure (wpAny_bind (wpAny_bind (wpAny_onRaise ?_)))))
  show wpAny _ _ (Builtin.SmallTypes.nextOf (.ref i2) >>= _) _ _ _
  refine wpAny_bind (nextK (((g2.ext sa.extBut D.i2z).ext sb.extBut D.i12.symm).ext sc.extBut D.TOi2.symm)
    (((f2.ext sa.extBut D.l2z).ext sb.extBut D.l2i1).ext sc.extBut D.l2TO) hy fun hd g2d sd => wpAny_pure ?_)
  have Td : IsPair hd TO x b := sd.extBut _ _ D.TOi2 Tc
  refine wpAny_bind (wpAny_seqItems Td rfl (wpAny_bind (wpAny_updateSeq_pair Td fun he Te se => ?_)))
  replace Te : IsPair he TO x y := Te
  refine wpAny_bind (wpAny_letGo (wpAny_pure (wpAny_pure ?_)))
  refine wpAny_bind (wpAny_seqItems Te rfl (wpAny_bind (wpAny_newTuple ?_)))
  have size : he.objs.size = s.heap.objs.size := by rw [se.1, sd.1, sc.1, sb.1, sa.1]
  have ze : IsZip he z TI TO .ellipsis := se.extBut _ _ D.TOz.symm (sd.extBut _ _ D.i2z.symm (sc.extBut _ _ D.TOz.symm (sb.extBut _ _ D.i1z.symm za)))
  have old : ∀ c o, c ≠ z → c ≠ TO → c ≠ i1 → c ≠ i2 → s.heap.get? c = some o → he.get? c = some o := fun c o c1 c2 c3 c4 e =>
    se.extBut _ _ c2 (sd.extBut _ _ c4 (sc.extBut _ _ c2 (sb.extBut _ _ c3 (sa.extBut _ _ c1 e))))
  have g1e : itk b1 he i1 l1 (k1 + 1) := ((g1b.ext sc.extBut D.TOi1.symm).ext sd.extBut D.i12).ext se.extBut D.TOi1.symm
  have g2e : itk b2 he i2 l2 (k2 + 1) := g2d.ext se.extBut D.TOi2.symm
  have zlt : z < he.objs.size := Heap.lt_size ze
  show wpAny _ _ (Builtin.SmallTypes.ownedTupleHandOut (.ref z) (.ref he.objs.size) >>= _) _ _ _
  refine wpAny_bind ?_
  unfold Builtin.SmallTypes.ownedTupleHandOut
  have zf : IsZip (he.push { cls := .type "tuple", data := .seq #[x, y] }) z TI TO .ellipsis := Heap.get?_push_of_some _ ze
  refine wpAny_bind (wpAny_setField_rec zf (by simp) fun hg zg sg => ?_)
  replace zg : IsZip hg z TI TO (rawInt he.objs.size) := zg
  refine wpAny_setField_rec zg (by simp) fun hh zh sh => ?_
  replace zh : IsZip hh z TI TO (rawInt he.objs.size) := zh
  have up : ∀ c o, c ≠ z → he.get? c = some o → hh.get? c = some o := fun c o c1 e => sh.extBut _ _ c1 (sg.extBut _ _ c1 (Heap.get?_push_of_some _ e))
  have Th : IsPair hh he.objs.size x y := sh.extBut _ _ (Nat.ne_of_gt zlt) (sg.extBut _ _ (Nat.ne_of_gt zlt) (Heap.get?_push_size _ rfl))
  have s8 : hh.objs.size = he.objs.size + 1 := by rw [sh.1, sg.1, Heap.size_push]
  rw [size] at zh Th s8
  refine wpAny_pure ⟨_, rfl, ?_⟩
  show Q (.ref he.objs.size) _
  rw [size]
  exact hQ hh zh (up _ _ D.TOz Te) (g1e.to fun o e => up _ o D.i1z e) (g2e.to fun o e => up _ o D.i2z e) Th s8 fun c o c1 c2 c3 c4 e => up c o c1 (old c o c1 c2 c3 c4 e)
theorem zipK_end {a b : Value} {Q : Fin → Shared → Prop} (hn : A.handled = none) (D : ZipApart z TI TO i1 i2 l1 l2)
    (hz : IsZip s.heap z TI TO .none) (hTI : IsPair s.heap TI (.ref i1) (.ref i2)) (hTO : IsPair s.heap TO a b)
    (g1 : itk b1 s.heap i1 l1 k1) (g2 : itk b2 s.heap i2 l2 k2) (f1 : sqk b1 s.heap l1 xs) (f2 : sqk b2 s.heap l2 ys) (hend : xs[k1]? = none ∨ ys[k2]? = none)
    (hE : ∀ h' e, (∀ c o, c ≠ z → c ≠ TO → c ≠ i1 → c ≠ i2 → s.heap.get? c = some o → h'.get? c = some o) → (∃ o, h'.get? e = some o ∧ o.cls = .type "StopIteration") → E (.ref e) { s with heap := h' }) :
    wpAny (model prog w) A (Builtin.«zip.__next__» ⟨[.ref z], []⟩) Q E s := by
  have stop : ∀ {g h : Heap} {e : Addr}, IsZip g z TI TO .ellipsis → (∃ o, g.get? e = some o ∧ o.cls = .type "StopIteration") → Heap.SameBut z g h → e ≠ z ∧ ∃ o, h.get? e = some o ∧ o.cls = .type "StopIteration" := by
    intro g h e hg ⟨o, ho, hc⟩ sb
    have n : e ≠ z := fun q => by subst q; rw [hg] at ho; cases ho; simp at hc
    exact ⟨n, o, sb.extBut _ _ n ho, hc⟩
  show wpAny _ _ (field (.ref z) 2 >>= _) _ _ _
  refine wpAny_bind (wpAny_field hz rfl (x := .bool false) rfl ?_)
  show wpAny _ _ (field (.ref z) 3 >>= _) _ _ _
  refine wpAny_bind (wpAny_field hz rfl (x := .ref TI) rfl (wpAny_bind (wpAny_seqItems hTI rfl ?_)))
  show wpAny _ _ (Builtin.SmallTypes.ownedTupleIsFree (.ref z) >>= _) _ _ _
  refine wpAny_bind ?_
  unfold Builtin.SmallTypes.ownedTupleIsFree
  refine wpAny_bind (wpAny_field hz rfl (x := .none) rfl (wpAny_pure ?_))
  simp only [if_true]
  refine wpAny_bind (wpAny_rule (wpAny_bind (wpAny_field hz rfl (x := .ref TO) rfl ?_)))
  refine wpAny_bind (wpAny_setField_rec hz (by simp) fun ha za sa => ?_)
  replace za : IsZip ha z TI TO .ellipsis := za
  refine wpAny_bind ?_
  simp only [List.zipIdx_cons, List.zipIdx_nil, List.forIn_cons, List.forIn_nil]
  refine wpAny_bind (wpAny_bind (wpAny_onRaise ?_))
  show wpAny _ _ (Builtin.SmallTypes.nextOf (.ref i1) >>= _) _ _ _
  cases hx : xs[k1]? with
  | none =>
    refine wpAny_bind (lastK hn (g1.ext sa.extBut D.i1z) (f1.ext sa.extBut D.l1z) hx fun hb e sb st => ?_)
    have zb : IsZip hb z TI TO .ellipsis := sb _ _ D.i1z.symm za
    refine wpAny_setField_rec zb (by simp) fun hc _ sc => hE hc e (fun c o c1 _ c3 _ q => sc.extBut _ _ c1 (sb _ _ c3 (sa.extBut _ _ c1 q))) (stop zb st sc).2
  | some x =>
    have hy : ys[k2]? = none := by
      rcases hend with h | h
      · rw [hx] at h; cases h
      · exact h
    refine wpAny_bind (nextK (g1.ext sa.extBut D.i1z) (f1.ext sa.extBut D.l1z) hx fun hb g1b sb => wpAny_pure ?_)
    have Tb : IsPair hb TO a b := sb.extBut _ _ D.TOi1 (sa.extBut _ _ D.TOz hTO)
    refine wpAny_bind (wpAny_seqItems Tb rfl (wpAny_bind (wpAny_updateSeq_pair Tb fun hc Tc sc => ?_)))
    refine wpAny_bind (wpAny_letGo (wpAny_pure (wpAny_bind (wpAny_bind (wpAny_onRaise ?_)))))
    show wpAny _ _ (Builtin.SmallTypes.nextOf (.ref i2) >>= _) _ _ _
    refine wpAny_bind (lastK hn (((g2.ext sa.extBut D.i2z).ext sb.extBut D.i12.symm).ext sc.extBut D.TOi2.symm)
      (((f2.ext sa.extBut D.l2z).ext sb.extBut D.l2i1).ext sc.extBut D.l2TO) hy fun hd e sd st => ?_)
    have zd : IsZip hd z TI TO .ellipsis := sd _ _ D.i2z.symm (sc.extBut _ _ D.TOz.symm (sb.extBut _ _ D.i1z.symm (show IsZip ha z TI TO .ellipsis from za)))
    refine wpAny_setField_rec zd (by simp) fun he _ se => hE he e (fun c o c1 c2 c3 c4 q => se.extBut _ _ c1 (sd _ _ c4 (sc.extBut _ _ c2 (sb.extBut _ _ c3 (sa.extBut _ _ c1 q))))) (stop zd st se).2
theorem nextZ_item {x y a b : Value} {Q : Option Value → Shared → Prop} (D : ZipApart z TI TO i1 i2 l1 l2)
    (hz : IsZip s.heap z TI TO .none) (hTI : IsPair s.heap TI (.ref i1) (.ref i2)) (hTO : IsPair s.heap TO a b)
    (g1 : itk b1 s.heap i1 l1 k1) (g2 : itk b2 s.heap i2 l2 k2) (f1 : sqk b1 s.heap l1 xs) (f2 : sqk b2 s.heap l2 ys) (hx : xs[k1]? = some x) (hy : ys[k2]? = some y)
    (hQ : ∀ h', IsZip h' z TI TO (rawInt s.heap.objs.size) → IsPair h' TO x y → itk b1 h' i1 l1 (k1 + 1) → itk b2 h' i2 l2 (k2 + 1) → IsPair h' s.heap.objs.size x y → h'.objs.size = s.heap.objs.size + 1 →
      (∀ c o, c ≠ z → c ≠ TO → c ≠ i1 → c ≠ i2 → s.heap.get? c = some o → h'.get? c = some o) → Q (some (.ref s.heap.objs.size)) { s with heap := h' }) :
    wpAny (model prog w) A (pyNext (.ref z)) Q E s := by
  have hT : s.TypeIs (.ref z) "zip" := ⟨_, hz, rfl⟩
  unfold pyNext
  exact wpAny_bind (wpAny_attempt (wpAny_callSpecial?_slot (name := Str.ofString "__next__") hT F.slot_zip_next (wpAny_call_entry F.slot_zip_next hT F.entry_zip_next
    (zipK_item D hz hTI hTO g1 g2 f1 f2 hx hy fun h' q1 q2 q3 q4 q5 q6 q7 => wpAny_pure (hQ h' q1 q2 q3 q4 q5 q6 q7)) (F.args_zip_next_1 _))))
theorem nextZ_end {a b : Value} {Q : Option Value → Shared → Prop} (hn : A.handled = none) (D : ZipApart z TI TO i1 i2 l1 l2)
    (hz : IsZip s.heap z TI TO .none) (hTI : IsPair s.heap TI (.ref i1) (.ref i2)) (hTO : IsPair s.heap TO a b)
    (g1 : itk b1 s.heap i1 l1 k1) (g2 : itk b2 s.heap i2 l2 k2) (f1 : sqk b1 s.heap l1 xs) (f2 : sqk b2 s.heap l2 ys) (hend : xs[k1]? = none ∨ ys[k2]? = none)
    (hQ : ∀ h', (∀ c o, c ≠ z → c ≠ TO → c ≠ i1 → c ≠ i2 → s.heap.get? c = some o → h'.get? c = some o) → Q none { s with heap := h' }) : wpAny (model prog w) A (pyNext (.ref z)) Q E s := by
  have hT : s.TypeIs (.ref z) "zip" := ⟨_, hz, rfl⟩
  unfold pyNext
  refine wpAny_bind (wpAny_attempt (wpAny_callSpecial?_slot (name := Str.ofString "__next__") hT F.slot_zip_next
    (wpAny_call_entry F.slot_zip_next hT F.entry_zip_next (zipK_end hn D hz hTI hTO g1 g2 f1 f2 hend fun h' e k st => ?_) (F.args_zip_next_1 _))))
  exact wpAny_bind (wpAny_isInstance (T := "StopIteration") (b := true) st isSubtype_stop (wpAny_pure (hQ _ k)))
end
/-! making one -/
abbrev zH1 (b : Bool) (h : Heap) (l : Addr) : Heap := h.push { cls := .type (itName b), data := .fields #[.ref l, .int 0 0] }
abbrev zH2 (b c : Bool) (h : Heap) (l m : Addr) : Heap := zH1 c (zH1 b h l) m
abbrev zH3 (b c : Bool) (h : Heap) (l m : Addr) : Heap := (zH2 b c h l m).push { cls := .type "tuple", data := .seq #[.ref h.objs.size, .ref (zH1 b h l).objs.size] }
abbrev zH4 (b c : Bool) (h : Heap) (l m : Addr) : Heap := (zH3 b c h l m).push { cls := .type "tuple", data := .seq #[.none, .none] }
abbrev zH5 (b c : Bool) (h : Heap) (l m : Addr) : Heap := (zH4 b c h l m).push { cls := .type "zip", data := .fields #[.none, .bool false, .bool false, .ref (zH2 b c h l m).objs.size, .ref (zH3 b c h l m).objs.size] }
theorem sqk.push {b : Bool} {h : Heap} {a : Addr} {xs : Array Value} (x : sqk b h a xs) (o : Obj) : sqk b (h.push o) a xs := by
  cases b
  · exact Heap.IsTuple.push x o
  · exact Heap.IsList.push x o
theorem meets_zipK (b c : Bool) (l m : Addr) (xs ys : Array Value) :
    Meets (Builtin.«zip.__new__» ⟨[.type "zip", .ref l, .ref m], []⟩) (fun _ R s => sqk b s.heap l xs ∧ sqk c s.heap m ys ∧
      R (.ok (.ret (.ref (zH4 b c s.heap l m).objs.size))) { s with heap := zH5 b c s.heap l m }) :=
  .of_wp fun prog w A R s h => by
    obtain ⟨hp, g, d, tk, os⟩ := s; obtain ⟨f1, f2, h⟩ := h
    have hsub := sub_zip
    have F1 : sqk b (Shared.heap ⟨hp, g, d, tk, os⟩) l xs := f1
    have F2 : sqk c (Shared.heap ⟨hp.push { cls := .type (itName b), data := .fields #[.ref l, .int 0 0] }, g, d, tk, os⟩) m ys := sqk.push f2 _
    wp_walk using iterK F1, iterK F2
    exact ⟨_, rfl, h⟩
section
variable {prog : Program} {w : World} {A : Around} {E : Value → Shared → Prop} {s : Shared}
theorem call_zipK {b c : Bool} {l m : Addr} {xs ys : Array Value} {Q : Value → Shared → Prop} (f1 : sqk b s.heap l xs) (f2 : sqk c s.heap m ys)
    (h : ∀ h', IsZip h' (s.heap.objs.size + 4) (s.heap.objs.size + 2) (s.heap.objs.size + 3) .none → IsPair h' (s.heap.objs.size + 2) (.ref s.heap.objs.size) (.ref (s.heap.objs.size + 1)) →
      IsPair h' (s.heap.objs.size + 3) .none .none → itk b h' s.heap.objs.size l 0 → itk c h' (s.heap.objs.size + 1) m 0 →
      (∀ a o, s.heap.get? a = some o → h'.get? a = some o) → Q (.ref (s.heap.objs.size + 4)) { s with heap := h' }) :
    wpAny (model prog w) A (call (.type "zip") [.ref l, .ref m]) Q E s := by
  refine callType_new F.called_zip (by decide) (F.typeCall_zip_2 _ _) (F.newCall_zip_2 _ _) (fun obj => F.args_object_init_3 obj _ _) F.entry_zip_new (meets_zipK b c l m xs ys) ⟨f1, f2, ?_⟩
  have z1 : (zH1 b s.heap l).objs.size = s.heap.objs.size + 1 := Heap.size_push ..
  have z2 : (zH2 b c s.heap l m).objs.size = s.heap.objs.size + 2 := by rw [Heap.size_push, z1]
  have z3 : (zH3 b c s.heap l m).objs.size = s.heap.objs.size + 3 := by rw [Heap.size_push, z2]
  have z4 : (zH4 b c s.heap l m).objs.size = s.heap.objs.size + 4 := by rw [Heap.size_push, z3]
  have p5 : ∀ {a o}, (zH4 b c s.heap l m).get? a = some o → (zH5 b c s.heap l m).get? a = some o := fun e => Heap.get?_push_of_some _ e
  have p4 : ∀ {a o}, (zH3 b c s.heap l m).get? a = some o → (zH5 b c s.heap l m).get? a = some o := fun e => p5 (Heap.get?_push_of_some _ e)
  have p3 : ∀ {a o}, (zH2 b c s.heap l m).get? a = some o → (zH5 b c s.heap l m).get? a = some o := fun e => p4 (Heap.get?_push_of_some _ e)
  have p2 : ∀ {a o}, (zH1 b s.heap l).get? a = some o → (zH5 b c s.heap l m).get? a = some o := fun e => p3 (Heap.get?_push_of_some _ e)
  have p1 : ∀ {a o}, s.heap.get? a = some o → (zH5 b c s.heap l m).get? a = some o := fun e => p2 (Heap.get?_push_of_some _ e)
  have q5 : (zH5 b c s.heap l m).get? (zH4 b c s.heap l m).objs.size = some _ := Heap.get?_push_size _ rfl
  have q4 : (zH5 b c s.heap l m).get? (zH3 b c s.heap l m).objs.size = some _ := p5 (Heap.get?_push_size _ rfl)
  have q3 : (zH5 b c s.heap l m).get? (zH2 b c s.heap l m).objs.size = some _ := p4 (Heap.get?_push_size _ rfl)
  have q2 : (zH5 b c s.heap l m).get? (zH1 b s.heap l).objs.size = some _ := p3 (Heap.get?_push_size _ rfl)
  have q1 : (zH5 b c s.heap l m).get? s.heap.objs.size = some _ := p2 (Heap.get?_push_size _ rfl)
  show _ ∧ _
  rw [z2, z3, z4] at q5
  rw [z1, z2] at q3
  rw [z3] at q4
  rw [z1] at q2
  rw [z4]
  refine ⟨⟨_, q5, rfl⟩, h _ q5 q3 q4 ?_ ?_ fun _ _ e => p1 e⟩
  · cases b <;> exact ⟨_, q1, rfl, rfl⟩
  · cases c <;> exact ⟨_, q2, rfl, rfl⟩
end
/-! the walked thing -/
def sqv : Bool → PySem.W.Frag → Hp → Addr → List V → Prop
  | true => SqL
  | false => SqT
theorem sqv.is {X : Cx} {pins : List (Addr × Obj)} {σ : L2.St} {H : Hp} {s : Shared} (I : Inv X pins σ H s) {b : Bool} {a : Addr} {xs : List V} (h : sqv b X.K H a xs) :
    ∃ its, Vals xs its ∧ sqk b s.heap a its.toArray ∧ a < s.heap.objs.size := by
  cases b
  · obtain ⟨its, rv, p, _⟩ := I.tuple h
    obtain ⟨o, ho, _⟩ := id p
    exact ⟨its, rv, p, Heap.lt_size ho⟩
  · obtain ⟨its, rv, p, _⟩ := I.list h
    exact ⟨its, rv, p.isList, p.lt⟩
theorem sqv.inj {X : Cx} {pins : List (Addr × Obj)} {σ : L2.St} {H : Hp} {s : Shared} (I : Inv X pins σ H s) {b : Bool} {a : Addr} {xs ys : List V} (h : sqv b X.K H a xs) (k : sqv b X.K H a ys) : xs = ys := by
  cases b
  · exact I.tuple_inj h k
  · exact I.list_inj h k
def ItzK (b c : Bool) (K : PySem.W.Frag) (l m : Addr) : It :=
  ⟨fun i H => ∃ (xs ys : List V) (x y : V), sqv b K H l xs ∧ sqv c K H m ys ∧ xs[i]? = some x ∧ ys[i]? = some y,
    fun i H v H' => ∃ T x y, v = .ref T ∧ H T = none ∧ H' = upd H T (.tup [x, y]) ∧ (∀ xs, sqv b K H l xs → xs[i]? = some x) ∧ ∀ ys, sqv c K H m ys → ys[i]? = some y,
    fun i H => ∃ xs ys : List V, sqv b K H l xs ∧ sqv c K H m ys ∧ (xs.length ≤ i ∨ ys.length ≤ i)⟩
theorem five {P : Addr → Prop} {a b c d e : Addr} (h1 : P a) (h2 : P b) (h3 : P c) (h4 : P d) (h5 : P e) : ∀ x ∈ [a, b, c, d, e], P x := by
  intro x hx
  simp only [List.mem_cons, List.not_mem_nil, or_false] at hx
  rcases hx with q | q | q | q | q <;> (rw [q]; assumption)
theorem turn_zipK {P : Program} {w : World} {K : PySem.W.Frag} {elts : List Expr} {kk : Nat} {tpos : Pos} {b c : Bool} {l m z TI TO i1 i2 : Addr} (D : ZipApart z TI TO i1 i2 l m) :
    Turn P w K (.Tuple elts kk tpos) (ItzK b c K l m) [z, TI, TO, i1, i2] z (fun i h => IsZip h z TI TO .none ∧ IsPair h TI (.ref i1) (.ref i2) ∧ (∃ x y, IsPair h TO x y) ∧ itk b h i1 l i ∧ itk c h i2 m i) where
  mem := by simp
  obj := fun i h st => by
    obtain ⟨hz, hTI, ⟨x, y, hTO⟩, g1, g2⟩ := st
    obtain ⟨o1, e1, _, d1⟩ := g1.obj
    obtain ⟨o2, e2, _, d2⟩ := g2.obj
    exact five ⟨_, hz, fun v q => nomatch q⟩ ⟨_, hTI, fun v q => nomatch q⟩ ⟨_, hTO, fun v q => nomatch q⟩ ⟨o1, e1, fun v q => by rw [d1] at q; cases q⟩ ⟨o2, e2, fun v q => by rw [d2] at q; cases q⟩
  keep := fun i h h' st k => by
    obtain ⟨hz, hTI, ⟨x, y, hTO⟩, h1, h2⟩ := st
    exact ⟨k z (by simp) _ hz, k TI (by simp) _ hTI, ⟨x, y, k TO (by simp) _ hTO⟩, h1.to fun o q => k i1 (by simp) o q, h2.to fun o q => k i2 (by simp) o q⟩
  item := by
    intro X hP hw hK hc i pins s σ H E I hf st hg
    subst hP hw hK
    obtain ⟨hz, hTI, ⟨x0, y0, hTO⟩, h1, h2⟩ := st
    obtain ⟨xs, ys, x, y, hqx, hqy, hx, hy⟩ := hg
    obtain ⟨its, rv, p, _⟩ := hqx.is I
    obtain ⟨its2, rv2, p2, _⟩ := hqy.is I
    obtain ⟨u, hu, ru⟩ := rv.get hx
    obtain ⟨u2, hu2, ru2⟩ := rv2.get hy
    have hzl : z < s.heap.objs.size := Heap.lt_size hz
    have out : ∀ {q : Addr}, q ∉ [z, TI, TO, i1, i2] → q ≠ z ∧ q ≠ TO ∧ q ≠ i1 ∧ q ≠ i2 := fun hb => ⟨fun q => hb (by simp [q]), fun q => hb (by simp [q]), fun q => hb (by simp [q]), fun q => hb (by simp [q])⟩
    refine nextZ_item D hz hTI hTO h1 h2 p p2 (x := u) (y := u2) (by simpa using hu) (by simpa using hu2) fun h' z' TO' h1' h2' hT hsz hk => ?_
    refine ⟨_, rfl, wpAny_letOwnedTupleGo_zip (s := { s with heap := h' }) z' fun h'' z'' sb => ?_⟩
    have hT2 : h''.get? s.heap.objs.size = some { cls := .type "tuple", data := .seq #[u, u2] } := (sb.2 _ (Nat.ne_of_gt hzl)).trans hT
    have new : ObjOk X.prog X.w (upd H s.heap.objs.size (.tup [x, y])) h'' s.heap.objs.size (.tup [x, y]) :=
      ⟨by show 2 ≤ sizeLine; decide, [u, u2], .cons ru (.cons ru2 .nil), ⟨_, hT2, rfl, _, rfl⟩⟩
    have I1 : Inv X pins σ (upd H s.heap.objs.size (.tup [x, y])) { s with heap := h'' } :=
      I.turnedNew (t' := s.toks) (ch := [z, TI, TO, i1, i2]) (fun q o hb e => (sb.2 q (out hb).1).trans (hk q o (out hb).1 (out hb).2.1 (out hb).2.2.1 (out hb).2.2.2 e)) hf (Nat.le_refl _) new
    refine ⟨.ref s.heap.objs.size, _, I1, rfl, ⟨_, x, y, rfl, I.hok.fresh (Nat.le_refl _), rfl, fun l hl => by rw [sqv.inj I hl hqx]; exact hx, fun l hl => by rw [sqv.inj I hl hqy]; exact hy⟩, ⟨z'', ?_, ⟨u, u2, ?_⟩, ?_, ?_⟩, fun q hq => ?_⟩
    · exact (sb.2 _ D.TIz).trans (hk _ _ D.TIz D.TITO D.TIi1 D.TIi2 hTI)
    · exact (sb.2 _ D.TOz).trans TO'
    · exact h1'.to fun o q => (sb.2 _ D.i1z).trans q
    · exact h2'.to fun o q => (sb.2 _ D.i2z).trans q
    · obtain ⟨o1, e1, _⟩ := h1.obj
      obtain ⟨o2, e2, _⟩ := h2.obj
      have hlt : q < s.heap.objs.size := five (P := fun q => q < s.heap.objs.size) hzl (Heap.lt_size hTI) (Heap.lt_size hTO) (Heap.lt_size e1) (Heap.lt_size e2) q hq
      rw [upd_ne (Nat.ne_of_lt hlt)]
      exact (hf q hq).1
  done := by
    intro X hP hw hK hc i pins s σ H E I hf st hg
    subst hP hw hK
    obtain ⟨hz, hTI, ⟨x0, y0, hTO⟩, h1, h2⟩ := st
    obtain ⟨xs, ys, hqx, hqy, hend⟩ := hg
    obtain ⟨its, rv, p, _⟩ := hqx.is I
    obtain ⟨its2, rv2, p2, _⟩ := hqy.is I
    have l1 := rv.length
    have l2 := rv2.length
    have out : ∀ {q : Addr}, q ∉ [z, TI, TO, i1, i2] → q ≠ z ∧ q ≠ TO ∧ q ≠ i1 ∧ q ≠ i2 := fun hb => ⟨fun q => hb (by simp [q]), fun q => hb (by simp [q]), fun q => hb (by simp [q]), fun q => hb (by simp [q])⟩
    have he : its.toArray[i]? = none ∨ its2.toArray[i]? = none := by
      rcases hend with q | q
      · exact .inl (by simp; omega)
      · exact .inr (by simp; omega)
    exact nextZ_end (I.ok.hd hc) D hz hTI hTO h1 h2 p p2 he fun h' hk => ⟨rfl, I.turnedL (t' := s.toks) (ch := [z, TI, TO, i1, i2]) (fun q o hb e => hk q o (out hb).1 (out hb).2.1 (out hb).2.2.1 (out hb).2.2.2 e) hf⟩
  self := fun A i s Q E st h => wpAny_pyIter_zip st.1 h
def iZipK (K : PySem.W.Frag) (ta : TA) : TI := fun σ H R => ta σ H fun vs H1 => ∃ (b c : Bool) (l m : Addr) (xs ys : List V), vs = [.ref l, .ref m] ∧ sqv b K H1 l xs ∧ sqv c K H1 m ys ∧ R (ItzK b c K l m) H1
theorem pi_zipK {X : Cx} {e e2 : Expr} {ta : TA} {p pos tpos : Pos} {elts : List Expr} {kk : Nat} (hg : Gl X "zip") (hm : X.mg "zip" = none) (ha : PA X [e, e2] ta)
    (hs : starEach [e, e2] X.env = (false, eval e X.env) :: starEach [e2] X.env := by rfl) (hpl : (backTo pos (starEach [e2] X.env)).any (·.1) = false := by rfl) :
    PI X (.Tuple elts kk tpos) (.Call (.Name "zip" p) [e, e2] [] pos) (iZipK X.K ta) := by
  refine ⟨fun pins s σ H R I h => ?_⟩
  refine Call_ (ld_blt I hg hm PyProof.Rows.boot_zip (PyProof.Rows.callWith_type1 (thn (ha.run pos pins s σ H _ I h) fun us s1 ⟨vs, H1, I1, r1, q1⟩ => ?_) hs hpl))
  obtain ⟨b, c, l, m, xs, ys, ex, hqx, hqy, q⟩ := q1
  subst ex
  cases r1 with
  | cons r rr =>
    cases rr with
    | cons r' rr =>
      cases rr
      cases r
      cases r'
      obtain ⟨its, rv, p1, lt1⟩ := hqx.is I1
      obtain ⟨its2, rv2, p2, lt2⟩ := hqy.is I1
      have fr : ∀ k, FpOk X pins H1 (s1.heap.objs.size + k) := fun k => I1.fpOk (Nat.le_add_right _ _) (I1.hok.fresh (Nat.le_add_right _ _))
      refine call_zipK p1 p2 fun h' hz hTI hTO h1 h2 hk => wpAny_pyIter_zip hz ?_
      have I2 : Inv X pins σ H1 { s1 with heap := h' } := I1.kept (t' := s1.toks) hk
      exact ⟨s1.heap.objs.size + 4, [s1.heap.objs.size + 4, s1.heap.objs.size + 2, s1.heap.objs.size + 3, s1.heap.objs.size, s1.heap.objs.size + 1], _, _, H1, rfl, I2, turn_zipK (PySem.W.ktu_apart s1.heap.objs.size l m lt1 lt2), ⟨hz, hTI, ⟨_, _, hTO⟩, h1, h2⟩,
        five (fr 4) (fr 2) (fr 3) (fr 0) (fr 1), q⟩
section
variable {X : Cx} {a b e e2 : Expr} {ρ : RO} {μ : List MO} {p pos tpos : Pos} {elts : List Expr} {kk : Nat} {Ra : Ca} {fs : DenA}
/-- the items of a sequence -/
def sqD : DV → Option (Bool × List DV)
  | .lst xs => some (true, xs)
  | .tup xs => some (false, xs)
  | _ => none
theorem sqv_of {w : Wd} {v : V} {d : DV} {k : Bool} {ds : List DV} (h : Has w v d) (e : sqD d = some (k, ds)) : ∃ a vs, v = .ref a ∧ sqv k w.K w.H a vs ∧ HasL w vs ds := by
  cases d with
  | lst xs => cases e; exact sqL_of h
  | tup xs => cases e; exact sqT_of h
  | _ => cases e
theorem EvI.zipK (hg : Gl X "zip") (hm : X.mg "zip" = none) (h : EvA X [e, e2] ρ μ fun ds μ1 => ∃ d d' k k' xs ys, ds = [d, d'] ∧ sqD d = some (k, xs) ∧ sqD d' = some (k', ys) ∧ Ra (zipD xs ys) μ1)
    (hs : starEach [e, e2] X.env = (false, eval e X.env) :: starEach [e2] X.env := by rfl) (hpl : (backTo pos (starEach [e2] X.env)).any (·.1) = false := by rfl) : EvI X (.Tuple elts kk tpos) (.Call (.Name "zip" p) [e, e2] [] pos) ρ μ Ra :=
  PIw (pi_zipK hg hm pa_a hs hpl) fun σ H Q ⟨α, E, q⟩ => ⟨_, h, α, E, fun vs ds α1 μ1 H1 ⟨d, d', k, k', xs, ys, e, f, f', r⟩ E1 X1 hv => by
    subst e
    obtain ⟨v, u, rfl, h1, h2⟩ := hasL2 hv
    obtain ⟨a, vs1, rfl, s1, t1⟩ := sqv_of h1 f
    obtain ⟨b, vs2, rfl, s2, t2⟩ := sqv_of h2 f'
    refine ⟨k, k', a, b, vs1, vs2, rfl, s1, s2, q _ _ α1 μ1 H1 r E1 X1 fun α2 μ2 H2 kp l => ?_⟩
    obtain ⟨a', ws1, ea, r1, m1⟩ := sqv_of (kp.has h1) f
    obtain ⟨b', ws2, eb, r2, m2⟩ := sqv_of (kp.has h2) f'
    cases ea
    cases eb
    refine ⟨fun i d hd => ?_, ⟨ws1, ws2, r1, r2, ?_⟩⟩
    · obtain ⟨x, y, e1, e2, rfl⟩ := zipD_at hd
      obtain ⟨x1, f1, g1⟩ := m1.get e1
      obtain ⟨y1, f2, g2⟩ := m2.get e2
      refine ⟨⟨ws1, ws2, x1, y1, r1, r2, f1, f2⟩, ?_⟩
      rintro z H' ⟨T, x2, y2, rfl, nT, rfl, c1, c2⟩
      have q1 := c1 ws1 r1
      have q2 := c2 ws2 r2
      rw [f1] at q1
      rw [f2] at q2
      cases q1
      cases q2
      obtain ⟨k2, l2⟩ := l.lay (o := .tup [x1, y1]) nT
      exact ⟨k2, l2, .tup (.of upd_same) (.cons (k2.has g1) (.cons (k2.has g2) .nil))⟩
    · rw [zipD_len, m1.length, m2.length]
      omega⟩
def iZipX (fs : DenA) : DenA := fun ρ μ => bnd (fs ρ μ) fun ds μ1 => match ds with
  | [d, d'] => match sqD d, sqD d' with
    | some (_, xs), some (_, ys) => some (zipD xs ys, μ1)
    | _, _ => none
  | _ => none
theorem SI.zipX (hg : Gl X "zip") (hm : X.mg "zip" = none) (ss : SAr X [a, b] fs)
    (hs : starEach [a, b] X.env = (false, eval a X.env) :: starEach [b] X.env := by rfl) (hpl : (backTo pos (starEach [b] X.env)).any (·.1) = false := by rfl) : SI X (.Tuple elts kk tpos) (.Call (.Name "zip" p) [a, b] [] pos) (iZipX fs) := fun ρ μ R k => by
  obtain ⟨ds, μ1, e1, k⟩ := okA_bndA k
  split at k
  · split at k
    · rename_i d d' _ _ _ _ h1 h2
      exact EvI.zipK hg hm (ss.at e1 ⟨_, _, _, _, _, _, rfl, h1, h2, k⟩) hs hpl
    · exact k.elim
  · exact k.elim
end
end Eg

namespace Eg
open PySem PySem.Spec PyProof.Rows L2
/-! ### for i, x in enumerate(xs), xs a list that may change but does not while the loop goes on -/
def ItOkM (X : Cx) (J : It) (k : Nat) (xs ds : List DV) (w : Wd) : Prop := ∀ α μ H, Kp w ⟨X.K, α, μ, H⟩ → Live ⟨X.K, α, μ, H⟩ → μ[k]? = some (.lst xs) →
  (∀ i d, ds[i]? = some d → J.go i H ∧ ∀ x H', J.yld i H x H' → Kp ⟨X.K, α, μ, H⟩ ⟨X.K, α, μ, H'⟩ ∧ Live ⟨X.K, α, μ, H'⟩ ∧ Has ⟨X.K, α, μ, H'⟩ x d) ∧ J.stop ds.length H
abbrev Cm := Nat → List DV → List DV → List MO → Prop
def tEvIM (X : Cx) (ρ : RO) (μ : List MO) (R : Cm) : TI := fun σ H Rr => ∃ α, En ⟨X.K, α, μ, H⟩ σ ρ ∧ ∀ J k xs ds α' μ' H', R k xs ds μ' → En ⟨X.K, α', μ', H'⟩ σ ρ → Kp ⟨X.K, α, μ, H⟩ ⟨X.K, α', μ', H'⟩ → ItOkM X J k xs ds ⟨X.K, α', μ', H'⟩ → Rr J H'
def EvIM (X : Cx) (tg e : Expr) (ρ : RO) (μ : List MO) (R : Cm) : Prop := PI X tg e (tEvIM X ρ μ R)
section
variable {X : Cx} {e : Expr} {fs : DenA} {ρ : RO} {μ : List MO} {p pos tpos : Pos} {elts : List Expr} {kk : Nat} {Rm : Cm} {R : Co}
theorem EvIM.enm (hg : Gl X "enumerate") (hm : X.mg "enumerate" = none) (h : EvA X [e] ρ μ fun ds μ1 => ∃ k xs, ds = [.mu k] ∧ μ1[k]? = some (.lst xs) ∧ Rm k xs (cntD 0 xs) μ1) (hs : starEach [e] X.env = [(false, eval e X.env)] := by rfl) :
    EvIM X (.Tuple elts kk tpos) (.Call (.Name "enumerate" p) [e] [] pos) ρ μ Rm :=
  PIw (pi_enum hg hm pa_a hs) fun σ H Q ⟨α, E, q⟩ => ⟨_, h, α, E, fun vs ds α1 μ1 H1 ⟨k, xs, e1, hk, r⟩ E1 X1 hv => by
    subst e1
    obtain ⟨v, rfl, hv'⟩ := hasL1 hv
    cases hv' with
    | @mu _ a ha =>
      obtain ⟨ws, z1, t1⟩ := E1.live.ob _ _ _ ha hk
      refine ⟨a, ws, rfl, .inl (.inl z1), q _ _ _ _ α1 μ1 H1 r E1 X1 fun α3 μ3 H3 kp l hk3 => ?_⟩
      obtain ⟨ws', z3, t3⟩ := l.ob _ _ _ (kp.α _ _ ha) hk3
      have s3 : SqL X.K H3 a ws' := .inl (.inl z3)
      refine ⟨fun i d hd => ?_, ⟨ws', s3, by rw [cntD_len, t3.length]; exact Nat.le_refl _⟩⟩
      obtain ⟨x, f1, rfl⟩ := cntD_at _ _ _ _ hd
      obtain ⟨y, g1, g2⟩ := t3.get f1
      refine ⟨⟨ws', y, s3, g1⟩, ?_⟩
      rintro z H' ⟨T, y2, rfl, nT, rfl, c1⟩
      have q1 := c1 ws' s3
      rw [g1] at q1
      cases q1
      obtain ⟨k2, l2⟩ := l.lay (o := .tup [.int (i : Nat), y]) nT
      rw [show (0 : Int) + (i : Int) = (i : Int) by omega]
      exact ⟨k2, l2, .tup (.of upd_same) (.cons .int (.cons (k2.has g2) .nil))⟩⟩
theorem St.forM {tg : Expr} {body : List Stmt} (hp : PassesOwn (model X.prog X.w) X.A X.env X.xe) (hc : X.calm = true)
    (h : EvIM X tg e ρ μ fun k xs ds μ1 => ∃ I : Nat → RO → List MO → Prop, I 0 ρ μ1 ∧ (∀ i ρ' μ', I i ρ' μ' → μ'[k]? = some (.lst xs)) ∧
      (∀ i d ρ' μ', ds[i]? = some d → I i ρ' μ' → EvG X tg d ρ' μ' fun ρ2 μ2 => Sts X body ρ2 μ2 fun o => match o with
        | .nx ρ3 μ3 => I (i + 1) ρ3 μ3
        | .ct ρ3 μ3 => I (i + 1) ρ3 μ3
        | .bk ρ3 μ3 => R (.nx ρ3 μ3)
        | .rt d μ3 => R (.rt d μ3)) ∧
      ∀ ρ' μ', I ds.length ρ' μ' → R (.nx ρ' μ')) (hs : ∀ x, foldedSetIterable e X.env x = pure x := by intro _; rfl) : St X (.For tg e body [] pos) ρ μ R :=
  PSw (ps_for hp hc pi_a pg_a pss_a hs) fun D σ H ⟨α, E, q⟩ => ⟨_, h, α, E, fun J k xs ds α1 μ1 H1 ⟨I, i0, same, turn, fin⟩ E1 X1 ok => by
    let P : Nat → L2.St → Hp → Prop := fun i σ H => ∃ α μ ρ, I i ρ μ ∧ En ⟨X.K, α, μ, H⟩ σ ρ ∧ Kp ⟨X.K, α1, μ1, H1⟩ ⟨X.K, α, μ, H⟩
    refine ⟨fun i m σ H => m = ds.length - i ∧ i ≤ ds.length ∧ P i σ H, ⟨ds.length, by simp, Nat.zero_le _, α1, μ1, ρ, i0, E1, E1.live.refl⟩, ?_⟩
    rintro i m σ2 H2 ⟨rfl, hi, α2, μ2, ρ2, hI, E2, X2⟩
    obtain ⟨go, stop⟩ := ok α2 μ2 H2 X2 E2.live (same i ρ2 μ2 hI)
    by_cases hlt : i < ds.length
    · obtain ⟨g1, g2⟩ := go i ds[i] (by simp [hlt])
      refine .inr ⟨g1, P (i + 1), fun σ' H' p' => ⟨ds.length - (i + 1), by omega, rfl, hlt, p'⟩, fun x H' y => ?_⟩
      obtain ⟨k, l, hx⟩ := g2 x H' y
      have X2' := X2.trans k
      refine ⟨_, turn i ds[i] ρ2 μ2 (by simp [hlt]) hI, α2, E2.ext k l, hx, fun ρ3 σ3 α3 μ3 H3 r3 E3 X3 => ⟨_, r3, ?_⟩⟩
      have X3' := X2'.trans X3
      refine ⟨α3, E3, fun ρ4 σ4 α4 μ4 H4 r4 E4 X4 => ⟨α4, μ4, ρ4, r4, E4, X3'.trans X4⟩, fun v d α4 μ4 H4 r4 l4 X4 hv => q.2.1 v d α4 μ4 H4 r4 l4 (X1.trans (X3'.trans X4)) hv,
        fun ρ4 σ4 α4 μ4 H4 r4 E4 X4 => q.1 ρ4 σ4 α4 μ4 H4 r4 E4 (X1.trans (X3'.trans X4)), fun ρ4 σ4 α4 μ4 H4 r4 E4 X4 => ⟨α4, μ4, ρ4, r4, E4, X3'.trans X4⟩⟩
    · have e : i = ds.length := by omega
      subst e
      exact .inl ⟨stop, q.1 ρ2 σ2 α2 μ2 H2 (fin ρ2 μ2 hI) E2 (X1.trans X2)⟩⟩
open Classical in
noncomputable def forLM (k : Nat) (xs : List DV) (g : DenG) (body : DenS) : List DV → RO → List MO → Option Out
  | [], ρ, μ => if μ[k]? = some (.lst xs) then some (.nx ρ μ) else none
  | d :: ds, ρ, μ => if μ[k]? = some (.lst xs) then (match g d ρ μ with
    | none => none
    | some (ρ1, μ1) => match body ρ1 μ1 with
      | some (.nx ρ2 μ2) => forLM k xs g body ds ρ2 μ2
      | some (.ct ρ2 μ2) => forLM k xs g body ds ρ2 μ2
      | some (.bk ρ2 μ2) => some (.nx ρ2 μ2)
      | some (.rt d μ2) => some (.rt d μ2)
      | none => none) else none
theorem forLM_same {k : Nat} {xs : List DV} {g : DenG} {body : DenS} {ds : List DV} (h : okS (forLM k xs g body ds ρ μ) R) : μ[k]? = some (.lst xs) := by
  cases ds with
  | nil =>
    unfold forLM at h
    split at h
    · assumption
    · exact h.elim
  | cons d ds =>
    unfold forLM at h
    split at h
    · assumption
    · exact h.elim
noncomputable def sForE (fs : DenA) (g : DenG) (body : DenS) : DenS := fun ρ μ => bnd (fs ρ μ) fun ds μ1 => match ds with
  | [.mu k] => match μ1[k]? with
    | some (.lst xs) => forLM k xs g body (cntD 0 xs) ρ μ1
    | _ => none
  | [.lst xs] => forL g body (cntD 0 xs) ρ μ1
  | [.tup xs] => forL g body (cntD 0 xs) ρ μ1
  | _ => none
theorem for_turn {g : DenG} {fb : DenS} {tg : Expr} {body : List Stmt} (sg : SG X tg g) (sb : SS X body fb) {d : DV} {K : RO → List MO → Option Out} {ρ' : RO} {μ' : List MO}
    (hI : okS (match g d ρ' μ' with
    | none => none
    | some (ρ1, μ1) => match fb ρ1 μ1 with
      | some (.nx ρ2 μ2) => K ρ2 μ2
      | some (.ct ρ2 μ2) => K ρ2 μ2
      | some (.bk ρ2 μ2) => some (.nx ρ2 μ2)
      | some (.rt d μ2) => some (.rt d μ2)
      | none => none) R) : EvG X tg d ρ' μ' fun ρ2 μ2 => Sts X body ρ2 μ2 fun o => match o with
        | .nx ρ3 μ3 => okS (K ρ3 μ3) R
        | .ct ρ3 μ3 => okS (K ρ3 μ3) R
        | .bk ρ3 μ3 => R (.nx ρ3 μ3)
        | .rt d μ3 => R (.rt d μ3) := by
  cases hg : g d ρ' μ' with
  | none => rw [hg] at hI; exact hI.elim
  | some q =>
    obtain ⟨ρ1, μ1'⟩ := q
    rw [hg] at hI
    dsimp only at hI
    refine sg d ρ' μ' _ ?_
    rw [hg]
    refine sb ρ1 μ1' _ ?_
    cases hb : fb ρ1 μ1' with
    | none => rw [hb] at hI; exact hI.elim
    | some o =>
      rw [hb] at hI
      cases o <;> exact hI
theorem S1.forE {fpos : Pos} {body : List Stmt} {g : DenG} {fb : DenS} (hp : PassesOwn (model X.prog X.w) X.A X.env X.xe) (hc : X.calm = true) (hg : Gl X "enumerate") (hm : X.mg "enumerate" = none) (ss : SAr X [e] fs)
    (sg : SG X (.Tuple elts kk tpos) g) (sb : SS X body fb) (hs : starEach [e] X.env = [(false, eval e X.env)] := by rfl) (hs2 : ∀ x, foldedSetIterable (.Call (.Name "enumerate" p) [e] [] pos) X.env x = pure x := by intro _; rfl) :
    S1 X (.For (.Tuple elts kk tpos) (.Call (.Name "enumerate" p) [e] [] pos) body [] fpos) (sForE fs g fb) := fun ρ μ R h => by
  obtain ⟨ds, μ1, e1, h⟩ := okS_bndA h
  have plain : ∀ xs, okS (forL g fb (cntD 0 xs) ρ μ1) R → (ds = [.lst xs] ∨ ds = [.tup xs]) → St X (.For (.Tuple elts kk tpos) (.Call (.Name "enumerate" p) [e] [] pos) body [] fpos) ρ μ R := by
    intro xs h hd
    have key : EvI X (.Tuple elts kk tpos) (.Call (.Name "enumerate" p) [e] [] pos) ρ μ fun ds μ1 => okS (forL g fb ds ρ μ1) R := by
      rcases hd with rfl | rfl
      · exact EvI.enmL hg hm (ss.at e1 ⟨_, rfl, h⟩) hs
      · exact EvI.enmT hg hm (ss.at e1 ⟨_, rfl, h⟩) hs
    refine St.for_ hp hc (EvI.mono key fun ds μ1 h => ⟨fun i ρ' μ' => okS (forL g fb (ds.drop i) ρ' μ') R, h, ?_, ?_⟩) hs2
    · intro i d ρ' μ' hd hI
      rw [drop_cons hd] at hI
      unfold forL at hI
      exact for_turn sg sb hI
    · intro ρ' μ' hI
      rw [List.drop_length] at hI
      exact hI
  split at h
  · rename_i k
    split at h
    · rename_i xs hk
      refine St.forM hp hc (EvIM.enm hg hm (ss.at e1 ⟨k, xs, rfl, hk, fun i ρ' μ' => okS (forLM k xs g fb ((cntD 0 xs).drop i) ρ' μ') R, h, ?_, ?_, ?_⟩) hs) hs2
      · intro i ρ' μ' hI
        exact forLM_same hI
      · intro i d ρ' μ' hd hI
        rw [drop_cons hd] at hI
        have same := forLM_same hI
        unfold forLM at hI
        rw [if_pos same] at hI
        exact for_turn sg sb hI
      · intro ρ' μ' hI
        rw [List.drop_length] at hI
        have same := forLM_same hI
        unfold forLM at hI
        rw [if_pos same] at hI
        exact hI
    · exact h.elim
  · exact plain _ h (.inl rfl)
  · exact plain _ h (.inr rfl)
  · exact h.elim
/-- a walk that only goes on -/
theorem forLM_inv {k : Nat} {xs : List DV} {g : DenG} {body : DenS} {P : Nat → RO → List MO → Prop} (ds : List DV) (same : ∀ i ρ' μ', P i ρ' μ' → μ'[k]? = some (.lst xs)) (h0 : P 0 ρ μ)
    (turn : ∀ i d ρ' μ', ds[i]? = some d → P i ρ' μ' → ∃ ρ1 μ1 ρ2 μ2, g d ρ' μ' = some (ρ1, μ1) ∧ body ρ1 μ1 = some (.nx ρ2 μ2) ∧ P (i + 1) ρ2 μ2) :
    ∃ ρ2 μ2, forLM k xs g body ds ρ μ = some (.nx ρ2 μ2) ∧ P ds.length ρ2 μ2 := by
  have key : ∀ (m i : Nat) (ρ' : RO) (μ' : List MO), i + m = ds.length → P i ρ' μ' → ∃ ρ2 μ2, forLM k xs g body (ds.drop i) ρ' μ' = some (.nx ρ2 μ2) ∧ P ds.length ρ2 μ2 := by
    intro m
    induction m with
    | zero =>
      intro i ρ' μ' e h
      have e : i = ds.length := by omega
      subst e
      refine ⟨ρ', μ', ?_, h⟩
      rw [List.drop_length]
      unfold forLM
      rw [if_pos (same _ _ _ h)]
    | succ m ih =>
      intro i ρ' μ' e h
      have hl : i < ds.length := by omega
      obtain ⟨ρ1, μ1, ρ2, μ2, e1, e2, h2⟩ := turn i ds[i] ρ' μ' (by simp [hl]) h
      obtain ⟨ρ3, μ3, e3, h3⟩ := ih (i + 1) ρ2 μ2 (by omega) h2
      refine ⟨ρ3, μ3, ?_, h3⟩
      rw [drop_cons (d := ds[i]) (by simp [hl])]
      unfold forLM
      rw [if_pos (same _ _ _ h), e1]
      dsimp only
      rw [e2]
      exact e3
  exact key ds.length 0 ρ μ (by omega) h0
end
end Eg

namespace Lw
open PySem PySem.Spec L2
/-- what the top has left, by names -/
structure Fx (K : PySem.W.Frag) (mg : Str → Option Value) : Prop where
  glo : ∀ (i : Nat) {x : Str}, faL[i]? = some (.glo x) → mg x = some (.ref (He.ga K x))
  free : ∀ (i : Nat) {x : Str}, faL[i]? = some (.free x) → mg x = none
  fn : ∀ (i : Nat) {d : He.DefD}, fnL[i]? = some d → ∃ fd, FunD K d.name d.qual d.params d.body d.scope (d.dvs K) (d.kws K) (He.fAd K d.at_) fd
  str : ∀ (i : Nat) {x z : Str}, faL[i]? = some (.str x z) → ∃ t, mg x = some (.str z t)
  int : ∀ (i : Nat) {x : Str} {z : Int}, faL[i]? = some (.int x z) → ∃ t, mg x = some (.int z t)
  ex : exB K = true
theorem fx_of {K : PySem.W.Frag} {h : Heap} {mg : Str → Option Value} {w : World} (X : K.In h) (G : h.Ns mainGlobals mg) (c : He.SaysX faL fnL [] [] exB w h K) : Fx K mg where
  glo := fun i {x} e => He.glo_ok X G (c.t.d.fact i e)
  free := fun i {x} e => He.free_ok X G (c.t.d.fact i e)
  fn := fun i {d} e => c.t.d.def_ i e
  str := fun i {x z} e => He.str_ok X G (c.t.d.fact i e)
  int := fun i {x z} e => He.int_ok X G (c.t.d.fact i e)
  ex := c.more
theorem Fx.g_LookError {K : PySem.W.Frag} {mg : Str → Option Value} (T : Fx K mg) : mg "LookError" = some (.ref (He.ga K "LookError")) := T.glo 1 rfl
theorem Fx.g_InvalidNumber {K : PySem.W.Frag} {mg : Str → Option Value} (T : Fx K mg) : mg "InvalidNumber" = some (.ref (He.ga K "InvalidNumber")) := T.glo 2 rfl
theorem Fx.g_InvalidSize {K : PySem.W.Frag} {mg : Str → Option Value} (T : Fx K mg) : mg "InvalidSize" = some (.ref (He.ga K "InvalidSize")) := T.glo 3 rfl
theorem Fx.g_InvalidSlot {K : PySem.W.Frag} {mg : Str → Option Value} (T : Fx K mg) : mg "InvalidSlot" = some (.ref (He.ga K "InvalidSlot")) := T.glo 4 rfl
theorem Fx.g_InvalidDifferences {K : PySem.W.Frag} {mg : Str → Option Value} (T : Fx K mg) : mg "InvalidDifferences" = some (.ref (He.ga K "InvalidDifferences")) := T.glo 5 rfl
theorem Fx.g_InvalidValues {K : PySem.W.Frag} {mg : Str → Option Value} (T : Fx K mg) : mg "InvalidValues" = some (.ref (He.ga K "InvalidValues")) := T.glo 6 rfl
theorem Fx.g_is_whole {K : PySem.W.Frag} {mg : Str → Option Value} (T : Fx K mg) : mg "is_whole" = some (.ref (He.ga K "is_whole")) := T.glo 7 rfl
theorem Fx.g_is_index {K : PySem.W.Frag} {mg : Str → Option Value} (T : Fx K mg) : mg "is_index" = some (.ref (He.ga K "is_index")) := T.glo 8 rfl
theorem Fx.g_is_gaps {K : PySem.W.Frag} {mg : Str → Option Value} (T : Fx K mg) : mg "is_gaps" = some (.ref (He.ga K "is_gaps")) := T.glo 9 rfl
theorem Fx.g_is_gap_row {K : PySem.W.Frag} {mg : Str → Option Value} (T : Fx K mg) : mg "is_gap_row" = some (.ref (He.ga K "is_gap_row")) := T.glo 10 rfl
theorem Fx.g_is_above {K : PySem.W.Frag} {mg : Str → Option Value} (T : Fx K mg) : mg "is_above" = some (.ref (He.ga K "is_above")) := T.glo 11 rfl
theorem Fx.g_lesser {K : PySem.W.Frag} {mg : Str → Option Value} (T : Fx K mg) : mg "lesser" = some (.ref (He.ga K "lesser")) := T.glo 12 rfl
theorem Fx.g_greater {K : PySem.W.Frag} {mg : Str → Option Value} (T : Fx K mg) : mg "greater" = some (.ref (He.ga K "greater")) := T.glo 13 rfl
theorem Fx.g_gaps_hold {K : PySem.W.Frag} {mg : Str → Option Value} (T : Fx K mg) : mg "gaps_hold" = some (.ref (He.ga K "gaps_hold")) := T.glo 14 rfl
theorem Fx.g_row_by_way {K : PySem.W.Frag} {mg : Str → Option Value} (T : Fx K mg) : mg "row_by_way" = some (.ref (He.ga K "row_by_way")) := T.glo 15 rfl
theorem Fx.g_closing {K : PySem.W.Frag} {mg : Str → Option Value} (T : Fx K mg) : mg "closing" = some (.ref (He.ga K "closing")) := T.glo 16 rfl
theorem Fx.g_gaps_joined {K : PySem.W.Frag} {mg : Str → Option Value} (T : Fx K mg) : mg "gaps_joined" = some (.ref (He.ga K "gaps_joined")) := T.glo 17 rfl
theorem Fx.g_gaps_guarded {K : PySem.W.Frag} {mg : Str → Option Value} (T : Fx K mg) : mg "gaps_guarded" = some (.ref (He.ga K "gaps_guarded")) := T.glo 18 rfl
theorem Fx.g_gaps_unlike {K : PySem.W.Frag} {mg : Str → Option Value} (T : Fx K mg) : mg "gaps_unlike" = some (.ref (He.ga K "gaps_unlike")) := T.glo 19 rfl
theorem Fx.g_refuse_wrong_number {K : PySem.W.Frag} {mg : Str → Option Value} (T : Fx K mg) : mg "refuse_wrong_number" = some (.ref (He.ga K "refuse_wrong_number")) := T.glo 20 rfl
theorem Fx.g_refuse_wrong_many {K : PySem.W.Frag} {mg : Str → Option Value} (T : Fx K mg) : mg "refuse_wrong_many" = some (.ref (He.ga K "refuse_wrong_many")) := T.glo 21 rfl
theorem Fx.g_refuse_wrong_differences {K : PySem.W.Frag} {mg : Str → Option Value} (T : Fx K mg) : mg "refuse_wrong_differences" = some (.ref (He.ga K "refuse_wrong_differences")) := T.glo 22 rfl
theorem Fx.g_refuse_wrong_indexes {K : PySem.W.Frag} {mg : Str → Option Value} (T : Fx K mg) : mg "refuse_wrong_indexes" = some (.ref (He.ga K "refuse_wrong_indexes")) := T.glo 23 rfl
theorem Fx.g_refuse_wrong_values {K : PySem.W.Frag} {mg : Str → Option Value} (T : Fx K mg) : mg "refuse_wrong_values" = some (.ref (He.ga K "refuse_wrong_values")) := T.glo 24 rfl
theorem Fx.g_differences_hold {K : PySem.W.Frag} {mg : Str → Option Value} (T : Fx K mg) : mg "differences_hold" = some (.ref (He.ga K "differences_hold")) := T.glo 25 rfl
theorem Fx.g_differences_guarded {K : PySem.W.Frag} {mg : Str → Option Value} (T : Fx K mg) : mg "differences_guarded" = some (.ref (He.ga K "differences_guarded")) := T.glo 26 rfl
theorem Fx.g_differences_unlike {K : PySem.W.Frag} {mg : Str → Option Value} (T : Fx K mg) : mg "differences_unlike" = some (.ref (He.ga K "differences_unlike")) := T.glo 27 rfl
theorem Fx.g_refuse_wrong_pair {K : PySem.W.Frag} {mg : Str → Option Value} (T : Fx K mg) : mg "refuse_wrong_pair" = some (.ref (He.ga K "refuse_wrong_pair")) := T.glo 28 rfl
theorem Fx.g_l_spring {K : PySem.W.Frag} {mg : Str → Option Value} (T : Fx K mg) : mg "_law_spring" = some (.ref (He.ga K "_law_spring")) := T.glo 29 rfl
theorem Fx.g_l_draw {K : PySem.W.Frag} {mg : Str → Option Value} (T : Fx K mg) : mg "_law_draw" = some (.ref (He.ga K "_law_draw")) := T.glo 30 rfl
theorem Fx.g_l_pick {K : PySem.W.Frag} {mg : Str → Option Value} (T : Fx K mg) : mg "_law_pick" = some (.ref (He.ga K "_law_pick")) := T.glo 31 rfl
theorem Fx.g_l_size {K : PySem.W.Frag} {mg : Str → Option Value} (T : Fx K mg) : mg "_law_size" = some (.ref (He.ga K "_law_size")) := T.glo 32 rfl
theorem Fx.g_l_spots {K : PySem.W.Frag} {mg : Str → Option Value} (T : Fx K mg) : mg "_law_spots" = some (.ref (He.ga K "_law_spots")) := T.glo 33 rfl
theorem Fx.g_l_bound {K : PySem.W.Frag} {mg : Str → Option Value} (T : Fx K mg) : mg "_law_bound" = some (.ref (He.ga K "_law_bound")) := T.glo 34 rfl
theorem Fx.g_l_about {K : PySem.W.Frag} {mg : Str → Option Value} (T : Fx K mg) : mg "_law_about" = some (.ref (He.ga K "_law_about")) := T.glo 35 rfl
theorem Fx.g_l_near_spots {K : PySem.W.Frag} {mg : Str → Option Value} (T : Fx K mg) : mg "_law_near_spots" = some (.ref (He.ga K "_law_near_spots")) := T.glo 36 rfl
theorem Fx.g_l_holds {K : PySem.W.Frag} {mg : Str → Option Value} (T : Fx K mg) : mg "_law_holds" = some (.ref (He.ga K "_law_holds")) := T.glo 37 rfl
theorem Fx.g_l_closing {K : PySem.W.Frag} {mg : Str → Option Value} (T : Fx K mg) : mg "_law_closing" = some (.ref (He.ga K "_law_closing")) := T.glo 38 rfl
theorem Fx.g_l_with {K : PySem.W.Frag} {mg : Str → Option Value} (T : Fx K mg) : mg "_law_with" = some (.ref (He.ga K "_law_with")) := T.glo 39 rfl
theorem Fx.g_l_lesser {K : PySem.W.Frag} {mg : Str → Option Value} (T : Fx K mg) : mg "_law_lesser" = some (.ref (He.ga K "_law_lesser")) := T.glo 40 rfl
theorem Fx.g_l_greater {K : PySem.W.Frag} {mg : Str → Option Value} (T : Fx K mg) : mg "_law_greater" = some (.ref (He.ga K "_law_greater")) := T.glo 41 rfl
theorem Fx.g_l_joined {K : PySem.W.Frag} {mg : Str → Option Value} (T : Fx K mg) : mg "_law_joined" = some (.ref (He.ga K "_law_joined")) := T.glo 42 rfl
theorem Fx.g_l_guarded {K : PySem.W.Frag} {mg : Str → Option Value} (T : Fx K mg) : mg "_law_guarded" = some (.ref (He.ga K "_law_guarded")) := T.glo 43 rfl
theorem Fx.g_l_gap {K : PySem.W.Frag} {mg : Str → Option Value} (T : Fx K mg) : mg "_law_gap" = some (.ref (He.ga K "_law_gap")) := T.glo 44 rfl
theorem Fx.g_l_deed_right {K : PySem.W.Frag} {mg : Str → Option Value} (T : Fx K mg) : mg "_law_deed_right" = some (.ref (He.ga K "_law_deed_right")) := T.glo 45 rfl
theorem Fx.g_l_right {K : PySem.W.Frag} {mg : Str → Option Value} (T : Fx K mg) : mg "_law_right" = some (.ref (He.ga K "_law_right")) := T.glo 46 rfl
theorem Fx.g_l_law {K : PySem.W.Frag} {mg : Str → Option Value} (T : Fx K mg) : mg "law" = some (.ref (He.ga K "law")) := T.glo 47 rfl
theorem Fx.n_ValueError {K : PySem.W.Frag} {mg : Str → Option Value} (T : Fx K mg) : mg "ValueError" = none := T.free 48 rfl
theorem Fx.n_abs {K : PySem.W.Frag} {mg : Str → Option Value} (T : Fx K mg) : mg "abs" = none := T.free 49 rfl
theorem Fx.n_all {K : PySem.W.Frag} {mg : Str → Option Value} (T : Fx K mg) : mg "all" = none := T.free 50 rfl
theorem Fx.n_any {K : PySem.W.Frag} {mg : Str → Option Value} (T : Fx K mg) : mg "any" = none := T.free 51 rfl
theorem Fx.n_bool {K : PySem.W.Frag} {mg : Str → Option Value} (T : Fx K mg) : mg "bool" = none := T.free 52 rfl
theorem Fx.n_divmod {K : PySem.W.Frag} {mg : Str → Option Value} (T : Fx K mg) : mg "divmod" = none := T.free 53 rfl
theorem Fx.n_enumerate {K : PySem.W.Frag} {mg : Str → Option Value} (T : Fx K mg) : mg "enumerate" = none := T.free 54 rfl
theorem Fx.n_int {K : PySem.W.Frag} {mg : Str → Option Value} (T : Fx K mg) : mg "int" = none := T.free 55 rfl
theorem Fx.n_isinstance {K : PySem.W.Frag} {mg : Str → Option Value} (T : Fx K mg) : mg "isinstance" = none := T.free 56 rfl
theorem Fx.n_len {K : PySem.W.Frag} {mg : Str → Option Value} (T : Fx K mg) : mg "len" = none := T.free 57 rfl
theorem Fx.n_list {K : PySem.W.Frag} {mg : Str → Option Value} (T : Fx K mg) : mg "list" = none := T.free 58 rfl
theorem Fx.n_max {K : PySem.W.Frag} {mg : Str → Option Value} (T : Fx K mg) : mg "max" = none := T.free 59 rfl
theorem Fx.n_min {K : PySem.W.Frag} {mg : Str → Option Value} (T : Fx K mg) : mg "min" = none := T.free 60 rfl
theorem Fx.n_range {K : PySem.W.Frag} {mg : Str → Option Value} (T : Fx K mg) : mg "range" = none := T.free 61 rfl
theorem Fx.n_repr {K : PySem.W.Frag} {mg : Str → Option Value} (T : Fx K mg) : mg "repr" = none := T.free 62 rfl
theorem Fx.n_tuple {K : PySem.W.Frag} {mg : Str → Option Value} (T : Fx K mg) : mg "tuple" = none := T.free 63 rfl
theorem Fx.n_zip {K : PySem.W.Frag} {mg : Str → Option Value} (T : Fx K mg) : mg "zip" = none := T.free 64 rfl
theorem Fx.d_InvalidNumber_init {K : PySem.W.Frag} {mg : Str → Option Value} (T : Fx K mg) : ∃ fd, FunD K dInvalidNumber_init.name dInvalidNumber_init.qual dInvalidNumber_init.params dInvalidNumber_init.body dInvalidNumber_init.scope (dInvalidNumber_init.dvs K) (dInvalidNumber_init.kws K) (He.fAd K dInvalidNumber_init.at_) fd := T.fn 0 rfl
theorem Fx.d_InvalidSize_init {K : PySem.W.Frag} {mg : Str → Option Value} (T : Fx K mg) : ∃ fd, FunD K dInvalidSize_init.name dInvalidSize_init.qual dInvalidSize_init.params dInvalidSize_init.body dInvalidSize_init.scope (dInvalidSize_init.dvs K) (dInvalidSize_init.kws K) (He.fAd K dInvalidSize_init.at_) fd := T.fn 1 rfl
theorem Fx.d_InvalidSlot_init {K : PySem.W.Frag} {mg : Str → Option Value} (T : Fx K mg) : ∃ fd, FunD K dInvalidSlot_init.name dInvalidSlot_init.qual dInvalidSlot_init.params dInvalidSlot_init.body dInvalidSlot_init.scope (dInvalidSlot_init.dvs K) (dInvalidSlot_init.kws K) (He.fAd K dInvalidSlot_init.at_) fd := T.fn 2 rfl
theorem Fx.d_InvalidDifferences_init {K : PySem.W.Frag} {mg : Str → Option Value} (T : Fx K mg) : ∃ fd, FunD K dInvalidDifferences_init.name dInvalidDifferences_init.qual dInvalidDifferences_init.params dInvalidDifferences_init.body dInvalidDifferences_init.scope (dInvalidDifferences_init.dvs K) (dInvalidDifferences_init.kws K) (He.fAd K dInvalidDifferences_init.at_) fd := T.fn 3 rfl
theorem Fx.d_InvalidValues_init {K : PySem.W.Frag} {mg : Str → Option Value} (T : Fx K mg) : ∃ fd, FunD K dInvalidValues_init.name dInvalidValues_init.qual dInvalidValues_init.params dInvalidValues_init.body dInvalidValues_init.scope (dInvalidValues_init.dvs K) (dInvalidValues_init.kws K) (He.fAd K dInvalidValues_init.at_) fd := T.fn 4 rfl
theorem Fx.d_is_whole {K : PySem.W.Frag} {mg : Str → Option Value} (T : Fx K mg) : ∃ fd, FunD K dis_whole.name dis_whole.qual dis_whole.params dis_whole.body dis_whole.scope (dis_whole.dvs K) (dis_whole.kws K) (He.fAd K dis_whole.at_) fd := T.fn 5 rfl
theorem Fx.d_is_index {K : PySem.W.Frag} {mg : Str → Option Value} (T : Fx K mg) : ∃ fd, FunD K dis_index.name dis_index.qual dis_index.params dis_index.body dis_index.scope (dis_index.dvs K) (dis_index.kws K) (He.fAd K dis_index.at_) fd := T.fn 6 rfl
theorem Fx.d_is_gaps {K : PySem.W.Frag} {mg : Str → Option Value} (T : Fx K mg) : ∃ fd, FunD K dis_gaps.name dis_gaps.qual dis_gaps.params dis_gaps.body dis_gaps.scope (dis_gaps.dvs K) (dis_gaps.kws K) (He.fAd K dis_gaps.at_) fd := T.fn 7 rfl
theorem Fx.d_is_gap_row {K : PySem.W.Frag} {mg : Str → Option Value} (T : Fx K mg) : ∃ fd, FunD K dis_gap_row.name dis_gap_row.qual dis_gap_row.params dis_gap_row.body dis_gap_row.scope (dis_gap_row.dvs K) (dis_gap_row.kws K) (He.fAd K dis_gap_row.at_) fd := T.fn 8 rfl
theorem Fx.d_is_above {K : PySem.W.Frag} {mg : Str → Option Value} (T : Fx K mg) : ∃ fd, FunD K dis_above.name dis_above.qual dis_above.params dis_above.body dis_above.scope (dis_above.dvs K) (dis_above.kws K) (He.fAd K dis_above.at_) fd := T.fn 9 rfl
theorem Fx.d_lesser {K : PySem.W.Frag} {mg : Str → Option Value} (T : Fx K mg) : ∃ fd, FunD K dlesser.name dlesser.qual dlesser.params dlesser.body dlesser.scope (dlesser.dvs K) (dlesser.kws K) (He.fAd K dlesser.at_) fd := T.fn 10 rfl
theorem Fx.d_greater {K : PySem.W.Frag} {mg : Str → Option Value} (T : Fx K mg) : ∃ fd, FunD K dgreater.name dgreater.qual dgreater.params dgreater.body dgreater.scope (dgreater.dvs K) (dgreater.kws K) (He.fAd K dgreater.at_) fd := T.fn 11 rfl
theorem Fx.d_gaps_hold {K : PySem.W.Frag} {mg : Str → Option Value} (T : Fx K mg) : ∃ fd, FunD K dgaps_hold.name dgaps_hold.qual dgaps_hold.params dgaps_hold.body dgaps_hold.scope (dgaps_hold.dvs K) (dgaps_hold.kws K) (He.fAd K dgaps_hold.at_) fd := T.fn 12 rfl
theorem Fx.d_row_by_way {K : PySem.W.Frag} {mg : Str → Option Value} (T : Fx K mg) : ∃ fd, FunD K drow_by_way.name drow_by_way.qual drow_by_way.params drow_by_way.body drow_by_way.scope (drow_by_way.dvs K) (drow_by_way.kws K) (He.fAd K drow_by_way.at_) fd := T.fn 13 rfl
theorem Fx.d_closing {K : PySem.W.Frag} {mg : Str → Option Value} (T : Fx K mg) : ∃ fd, FunD K dclosing.name dclosing.qual dclosing.params dclosing.body dclosing.scope (dclosing.dvs K) (dclosing.kws K) (He.fAd K dclosing.at_) fd := T.fn 14 rfl
theorem Fx.d_gaps_joined {K : PySem.W.Frag} {mg : Str → Option Value} (T : Fx K mg) : ∃ fd, FunD K dgaps_joined.name dgaps_joined.qual dgaps_joined.params dgaps_joined.body dgaps_joined.scope (dgaps_joined.dvs K) (dgaps_joined.kws K) (He.fAd K dgaps_joined.at_) fd := T.fn 15 rfl
theorem Fx.d_gaps_guarded {K : PySem.W.Frag} {mg : Str → Option Value} (T : Fx K mg) : ∃ fd, FunD K dgaps_guarded.name dgaps_guarded.qual dgaps_guarded.params dgaps_guarded.body dgaps_guarded.scope (dgaps_guarded.dvs K) (dgaps_guarded.kws K) (He.fAd K dgaps_guarded.at_) fd := T.fn 16 rfl
theorem Fx.d_gaps_unlike {K : PySem.W.Frag} {mg : Str → Option Value} (T : Fx K mg) : ∃ fd, FunD K dgaps_unlike.name dgaps_unlike.qual dgaps_unlike.params dgaps_unlike.body dgaps_unlike.scope (dgaps_unlike.dvs K) (dgaps_unlike.kws K) (He.fAd K dgaps_unlike.at_) fd := T.fn 17 rfl
theorem Fx.d_refuse_wrong_number {K : PySem.W.Frag} {mg : Str → Option Value} (T : Fx K mg) : ∃ fd, FunD K drefuse_wrong_number.name drefuse_wrong_number.qual drefuse_wrong_number.params drefuse_wrong_number.body drefuse_wrong_number.scope (drefuse_wrong_number.dvs K) (drefuse_wrong_number.kws K) (He.fAd K drefuse_wrong_number.at_) fd := T.fn 18 rfl
theorem Fx.d_refuse_wrong_many {K : PySem.W.Frag} {mg : Str → Option Value} (T : Fx K mg) : ∃ fd, FunD K drefuse_wrong_many.name drefuse_wrong_many.qual drefuse_wrong_many.params drefuse_wrong_many.body drefuse_wrong_many.scope (drefuse_wrong_many.dvs K) (drefuse_wrong_many.kws K) (He.fAd K drefuse_wrong_many.at_) fd := T.fn 19 rfl
theorem Fx.d_refuse_wrong_differences {K : PySem.W.Frag} {mg : Str → Option Value} (T : Fx K mg) : ∃ fd, FunD K drefuse_wrong_differences.name drefuse_wrong_differences.qual drefuse_wrong_differences.params drefuse_wrong_differences.body drefuse_wrong_differences.scope (drefuse_wrong_differences.dvs K) (drefuse_wrong_differences.kws K) (He.fAd K drefuse_wrong_differences.at_) fd := T.fn 20 rfl
theorem Fx.d_refuse_wrong_indexes {K : PySem.W.Frag} {mg : Str → Option Value} (T : Fx K mg) : ∃ fd, FunD K drefuse_wrong_indexes.name drefuse_wrong_indexes.qual drefuse_wrong_indexes.params drefuse_wrong_indexes.body drefuse_wrong_indexes.scope (drefuse_wrong_indexes.dvs K) (drefuse_wrong_indexes.kws K) (He.fAd K drefuse_wrong_indexes.at_) fd := T.fn 21 rfl
theorem Fx.d_refuse_wrong_values {K : PySem.W.Frag} {mg : Str → Option Value} (T : Fx K mg) : ∃ fd, FunD K drefuse_wrong_values.name drefuse_wrong_values.qual drefuse_wrong_values.params drefuse_wrong_values.body drefuse_wrong_values.scope (drefuse_wrong_values.dvs K) (drefuse_wrong_values.kws K) (He.fAd K drefuse_wrong_values.at_) fd := T.fn 22 rfl
theorem Fx.d_differences_hold {K : PySem.W.Frag} {mg : Str → Option Value} (T : Fx K mg) : ∃ fd, FunD K ddifferences_hold.name ddifferences_hold.qual ddifferences_hold.params ddifferences_hold.body ddifferences_hold.scope (ddifferences_hold.dvs K) (ddifferences_hold.kws K) (He.fAd K ddifferences_hold.at_) fd := T.fn 23 rfl
theorem Fx.d_differences_guarded {K : PySem.W.Frag} {mg : Str → Option Value} (T : Fx K mg) : ∃ fd, FunD K ddifferences_guarded.name ddifferences_guarded.qual ddifferences_guarded.params ddifferences_guarded.body ddifferences_guarded.scope (ddifferences_guarded.dvs K) (ddifferences_guarded.kws K) (He.fAd K ddifferences_guarded.at_) fd := T.fn 24 rfl
theorem Fx.d_differences_unlike {K : PySem.W.Frag} {mg : Str → Option Value} (T : Fx K mg) : ∃ fd, FunD K ddifferences_unlike.name ddifferences_unlike.qual ddifferences_unlike.params ddifferences_unlike.body ddifferences_unlike.scope (ddifferences_unlike.dvs K) (ddifferences_unlike.kws K) (He.fAd K ddifferences_unlike.at_) fd := T.fn 25 rfl
theorem Fx.d_refuse_wrong_pair {K : PySem.W.Frag} {mg : Str → Option Value} (T : Fx K mg) : ∃ fd, FunD K drefuse_wrong_pair.name drefuse_wrong_pair.qual drefuse_wrong_pair.params drefuse_wrong_pair.body drefuse_wrong_pair.scope (drefuse_wrong_pair.dvs K) (drefuse_wrong_pair.kws K) (He.fAd K drefuse_wrong_pair.at_) fd := T.fn 26 rfl
theorem Fx.d_l_spring {K : PySem.W.Frag} {mg : Str → Option Value} (T : Fx K mg) : ∃ fd, FunD K dl_spring.name dl_spring.qual dl_spring.params dl_spring.body dl_spring.scope (dl_spring.dvs K) (dl_spring.kws K) (He.fAd K dl_spring.at_) fd := T.fn 27 rfl
theorem Fx.d_l_draw {K : PySem.W.Frag} {mg : Str → Option Value} (T : Fx K mg) : ∃ fd, FunD K dl_draw.name dl_draw.qual dl_draw.params dl_draw.body dl_draw.scope (dl_draw.dvs K) (dl_draw.kws K) (He.fAd K dl_draw.at_) fd := T.fn 28 rfl
theorem Fx.d_l_pick {K : PySem.W.Frag} {mg : Str → Option Value} (T : Fx K mg) : ∃ fd, FunD K dl_pick.name dl_pick.qual dl_pick.params dl_pick.body dl_pick.scope (dl_pick.dvs K) (dl_pick.kws K) (He.fAd K dl_pick.at_) fd := T.fn 29 rfl
theorem Fx.d_l_size {K : PySem.W.Frag} {mg : Str → Option Value} (T : Fx K mg) : ∃ fd, FunD K dl_size.name dl_size.qual dl_size.params dl_size.body dl_size.scope (dl_size.dvs K) (dl_size.kws K) (He.fAd K dl_size.at_) fd := T.fn 30 rfl
theorem Fx.d_l_spots {K : PySem.W.Frag} {mg : Str → Option Value} (T : Fx K mg) : ∃ fd, FunD K dl_spots.name dl_spots.qual dl_spots.params dl_spots.body dl_spots.scope (dl_spots.dvs K) (dl_spots.kws K) (He.fAd K dl_spots.at_) fd := T.fn 31 rfl
theorem Fx.d_l_bound {K : PySem.W.Frag} {mg : Str → Option Value} (T : Fx K mg) : ∃ fd, FunD K dl_bound.name dl_bound.qual dl_bound.params dl_bound.body dl_bound.scope (dl_bound.dvs K) (dl_bound.kws K) (He.fAd K dl_bound.at_) fd := T.fn 32 rfl
theorem Fx.d_l_about {K : PySem.W.Frag} {mg : Str → Option Value} (T : Fx K mg) : ∃ fd, FunD K dl_about.name dl_about.qual dl_about.params dl_about.body dl_about.scope (dl_about.dvs K) (dl_about.kws K) (He.fAd K dl_about.at_) fd := T.fn 33 rfl
theorem Fx.d_l_near_spots {K : PySem.W.Frag} {mg : Str → Option Value} (T : Fx K mg) : ∃ fd, FunD K dl_near_spots.name dl_near_spots.qual dl_near_spots.params dl_near_spots.body dl_near_spots.scope (dl_near_spots.dvs K) (dl_near_spots.kws K) (He.fAd K dl_near_spots.at_) fd := T.fn 34 rfl
theorem Fx.d_l_holds {K : PySem.W.Frag} {mg : Str → Option Value} (T : Fx K mg) : ∃ fd, FunD K dl_holds.name dl_holds.qual dl_holds.params dl_holds.body dl_holds.scope (dl_holds.dvs K) (dl_holds.kws K) (He.fAd K dl_holds.at_) fd := T.fn 35 rfl
theorem Fx.d_l_closing {K : PySem.W.Frag} {mg : Str → Option Value} (T : Fx K mg) : ∃ fd, FunD K dl_closing.name dl_closing.qual dl_closing.params dl_closing.body dl_closing.scope (dl_closing.dvs K) (dl_closing.kws K) (He.fAd K dl_closing.at_) fd := T.fn 36 rfl
theorem Fx.d_l_with {K : PySem.W.Frag} {mg : Str → Option Value} (T : Fx K mg) : ∃ fd, FunD K dl_with.name dl_with.qual dl_with.params dl_with.body dl_with.scope (dl_with.dvs K) (dl_with.kws K) (He.fAd K dl_with.at_) fd := T.fn 37 rfl
theorem Fx.d_l_lesser {K : PySem.W.Frag} {mg : Str → Option Value} (T : Fx K mg) : ∃ fd, FunD K dl_lesser.name dl_lesser.qual dl_lesser.params dl_lesser.body dl_lesser.scope (dl_lesser.dvs K) (dl_lesser.kws K) (He.fAd K dl_lesser.at_) fd := T.fn 38 rfl
theorem Fx.d_l_greater {K : PySem.W.Frag} {mg : Str → Option Value} (T : Fx K mg) : ∃ fd, FunD K dl_greater.name dl_greater.qual dl_greater.params dl_greater.body dl_greater.scope (dl_greater.dvs K) (dl_greater.kws K) (He.fAd K dl_greater.at_) fd := T.fn 39 rfl
theorem Fx.d_l_joined {K : PySem.W.Frag} {mg : Str → Option Value} (T : Fx K mg) : ∃ fd, FunD K dl_joined.name dl_joined.qual dl_joined.params dl_joined.body dl_joined.scope (dl_joined.dvs K) (dl_joined.kws K) (He.fAd K dl_joined.at_) fd := T.fn 40 rfl
theorem Fx.d_l_guarded {K : PySem.W.Frag} {mg : Str → Option Value} (T : Fx K mg) : ∃ fd, FunD K dl_guarded.name dl_guarded.qual dl_guarded.params dl_guarded.body dl_guarded.scope (dl_guarded.dvs K) (dl_guarded.kws K) (He.fAd K dl_guarded.at_) fd := T.fn 41 rfl
theorem Fx.d_l_gap {K : PySem.W.Frag} {mg : Str → Option Value} (T : Fx K mg) : ∃ fd, FunD K dl_gap.name dl_gap.qual dl_gap.params dl_gap.body dl_gap.scope (dl_gap.dvs K) (dl_gap.kws K) (He.fAd K dl_gap.at_) fd := T.fn 42 rfl
theorem Fx.d_l_deed_right {K : PySem.W.Frag} {mg : Str → Option Value} (T : Fx K mg) : ∃ fd, FunD K dl_deed_right.name dl_deed_right.qual dl_deed_right.params dl_deed_right.body dl_deed_right.scope (dl_deed_right.dvs K) (dl_deed_right.kws K) (He.fAd K dl_deed_right.at_) fd := T.fn 43 rfl
theorem Fx.d_l_right {K : PySem.W.Frag} {mg : Str → Option Value} (T : Fx K mg) : ∃ fd, FunD K dl_right.name dl_right.qual dl_right.params dl_right.body dl_right.scope (dl_right.dvs K) (dl_right.kws K) (He.fAd K dl_right.at_) fd := T.fn 44 rfl
theorem Fx.d_l_law {K : PySem.W.Frag} {mg : Str → Option Value} (T : Fx K mg) : ∃ fd, FunD K dl_law.name dl_law.qual dl_law.params dl_law.body dl_law.scope (dl_law.dvs K) (dl_law.kws K) (He.fAd K dl_law.at_) fd := T.fn 45 rfl
section
open Eg
theorem kB_vals : ∀ (l : List Value) (zs : List (Int ⊕ Str)), l.map kB = zs.map some → Vals (zs.map fun z => match z with | .inl n => V.int n | .inr y => V.str y) l
  | [], [], _ => .nil
  | [], _ :: _, h => by cases h
  | _ :: _, [], h => by cases h
  | v :: r, z :: zs, h => by
    rw [List.map_cons, List.map_cons] at h
    injection h with h1 h2
    refine .cons ?_ (kB_vals r zs h2)
    cases v <;> first | (cases h1; exact ⟨_, rfl⟩) | cases h1
theorem kB_has {w : Wd} : ∀ (zs : List (Int ⊕ Str)), HasL w (zs.map fun z => match z with | .inl n => V.int n | .inr y => V.str y) (zs.map fun z => match z with | .inl n => DV.int n | .inr y => DV.str y)
  | [] => .nil
  | .inl _ :: r => .cons .int (kB_has r)
  | .inr _ :: r => .cons .str (kB_has r)
theorem tup_has {K : PySem.W.Frag} {x : Str} {zs : List (Int ⊕ Str)} (h : tupB K x zs = true) (hz : zs.length ≤ 1000) (α : List Addr) (μ : List MO) (H : Hp) : Has ⟨K, α, μ, H⟩ (V.ref (He.ga K x)) (.tup (zs.map fun z => match z with | .inl n => DV.int n | .inr y => DV.str y)) := by
  unfold tupB at h
  split at h
  · rename_i dd its n sl hl
    have hm := of_decide_eq_true h
    have vals := kB_vals its.toList zs hm
    have hlen : its.size = zs.length := by
      have z := vals.length
      rw [List.length_map, Array.length_toList] at z
      exact z.symm
    exact .tup (.inr ⟨_, its, n, hl, rfl, rfl, by rw [hlen, sizeLine_eq]; omega, vals⟩) (kB_has zs)
  · cases h
theorem Fx.c_MOST_SLOTS {K : PySem.W.Frag} {mg : Str → Option Value} (T : Fx K mg) {X : Cx} {pos : Pos} (hg : Gl X "MOST_SLOTS") (hm : X.mg = mg := by rfl) : SE X (.Name "MOST_SLOTS" pos) (dC (.int 20)) := by
  obtain ⟨t, e⟩ := T.int 0 rfl
  exact SE.glob (v := .int 20) hg (by rw [hm]; exact e) ⟨t, rfl⟩ fun _ _ _ => .int
end
end Lw

namespace Lw
open PySem PySem.Spec L2 Eg
noncomputable def D_is_whole : DenS :=
  (sCons (sRet (dAnd (dIsi "int" (dVar 0)) (dNot (dIsi "bool" (dVar 0)))))
  sNil)
noncomputable def V_is_whole : FD := mkFn 1 ["value"] D_is_whole
noncomputable def D_is_index : DenS :=
  (sCons (sRet (dAnd (dCall V_is_whole (aCons (dVar 0) aNil)) (dChain oLe oLt (dC (.int 0)) (dVar 0) (dVar 1))))
  sNil)
noncomputable def V_is_index : FD := mkFn 2 ["value", "size"] D_is_index
noncomputable def D_is_gap_row : DenS :=
  (sCons (sIf (dOr (dNot (dIsi "tuple" (dVar 2))) (dOp2 oNe (dBlt oLen (aCons (dVar 2) aNil)) (dOp2 oAdd (dVar 0) (dC (.int 1)))))
  (sCons (sRet (dC (.bl false)))
  sNil)
  sNil)
  (sCons (sIf (dNot (dBlt oAll (aCons (dLc (iSeq (dVar 2)) (bd1 3) dT (dOr (dOp2 oIs (dVar 3) (dC .non)) (dCall V_is_whole (aCons (dVar 3) aNil)))) aNil)))
  (sCons (sRet (dC (.bl false)))
  sNil)
  sNil)
  (sCons (sRet (dOp2 oEq (dOp2 oIx (dVar 2) (dVar 1)) (dC (.int 0))))
  sNil)))
noncomputable def V_is_gap_row : FD := mkFn 3 ["many", "at", "value", "bound"] D_is_gap_row
noncomputable def D_is_gaps : DenS :=
  (sCons (sIf (dOp2 oIs (dVar 1) (dC .non))
  (sCons (sRet (dC (.bl true)))
  sNil)
  sNil)
  (sCons (sIf (dOr (dNot (dIsi "tuple" (dVar 1))) (dOp2 oNe (dBlt oLen (aCons (dVar 1) aNil)) (dOp2 oAdd (dVar 0) (dC (.int 1)))))
  (sCons (sRet (dC (.bl false)))
  sNil)
  sNil)
  (sCons (sRet (dBlt oAll (aCons (dLc (iEnm (aCons (dVar 1) aNil)) (bd2 2 3) dT (dCall V_is_gap_row (aCons (dVar 0) (aCons (dVar 2) (aCons (dVar 3) aNil))))) aNil)))
  sNil)))
noncomputable def V_is_gaps : FD := mkFn 2 ["many", "value", "at", "row"] D_is_gaps
noncomputable def D_gaps_hold : DenS :=
  (sCons (sIf (dOp2 oIs (dVar 0) (dC .non))
  (sCons (sRet (dC (.bl false)))
  sNil)
  sNil)
  (sCons (sSet 2 (dOp2 oAdd (dTup (aCons (dC (.int 0)) aNil)) (dVar 1)))
  (sCons (sForE (aCons (dVar 0) aNil) (gTu 2 (gAnd (gNm 3) (gAnd (gNm 4) gEnd)))
  (sCons (sIf (dNot (dBlt oAll (aCons (dLc (iEnm (aCons (dVar 4) aNil)) (bd2 5 6) dT (dOr (dOp2 oIs (dVar 6) (dC .non)) (dOp2 oLe (dOp2 oSub (dOp2 oIx (dVar 2) (dVar 3)) (dOp2 oIx (dVar 2) (dVar 5))) (dVar 6)))) aNil)))
  (sCons (sRet (dC (.bl false)))
  sNil)
  sNil)
  sNil))
  (sCons (sRet (dC (.bl true)))
  sNil))))
noncomputable def V_gaps_hold : FD := mkFn 2 ["gaps", "numbers", "told", "i", "row", "j", "bound"] D_gaps_hold
noncomputable def D_refuse_wrong_many : DenS :=
  (sCons (sIf (dNot (dCall V_is_index (aCons (dVar 0) (aCons (dOp2 oAdd (dC (.int 20)) (dC (.int 1))) aNil))))
  (sCons sNo
  sNil)
  sNil)
  sNil)
noncomputable def V_refuse_wrong_many : FD := mkFn 1 ["many"] D_refuse_wrong_many
noncomputable def D_refuse_wrong_differences : DenS :=
  (sCons (sExp (dCall V_refuse_wrong_many (aCons (dVar 0) aNil)))
  (sCons (sIf (dNot (dCall V_is_gaps (aCons (dVar 0) (aCons (dVar 1) aNil))))
  (sCons sNo
  sNil)
  sNil)
  sNil))
noncomputable def V_refuse_wrong_differences : FD := mkFn 2 ["many", "one"] D_refuse_wrong_differences
noncomputable def D_refuse_wrong_values : DenS :=
  (sCons (sIf (dOr (dNot (dIsi "tuple" (dVar 1))) (dOp2 oNe (dBlt oLen (aCons (dVar 1) aNil)) (dVar 0)))
  (sCons sNo
  sNil)
  sNil)
  (sCons (sForE (aCons (dVar 1) aNil) (gTu 2 (gAnd (gNm 2) (gAnd (gNm 3) gEnd)))
  (sCons (sIf (dNot (dCall V_is_whole (aCons (dVar 3) aNil)))
  (sCons sNo
  sNil)
  sNil)
  sNil))
  sNil))
noncomputable def V_refuse_wrong_values : FD := mkFn 2 ["many", "values", "index", "number"] D_refuse_wrong_values
noncomputable def D_differences_hold : DenS :=
  (sCons (sExp (dCall V_refuse_wrong_differences (aCons (dVar 0) (aCons (dVar 1) aNil))))
  (sCons (sExp (dCall V_refuse_wrong_values (aCons (dVar 0) (aCons (dVar 2) aNil))))
  (sCons (sRet (dCall V_gaps_hold (aCons (dVar 1) (aCons (dVar 2) aNil))))
  sNil)))
noncomputable def V_differences_hold : FD := mkFn 3 ["many", "one", "values"] D_differences_hold
noncomputable def D_l_draw : DenS :=
  (sCons (sIf (dOp2 oGt (dOp2 oIx (dVar 0) (dC (.int 0))) (dC (.int 0)))
  (sCons (sAsg (gTu 2 (gAnd (gSb (dVar 0) (dC (.int 0))) (gAnd (gNm 2) gEnd))) (dBlt oDivmod (aCons (dOp2 oIx (dVar 0) (dC (.int 0))) (aCons (dVar 1) aNil))))
  (sCons (sRet (dVar 2))
  sNil))
  sNil)
  (sCons (sAsg (gSb (dVar 0) (dC (.int 2))) (dOp2 oAdd (dOp2 oIx (dVar 0) (dC (.int 2))) (dC (.int 1))))
  (sCons (sSet 3 (dOp2 oMod (dBlt oInt (aCons (dOp2 oAdd (dOp2 oIx (dVar 0) (dC (.int 1))) (dOp2 oMul (dC (.int 70001)) (dOp2 oIx (dVar 0) (dC (.int 2))))) aNil)) (dC (.int 2147483477))))
  (sCons (sAsg (gSb (dVar 0) (dC (.int 1))) (dOp2 oMod (dBlt oInt (aCons (dOp2 oAdd (dOp2 oMul (dVar 3) (dOp2 oAdd (dOp2 oMod (dBlt oInt (aCons (dVar 3) aNil)) (dC (.int 4999))) (dC (.int 50021)))) (dOp2 oMul (dC (.int 17)) (dOp2 oIx (dVar 0) (dC (.int 2))))) aNil)) (dC (.int 2147483477))))
  (sCons (sRet (dOp2 oMod (dBlt oInt (aCons (dOp2 oDiv (dOp2 oIx (dVar 0) (dC (.int 1))) (dC (.int 797))) aNil)) (dVar 1)))
  sNil)))))
noncomputable def V_l_draw : FD := mkFn 2 ["_law_spring_here", "_law_high", "_law_figure", "_law_seed"] D_l_draw
noncomputable def D_l_pick : DenS :=
  (sCons (sRet (dOp2 oIx (dVar 1) (dCall V_l_draw (aCons (dVar 0) (aCons (dBlt oLen (aCons (dVar 1) aNil)) aNil)))))
  sNil)
noncomputable def V_l_pick : FD := mkFn 2 ["_law_spring_here", "_law_some"] D_l_pick
noncomputable def D_l_size : DenS :=
  (sCons (sIf (dOp2 oEq (dCall V_l_draw (aCons (dVar 0) (aCons (dC (.int 24)) aNil))) (dC (.int 23)))
  (sCons (sRet (dOp2 oAdd (dC (.int 6)) (dCall V_l_draw (aCons (dVar 0) (aCons (dC (.int 15)) aNil)))))
  sNil)
  sNil)
  (sCons (sRet (dCall V_l_pick (aCons (dVar 0) (aCons (dTup (aCons (dC (.int 2)) (aCons (dC (.int 3)) (aCons (dC (.int 1)) (aCons (dC (.int 2)) (aCons (dC (.int 3)) (aCons (dC (.int 0)) (aCons (dC (.int 4)) (aCons (dC (.int 5)) aNil))))))))) aNil))))
  sNil))
noncomputable def V_l_size : FD := mkFn 1 ["_law_spring_here"] D_l_size
noncomputable def D_l_spots : DenS :=
  (sCons (sSet 2 (dLstM aNil))
  (sCons (sFor (iRange1 (aCons (dVar 1) aNil)) (gNm 3)
  (sCons (sSet 4 (dOp2 oEq (dCall V_l_draw (aCons (dVar 0) (aCons (dC (.int 16)) aNil))) (dC (.int 15))))
  (sCons (sExp (dApp (dVar 2) (dIf (dVar 4) (dOp2 oSub (dCall V_l_draw (aCons (dVar 0) (aCons (dC (.int 2000003)) aNil))) (dC (.int 1000001))) (dOp2 oSub (dCall V_l_draw (aCons (dVar 0) (aCons (dC (.int 9)) aNil))) (dC (.int 3))))))
  sNil)))
  (sCons (sRet (dBlt oTuple (aCons (dVar 2) aNil)))
  sNil)))
noncomputable def V_l_spots : FD := mkFn 2 ["_law_spring_here", "_law_size_here", "_law_made", "_law_turn", "_law_is_great"] D_l_spots
noncomputable def D_l_bound : DenS :=
  (sCons (sIf (dOp2 oLt (dCall V_l_draw (aCons (dVar 0) (aCons (dC (.int 4)) aNil))) (dVar 2))
  (sCons (sRet (dC .non))
  sNil)
  sNil)
  (sCons (sIf (dOp2 oLt (dVar 1) (dC (.int 8)))
  (sCons (sRet (dOp2 oAdd (dVar 3) (dCall V_l_pick (aCons (dVar 0) (aCons (dTup (aCons (dC (.int 0)) (aCons (dC (.int 1)) (aCons (dC (.int 0)) (aCons (dC (.int 2)) (aCons (dC (.int 5)) (aCons (dC (.int 0)) (aCons (dC (.int 3)) (aCons (dC (.int 1)) aNil))))))))) aNil)))))
  sNil)
  sNil)
  (sCons (sIf (dOp2 oLt (dVar 1) (dC (.int 11)))
  (sCons (sRet (dOp2 oAdd (dVar 3) (dCall V_l_pick (aCons (dVar 0) (aCons (dTup (aCons (dC (.int 0)) (aCons (dC (.int 1)) (aCons (dC (.int 3)) (aCons (dC (.int 0)) (aCons (dNeg (dC (.int 1))) (aCons (dC (.int 2)) (aCons (dC (.int 0)) (aCons (dC (.int 1)) aNil))))))))) aNil)))))
  sNil)
  sNil)
  (sCons (sRet (dOp2 oSub (dCall V_l_draw (aCons (dVar 0) (aCons (dC (.int 11)) aNil))) (dC (.int 4))))
  sNil))))
noncomputable def V_l_bound : FD := mkFn 4 ["_law_spring_here", "_law_way", "_law_share", "_law_gap"] D_l_bound
noncomputable def D_l_about : DenS :=
  (sCons (sAsg (gTu 4 (gAnd (gNm 3) (gAnd (gNm 4) (gAnd (gNm 5) (gAnd (gNm 6) gEnd))))) (dTup (aCons (dCall V_l_draw (aCons (dVar 0) (aCons (dC (.int 13)) aNil))) (aCons (dCall V_l_draw (aCons (dVar 0) (aCons (dC (.int 4)) aNil))) (aCons (dOp2 oAdd (dTup (aCons (dC (.int 0)) aNil)) (dVar 2)) (aCons (dLstM aNil) aNil))))))
  (sCons (sIf (dOp2 oEq (dVar 3) (dC (.int 12)))
  (sCons (sRet (dC .non))
  sNil)
  sNil)
  (sCons (sFor (iRange1 (aCons (dOp2 oAdd (dVar 1) (dC (.int 1))) aNil)) (gNm 7)
  (sCons (sSet 8 (dLstM aNil))
  (sCons (sFor (iRange1 (aCons (dOp2 oAdd (dVar 1) (dC (.int 1))) aNil)) (gNm 9)
  (sCons (sExp (dApp (dVar 8) (dIf (dOp2 oEq (dVar 7) (dVar 9)) (dC (.int 0)) (dCall V_l_bound (aCons (dVar 0) (aCons (dVar 3) (aCons (dVar 4) (aCons (dOp2 oSub (dOp2 oIx (dVar 5) (dVar 7)) (dOp2 oIx (dVar 5) (dVar 9))) aNil))))))))
  sNil))
  (sCons (sExp (dApp (dVar 6) (dBlt oTuple (aCons (dVar 8) aNil))))
  sNil))))
  (sCons (sRet (dBlt oTuple (aCons (dVar 6) aNil)))
  sNil))))
noncomputable def V_l_about : FD := mkFn 3 ["_law_spring_here", "_law_size_here", "_law_base", "_law_way", "_law_share", "_law_full", "_law_lines", "_law_here", "_law_line", "_law_there"] D_l_about
noncomputable def D_l_near_spots : DenS :=
  (sCons (sIf (dOp2 oEq (dVar 1) (dTup aNil))
  (sCons (sRet (dVar 1))
  sNil)
  sNil)
  (sCons (sSet 2 (dCall V_l_draw (aCons (dVar 0) (aCons (dBlt oLen (aCons (dVar 1) aNil)) aNil))))
  (sCons (sRet (dOp2 oAdd (dOp2 oAdd (dSl (dVar 1) none (some (dVar 2))) (dTup (aCons (dOp2 oAdd (dOp2 oIx (dVar 1) (dVar 2)) (dCall V_l_pick (aCons (dVar 0) (aCons (dTup (aCons (dC (.int 1)) (aCons (dNeg (dC (.int 1))) (aCons (dC (.int 2)) (aCons (dNeg (dC (.int 2))) (aCons (dC (.int 0)) (aCons (dC (.int 7)) aNil))))))) aNil)))) aNil))) (dSl (dVar 1) (some (dOp2 oAdd (dVar 2) (dC (.int 1)))) none)))
  sNil)))
noncomputable def V_l_near_spots : FD := mkFn 2 ["_law_spring_here", "_law_spots_here", "_law_spot"] D_l_near_spots
noncomputable def D_l_is_whole : DenS :=
  (sCons (sRet (dAnd (dIsi "int" (dVar 0)) (dNot (dIsi "bool" (dVar 0)))))
  sNil)
noncomputable def V_l_is_whole : FD := mkFn 1 ["_law_thing"] D_l_is_whole
noncomputable def D_l_is_wide : DenS :=
  (sCons (sIf (dOp2 oIs (dVar 1) (dC .non))
  (sCons (sRet (dC (.bl true)))
  sNil)
  sNil)
  (sCons (sIf (dOr (dNot (dIsi "tuple" (dVar 1))) (dOp2 oNe (dBlt oLen (aCons (dVar 1) aNil)) (dOp2 oAdd (dVar 0) (dC (.int 1)))))
  (sCons (sRet (dC (.bl false)))
  sNil)
  sNil)
  (sCons (sFor (iRange1 (aCons (dOp2 oAdd (dVar 0) (dC (.int 1))) aNil)) (gNm 2)
  (sCons (sSet 3 (dOp2 oIx (dVar 1) (dVar 2)))
  (sCons (sIf (dOr (dNot (dIsi "tuple" (dVar 3))) (dOr (dOp2 oNe (dBlt oLen (aCons (dVar 3) aNil)) (dOp2 oAdd (dVar 0) (dC (.int 1)))) (dOp2 oNe (dOp2 oIx (dVar 3) (dVar 2)) (dC (.int 0)))))
  (sCons (sRet (dC (.bl false)))
  sNil)
  sNil)
  (sCons (sIf (dNot (dBlt oAll (aCons (dLc (iSeq (dVar 3)) (bd1 4) dT (dOr (dOp2 oIs (dVar 4) (dC .non)) (dCall V_l_is_whole (aCons (dVar 4) aNil)))) aNil)))
  (sCons (sRet (dC (.bl false)))
  sNil)
  sNil)
  sNil))))
  (sCons (sRet (dC (.bl true)))
  sNil))))
noncomputable def V_l_is_wide : FD := mkFn 2 ["_law_size_here", "_law_thing", "_law_here", "_law_line", "_law_bound_here"] D_l_is_wide
noncomputable def D_l_holds : DenS :=
  (sCons (sIf (dOp2 oIs (dVar 0) (dC .non))
  (sCons (sRet (dC (.bl false)))
  sNil)
  sNil)
  (sCons (sSet 2 (dOp2 oAdd (dTup (aCons (dC (.int 0)) aNil)) (dVar 1)))
  (sCons (sFor (iRange1 (aCons (dBlt oLen (aCons (dVar 2) aNil)) aNil)) (gNm 3)
  (sCons (sFor (iRange1 (aCons (dBlt oLen (aCons (dVar 2) aNil)) aNil)) (gNm 4)
  (sCons (sSet 5 (dOp2 oIx (dOp2 oIx (dVar 0) (dVar 3)) (dVar 4)))
  (sCons (sIf (dAnd (dOp2 oIsnt (dVar 5) (dC .non)) (dOp2 oGt (dOp2 oSub (dOp2 oIx (dVar 2) (dVar 3)) (dOp2 oIx (dVar 2) (dVar 4))) (dVar 5)))
  (sCons (sRet (dC (.bl false)))
  sNil)
  sNil)
  sNil)))
  sNil))
  (sCons (sRet (dC (.bl true)))
  sNil))))
noncomputable def V_l_holds : FD := mkFn 2 ["_law_wide", "_law_spots_here", "_law_full", "_law_here", "_law_there", "_law_bound_here"] D_l_holds
noncomputable def D_end_sum : DenS :=
  (sCons (sRet (dIf (dOr (dOp2 oIs (dVar 0) (dC .non)) (dOp2 oIs (dVar 1) (dC .non))) (dC .non) (dOp2 oAdd (dVar 0) (dVar 1))))
  sNil)
noncomputable def V_end_sum : FD := mkFn 2 ["end", "by"] D_end_sum
noncomputable def D_is_above : DenS :=
  (sCons (sRet (dAnd (dOp2 oIsnt (dVar 1) (dC .non)) (dOr (dOp2 oIs (dVar 0) (dC .non)) (dOp2 oGt (dVar 0) (dVar 1)))))
  sNil)
noncomputable def V_is_above : FD := mkFn 2 ["bound", "other"] D_is_above
noncomputable def D_lesser : DenS :=
  (sCons (sRet (dIf (dCall V_is_above (aCons (dVar 0) (aCons (dVar 1) aNil))) (dVar 1) (dVar 0)))
  sNil)
noncomputable def V_lesser : FD := mkFn 2 ["bound", "other"] D_lesser
noncomputable def D_row_by_way : DenS :=
  (sCons (sIf (dOp2 oIs (dVar 1) (dC .non))
  (sCons (sRet (dVar 0))
  sNil)
  sNil)
  (sCons (sRet (dLc (iZipX (aCons (dVar 0) (aCons (dVar 2) aNil))) (bd2 3 4) dT (dIf (dOr (dOp2 oIs (dVar 4) (dC .non)) (dAnd (dOp2 oIsnt (dVar 3) (dC .non)) (dOp2 oLe (dVar 3) (dOp2 oAdd (dVar 1) (dVar 4))))) (dVar 3) (dOp2 oAdd (dVar 1) (dVar 4)))))
  sNil))
noncomputable def V_row_by_way : FD := mkFn 3 ["row", "begun", "through", "bound", "way"] D_row_by_way
noncomputable def D_closing : DenS :=
  (sCons (sIf (dOp2 oIs (dVar 0) (dC .non))
  (sCons (sRet (dC .non))
  sNil)
  sNil)
  (sCons (sSet 1 (dVar 0))
  (sCons (sFor (iRange1 (aCons (dBlt oLen (aCons (dVar 0) aNil)) aNil)) (gNm 2)
  (sCons (sSet 3 (dOp2 oIx (dVar 1) (dVar 2)))
  (sCons (sSet 1 (dLc (iSeq (dVar 1)) (bd1 4) dT (dCall V_row_by_way (aCons (dVar 4) (aCons (dOp2 oIx (dVar 4) (dVar 2)) (aCons (dVar 3) aNil))))))
  (sCons (sIf (dBlt oAny (aCons (dLc (iEnm (aCons (dVar 1) aNil)) (bd2 5 4) dT (dOp2 oLt (dOp2 oIx (dVar 4) (dVar 5)) (dC (.int 0)))) aNil))
  (sCons (sRet (dC .non))
  sNil)
  sNil)
  sNil))))
  (sCons (sRet (dBlt oTuple (aCons (dLc (iSeq (dVar 1)) (bd1 4) dT (dBlt oTuple (aCons (dVar 4) aNil))) aNil)))
  sNil))))
noncomputable def V_closing : FD := mkFn 1 ["gaps", "rows", "k", "through", "row", "i"] D_closing
noncomputable def D_values_in : DenS :=
  (sCons (sIf (dOp2 oIs (dVar 0) (dC .non))
  (sCons (sRet (dC .non))
  sNil)
  sNil)
  (sCons (sSet 1 (dLstM (aCons (dC (.int 0)) aNil)))
  (sCons (sFor (iRangeA (aCons (dC (.int 1)) (aCons (dBlt oLen (aCons (dVar 0) aNil)) aNil))) (gNm 2)
  (sCons (sSet 3 (dC .non))
  (sCons (sSet 4 (dC .non))
  (sCons (sForE (aCons (dVar 1) aNil) (gTu 2 (gAnd (gNm 5) (gAnd (gNm 6) gEnd)))
  (sCons (sSet 3 (dCall V_lesser (aCons (dVar 3) (aCons (dCall V_end_sum (aCons (dOp2 oIx (dOp2 oIx (dVar 0) (dVar 2)) (dVar 5)) (aCons (dVar 6) aNil))) aNil))))
  (sCons (sSet 4 (dCall V_lesser (aCons (dVar 4) (aCons (dCall V_end_sum (aCons (dOp2 oIx (dOp2 oIx (dVar 0) (dVar 5)) (dVar 2)) (aCons (dNeg (dVar 6)) aNil))) aNil))))
  sNil)))
  (sCons (sIf (dOp2 oIs (dVar 3) (dC .non))
  (sCons (sSet 3 (dIf (dOp2 oIs (dVar 4) (dC .non)) (dC (.int 0)) (dNeg (dVar 4))))
  sNil)
  sNil)
  (sCons (sExp (dApp (dVar 1) (dVar 3)))
  sNil))))))
  (sFrz 1 (sCons (sRet (dBlt oTuple (aCons (dSl (dVar 1) (some (dC (.int 1))) none) aNil)))
  sNil)))))
noncomputable def V_values_in : FD := mkFn 1 ["closed", "told", "k", "high", "opposite_low", "i", "number"] D_values_in
noncomputable def D_closed_differences : DenS :=
  (sCons (sExp (dCall V_refuse_wrong_differences (aCons (dVar 0) (aCons (dVar 1) aNil))))
  (sCons (sRet (dCall V_closing (aCons (dVar 1) aNil)))
  sNil))
noncomputable def V_closed_differences : FD := mkFn 2 ["many", "one"] D_closed_differences
noncomputable def D_some_values : DenS :=
  (sCons (sExp (dCall V_refuse_wrong_differences (aCons (dVar 0) (aCons (dVar 1) aNil))))
  (sCons (sRet (dCall V_values_in (aCons (dCall V_closing (aCons (dVar 1) aNil)) aNil)))
  sNil))
noncomputable def V_some_values : FD := mkFn 2 ["many", "one"] D_some_values
noncomputable def D_l_is_spots : DenS :=
  (sCons (sRet (dAnd (dIsi "tuple" (dVar 1)) (dAnd (dOp2 oEq (dBlt oLen (aCons (dVar 1) aNil)) (dVar 0)) (dBlt oAll (aCons (dLc (iSeq (dVar 1)) (bd1 2) dT (dCall V_l_is_whole (aCons (dVar 2) aNil))) aNil)))))
  sNil)
noncomputable def V_l_is_spots : FD := mkFn 2 ["_law_size_here", "_law_thing", "_law_each"] D_l_is_spots
noncomputable def D_l_closing : DenS :=
  (sCons (sIf (dOp2 oIs (dVar 1) (dC .non))
  (sCons (sRet (dC .non))
  sNil)
  sNil)
  (sCons (sRows 2 8 (iSeq (dVar 1)))
  (sCons (sFor (iRange1 (aCons (dOp2 oAdd (dVar 0) (dC (.int 1))) aNil)) (gNm 3)
  (sCons (sFor (iRange1 (aCons (dOp2 oAdd (dVar 0) (dC (.int 1))) aNil)) (gNm 4)
  (sCons (sSet 5 (dOp2 oIx (dOp2 oIx (dVar 2) (dVar 4)) (dVar 3)))
  (sCons (sFor (iRange1 (aCons (dOp2 oAdd (dVar 0) (dC (.int 1))) aNil)) (gNm 6)
  (sCons (sSet 7 (dOp2 oIx (dOp2 oIx (dVar 2) (dVar 3)) (dVar 6)))
  (sCons (sIf (dAnd (dOp2 oIsnt (dVar 5) (dC .non)) (dOp2 oIsnt (dVar 7) (dC .non)))
  (sCons (sIf (dOr (dOp2 oIs (dOp2 oIx (dOp2 oIx (dVar 2) (dVar 4)) (dVar 6)) (dC .non)) (dOp2 oLt (dOp2 oAdd (dVar 5) (dVar 7)) (dOp2 oIx (dOp2 oIx (dVar 2) (dVar 4)) (dVar 6))))
  (sCons (sAsg (gSb (dOp2 oIx (dVar 2) (dVar 4)) (dVar 6)) (dOp2 oAdd (dVar 5) (dVar 7)))
  sNil)
  sNil)
  sNil)
  sNil)
  sNil)))
  (sCons (sIf (dOp2 oLt (dOp2 oIx (dOp2 oIx (dVar 2) (dVar 4)) (dVar 4)) (dC (.int 0)))
  (sCons (sRet (dC .non))
  sNil)
  sNil)
  sNil))))
  sNil))
  (sThaw 2 (sCons (sRet (dBlt oTuple (aCons (dLc (iSeq (dVar 2)) (bd1 8) dT (dBlt oTuple (aCons (dVar 8) aNil))) aNil)))
  sNil)))))
noncomputable def V_l_closing : FD := mkFn 2 ["_law_size_here", "_law_wide", "_law_sums", "_law_between", "_law_here", "_law_ahead", "_law_there", "_law_behind", "_law_line"] D_l_closing
noncomputable def D_gaps_guarded : DenS :=
  (sCons (sIf (dOp2 oIs (dVar 0) (dC .non))
  (sCons (sRet (dC .non))
  sNil)
  sNil)
  (sCons (sRows 2 6 (iSeq (dVar 0)))
  (sCons (sFor (iSeq (dVar 1)) (gTu 3 (gAnd (gNm 3) (gAnd (gNm 4) (gAnd (gNm 5) gEnd))))
  (sCons (sAsg (gSb (dOp2 oIx (dVar 2) (dVar 3)) (dVar 4)) (dCall V_lesser (aCons (dOp2 oIx (dOp2 oIx (dVar 2) (dVar 3)) (dVar 4)) (aCons (dVar 5) aNil))))
  sNil))
  (sThaw 2 (sCons (sRet (dCall V_closing (aCons (dVar 2) aNil)))
  sNil)))))
noncomputable def V_gaps_guarded : FD := mkFn 2 ["gaps", "bounds", "rows", "i", "j", "bound", "row"] D_gaps_guarded
noncomputable def D_refuse_wrong_number : DenS :=
  (sCons (sIf (dNot (dCall V_is_whole (aCons (dVar 0) aNil)))
  (sCons sNo
  sNil)
  sNil)
  sNil)
noncomputable def V_refuse_wrong_number : FD := mkFn 1 ["number"] D_refuse_wrong_number
noncomputable def D_refuse_wrong_indexes : DenS :=
  (sCons (sFor (iSeq (dVar 1)) (gNm 2)
  (sCons (sIf (dNot (dCall V_is_index (aCons (dVar 2) (aCons (dOp2 oAdd (dVar 0) (dC (.int 1))) aNil))))
  (sCons sNo
  sNil)
  sNil)
  sNil))
  sNil)
noncomputable def V_refuse_wrong_indexes : FD := mkFn 2 ["many", "indexes", "index"] D_refuse_wrong_indexes
noncomputable def D_refuse_wrong_pair : DenS :=
  (sCons (sExp (dCall V_refuse_wrong_differences (aCons (dVar 0) (aCons (dVar 1) aNil))))
  (sCons (sExp (dCall V_refuse_wrong_indexes (aCons (dVar 0) (aCons (dTup (aCons (dVar 2) (aCons (dVar 3) aNil))) aNil))))
  (sCons (sExp (dCall V_refuse_wrong_number (aCons (dVar 4) aNil)))
  sNil)))
noncomputable def V_refuse_wrong_pair : FD := mkFn 5 ["many", "one", "first", "second", "number"] D_refuse_wrong_pair
noncomputable def D_values_apart : DenS :=
  (sCons (sExp (dCall V_refuse_wrong_pair (aCons (dVar 0) (aCons (dVar 1) (aCons (dVar 2) (aCons (dVar 3) (aCons (dVar 4) aNil)))))))
  (sCons (sRet (dCall V_values_in (aCons (dCall V_gaps_guarded (aCons (dVar 1) (aCons (dLst (aCons (dTup (aCons (dVar 2) (aCons (dVar 3) (aCons (dVar 4) aNil)))) (aCons (dTup (aCons (dVar 3) (aCons (dVar 2) (aCons (dNeg (dVar 4)) aNil)))) aNil))) aNil))) aNil)))
  sNil))
noncomputable def V_values_apart : FD := mkFn 5 ["many", "one", "first", "second", "number"] D_values_apart
noncomputable def D_bounds_within : DenS :=
  (sCons (sIf (dOr (dOp2 oIs (dVar 0) (dC .non)) (dOp2 oIs (dVar 1) (dC .non)))
  (sCons (sRet (dOp2 oIs (dVar 0) (dC .non)))
  sNil)
  sNil)
  (sCons (sFor (iZipX (aCons (dVar 0) (aCons (dVar 1) aNil))) (gTu 2 (gAnd (gNm 2) (gAnd (gNm 3) gEnd)))
  (sCons (sIf (dBlt oAny (aCons (dLc (iZipX (aCons (dVar 2) (aCons (dVar 3) aNil))) (bd2 4 5) dT (dCall V_is_above (aCons (dVar 4) (aCons (dVar 5) aNil)))) aNil))
  (sCons (sRet (dC (.bl false)))
  sNil)
  sNil)
  sNil))
  (sCons (sRet (dC (.bl true)))
  sNil)))
noncomputable def V_bounds_within : FD := mkFn 2 ["closed", "gaps", "row", "other", "bound", "beside"] D_bounds_within
noncomputable def D_gaps_within : DenS :=
  (sCons (sRet (dCall V_bounds_within (aCons (dCall V_closing (aCons (dVar 0) aNil)) (aCons (dVar 1) aNil))))
  sNil)
noncomputable def V_gaps_within : FD := mkFn 2 ["gaps", "other"] D_gaps_within
noncomputable def D_refuse_wrong_two : DenS :=
  (sCons (sExp (dCall V_refuse_wrong_differences (aCons (dVar 0) (aCons (dVar 1) aNil))))
  (sCons (sExp (dCall V_refuse_wrong_differences (aCons (dVar 0) (aCons (dVar 2) aNil))))
  sNil))
noncomputable def V_refuse_wrong_two : FD := mkFn 3 ["many", "one", "other"] D_refuse_wrong_two
noncomputable def D_differences_within : DenS :=
  (sCons (sExp (dCall V_refuse_wrong_two (aCons (dVar 0) (aCons (dVar 1) (aCons (dVar 2) aNil)))))
  (sCons (sRet (dCall V_gaps_within (aCons (dVar 1) (aCons (dVar 2) aNil))))
  sNil))
noncomputable def V_differences_within : FD := mkFn 3 ["many", "one", "other"] D_differences_within
noncomputable def D_l_with : DenS :=
  (sCons (sSet 4 (dOp2 oAdd (dOp2 oAdd (dSl (dOp2 oIx (dVar 0) (dVar 1)) none (some (dVar 2))) (dTup (aCons (dVar 3) aNil))) (dSl (dOp2 oIx (dVar 0) (dVar 1)) (some (dOp2 oAdd (dVar 2) (dC (.int 1)))) none)))
  (sCons (sRet (dOp2 oAdd (dOp2 oAdd (dSl (dVar 0) none (some (dVar 1))) (dTup (aCons (dVar 4) aNil))) (dSl (dVar 0) (some (dOp2 oAdd (dVar 1) (dC (.int 1)))) none)))
  sNil))
noncomputable def V_l_with : FD := mkFn 4 ["_law_grid", "_law_here", "_law_there", "_law_bound_here", "_law_line"] D_l_with
noncomputable def D_l_raised : DenS :=
  (sCons (sIf (dOp2 oIs (dVar 2) (dC .non))
  (sCons (sRet (dC .non))
  sNil)
  sNil)
  (sCons (sSet 3 (dLstM aNil))
  (sCons (sFor (iRange1 (aCons (dOp2 oAdd (dVar 1) (dC (.int 1))) aNil)) (gNm 4)
  (sCons (sSet 5 (dLstM aNil))
  (sCons (sFor (iRange1 (aCons (dOp2 oAdd (dVar 1) (dC (.int 1))) aNil)) (gNm 6)
  (sCons (sPar2 7 8 (aCons (dOp2 oIx (dOp2 oIx (dVar 2) (dVar 4)) (dVar 6)) (aCons (dCall V_l_draw (aCons (dVar 0) (aCons (dC (.int 8)) aNil))) aNil)))
  (sCons (sIf (dAnd (dOp2 oNe (dVar 4) (dVar 6)) (dAnd (dOp2 oIsnt (dVar 7) (dC .non)) (dOp2 oGt (dVar 8) (dC (.int 4)))))
  (sCons (sSet 7 (dIf (dOp2 oEq (dVar 8) (dC (.int 7))) (dC .non) (dOp2 oAdd (dVar 7) (dCall V_l_draw (aCons (dVar 0) (aCons (dC (.int 4)) aNil))))))
  sNil)
  sNil)
  (sCons (sExp (dApp (dVar 5) (dVar 7)))
  sNil))))
  (sCons (sExp (dApp (dVar 3) (dBlt oTuple (aCons (dVar 5) aNil))))
  sNil))))
  (sCons (sRet (dBlt oTuple (aCons (dVar 3) aNil)))
  sNil))))
noncomputable def V_l_raised : FD := mkFn 3 ["_law_spring_here", "_law_size_here", "_law_wide", "_law_lines", "_law_here", "_law_line", "_law_there", "_law_bound_here", "_law_way"] D_l_raised
noncomputable def D_l_beside : DenS :=
  (sCons (sPar2 4 5 (aCons (dCall V_l_draw (aCons (dVar 0) (aCons (dC (.int 8)) aNil))) (aCons (dCall V_l_closing (aCons (dVar 1) (aCons (dVar 2) aNil))) aNil)))
  (sCons (sIf (dOr (dOp2 oLt (dVar 4) (dC (.int 2))) (dOp2 oIs (dVar 5) (dC .non)))
  (sCons (sRet (dCall V_l_about (aCons (dVar 0) (aCons (dVar 1) (aCons (dIf (dOp2 oEq (dVar 4) (dC (.int 0))) (dVar 3) (dCall V_l_near_spots (aCons (dVar 0) (aCons (dVar 3) aNil)))) aNil)))))
  sNil)
  sNil)
  (sCons (sIf (dOp2 oLt (dVar 4) (dC (.int 4)))
  (sCons (sRet (dCall V_l_raised (aCons (dVar 0) (aCons (dVar 1) (aCons (dVar 2) aNil)))))
  sNil)
  sNil)
  (sCons (sIf (dOp2 oLt (dVar 4) (dC (.int 6)))
  (sCons (sSet 5 (dIf (dOp2 oEq (dVar 4) (dC (.int 4))) (dCall V_l_raised (aCons (dVar 0) (aCons (dVar 1) (aCons (dVar 5) aNil)))) (dVar 5)))
  (sCons (sRet (dVar 5))
  sNil))
  sNil)
  (sCons (sPar2 6 7 (aCons (dCall V_l_draw (aCons (dVar 0) (aCons (dOp2 oAdd (dVar 1) (dC (.int 1))) aNil))) (aCons (dCall V_l_draw (aCons (dVar 0) (aCons (dOp2 oAdd (dVar 1) (dC (.int 1))) aNil))) aNil)))
  (sCons (sSet 8 (dOp2 oIx (dOp2 oIx (dVar 5) (dVar 6)) (dVar 7)))
  (sCons (sIf (dOr (dOp2 oEq (dVar 6) (dVar 7)) (dOp2 oIs (dVar 8) (dC .non)))
  (sCons (sRet (dVar 5))
  sNil)
  sNil)
  (sCons (sRet (dCall V_l_with (aCons (dVar 5) (aCons (dVar 6) (aCons (dVar 7) (aCons (dIf (dOp2 oEq (dVar 4) (dC (.int 6))) (dOp2 oSub (dVar 8) (dC (.int 1))) (dOp2 oAdd (dVar 8) (dC (.int 1)))) aNil))))))
  sNil))))))))
noncomputable def V_l_beside : FD := mkFn 4 ["_law_spring_here", "_law_size_here", "_law_wide", "_law_base", "_law_way", "_law_close", "_law_here", "_law_there", "_law_bound_here"] D_l_beside
noncomputable def D_l_breaks : DenS :=
  (sCons (sSet 2 (dLstM aNil))
  (sCons (sFor (iRange1 (aCons (dBlt oLen (aCons (dVar 0) aNil)) aNil)) (gNm 3)
  (sCons (sFor (iRange1 (aCons (dBlt oLen (aCons (dVar 0) aNil)) aNil)) (gNm 4)
  (sCons (sPar2 5 6 (aCons (dOp2 oIx (dOp2 oIx (dVar 0) (dVar 3)) (dVar 4)) (aCons (dOp2 oIx (dOp2 oIx (dVar 1) (dVar 3)) (dVar 4)) aNil)))
  (sCons (sIf (dAnd (dOp2 oIsnt (dVar 6) (dC .non)) (dOr (dOp2 oIs (dVar 5) (dC .non)) (dOp2 oGt (dVar 5) (dVar 6))))
  (sCons (sExp (dApp (dVar 2) (dTup (aCons (dVar 3) (aCons (dVar 4) aNil)))))
  sNil)
  sNil)
  sNil)))
  sNil))
  (sFrz 2 (sCons (sRet (dVar 2))
  sNil))))
noncomputable def V_l_breaks : FD := mkFn 2 ["_law_close", "_law_near", "_law_places", "_law_here", "_law_there", "_law_bound_here", "_law_top"] D_l_breaks
noncomputable def D_l_within : DenS :=
  (sCons (sRet (dOr (dOp2 oIs (dVar 0) (dC .non)) (dAnd (dOp2 oIsnt (dVar 1) (dC .non)) (dOp2 oEq (dCall V_l_breaks (aCons (dVar 0) (aCons (dVar 1) aNil))) (dLst aNil)))))
  sNil)
noncomputable def V_l_within : FD := mkFn 2 ["_law_close", "_law_near"] D_l_within
noncomputable def D_greater : DenS :=
  (sCons (sRet (dIf (dCall V_is_above (aCons (dVar 0) (aCons (dVar 1) aNil))) (dVar 0) (dVar 1)))
  sNil)
noncomputable def V_greater : FD := mkFn 2 ["bound", "other"] D_greater
noncomputable def D_gaps_joined : DenS :=
  (sCons (sPar2 2 3 (aCons (dCall V_closing (aCons (dVar 0) aNil)) (aCons (dCall V_closing (aCons (dVar 1) aNil)) aNil)))
  (sCons (sIf (dOr (dOp2 oIs (dVar 2) (dC .non)) (dOp2 oIs (dVar 3) (dC .non)))
  (sCons (sRet (dIf (dOp2 oIs (dVar 2) (dC .non)) (dVar 3) (dVar 2)))
  sNil)
  sNil)
  (sCons (sRet (dBlt oTuple (aCons (dLc (iZipX (aCons (dVar 2) (aCons (dVar 3) aNil))) (bd2 6 7) dT (dBlt oTuple (aCons (dLc (iZipX (aCons (dVar 6) (aCons (dVar 7) aNil))) (bd2 4 5) dT (dCall V_greater (aCons (dVar 4) (aCons (dVar 5) aNil)))) aNil))) aNil)))
  sNil)))
noncomputable def V_gaps_joined : FD := mkFn 2 ["gaps", "other", "closed", "beside", "one", "two", "row", "rest"] D_gaps_joined
noncomputable def D_gaps_met : DenS :=
  (sCons (sIf (dOr (dOp2 oIs (dVar 0) (dC .non)) (dOp2 oIs (dVar 1) (dC .non)))
  (sCons (sRet (dC .non))
  sNil)
  sNil)
  (sCons (sRet (dCall V_closing (aCons (dLc (iZipX (aCons (dVar 0) (aCons (dVar 1) aNil))) (bd2 4 5) dT (dLc (iZipX (aCons (dVar 4) (aCons (dVar 5) aNil))) (bd2 2 3) dT (dCall V_lesser (aCons (dVar 2) (aCons (dVar 3) aNil))))) aNil)))
  sNil))
noncomputable def V_gaps_met : FD := mkFn 2 ["gaps", "other", "one", "two", "row", "rest"] D_gaps_met
noncomputable def D_differences_joined : DenS :=
  (sCons (sExp (dCall V_refuse_wrong_two (aCons (dVar 0) (aCons (dVar 1) (aCons (dVar 2) aNil)))))
  (sCons (sRet (dCall V_gaps_joined (aCons (dVar 1) (aCons (dVar 2) aNil))))
  sNil))
noncomputable def V_differences_joined : FD := mkFn 3 ["many", "one", "other"] D_differences_joined
noncomputable def D_differences_met : DenS :=
  (sCons (sExp (dCall V_refuse_wrong_two (aCons (dVar 0) (aCons (dVar 1) (aCons (dVar 2) aNil)))))
  (sCons (sRet (dCall V_gaps_met (aCons (dVar 1) (aCons (dVar 2) aNil))))
  sNil))
noncomputable def V_differences_met : FD := mkFn 3 ["many", "one", "other"] D_differences_met
noncomputable def D_l_lesser : DenS :=
  (sCons (sIf (dOr (dOp2 oIs (dVar 0) (dC .non)) (dOp2 oIs (dVar 1) (dC .non)))
  (sCons (sRet (dIf (dOp2 oIs (dVar 0) (dC .non)) (dVar 1) (dVar 0)))
  sNil)
  sNil)
  (sCons (sRet (dBlt oMin2 (aCons (dVar 0) (aCons (dVar 1) aNil))))
  sNil))
noncomputable def V_l_lesser : FD := mkFn 2 ["_law_bound_here", "_law_other_bound"] D_l_lesser
noncomputable def D_l_greater : DenS :=
  (sCons (sRet (dIf (dOr (dOp2 oIs (dVar 0) (dC .non)) (dOp2 oIs (dVar 1) (dC .non))) (dC .non) (dBlt oMax2 (aCons (dVar 0) (aCons (dVar 1) aNil)))))
  sNil)
noncomputable def V_l_greater : FD := mkFn 2 ["_law_bound_here", "_law_other_bound"] D_l_greater
noncomputable def D_l_joined : DenS :=
  (sCons (sIf (dOr (dOp2 oIs (dVar 0) (dC .non)) (dOp2 oIs (dVar 1) (dC .non)))
  (sCons (sRet (dIf (dOp2 oIs (dVar 0) (dC .non)) (dVar 1) (dVar 0)))
  sNil)
  sNil)
  (sCons (sRet (dBlt oTuple (aCons (dLc (iZipX (aCons (dVar 0) (aCons (dVar 1) aNil))) (bd2 4 5) dT (dBlt oTuple (aCons (dLc (iZipX (aCons (dVar 4) (aCons (dVar 5) aNil))) (bd2 2 3) dT (dCall V_l_greater (aCons (dVar 2) (aCons (dVar 3) aNil)))) aNil))) aNil)))
  sNil))
noncomputable def V_l_joined : FD := mkFn 2 ["_law_close", "_law_near", "_law_x", "_law_y", "_law_line", "_law_side"] D_l_joined
noncomputable def D_gaps_unlike : DenS :=
  (sCons (sSet 4 (dCall V_gaps_guarded (aCons (dVar 0) (aCons (dLst (aCons (dTup (aCons (dVar 1) (aCons (dVar 2) (aCons (dOp2 oSub (dVar 3) (dC (.int 1))) aNil)))) aNil)) aNil))))
  (sCons (sSet 5 (dCall V_gaps_guarded (aCons (dVar 0) (aCons (dLst (aCons (dTup (aCons (dVar 2) (aCons (dVar 1) (aCons (dOp2 oSub (dNeg (dVar 3)) (dC (.int 1))) aNil)))) aNil)) aNil))))
  (sCons (sRet (dCall V_gaps_joined (aCons (dVar 4) (aCons (dVar 5) aNil))))
  sNil)))
noncomputable def V_gaps_unlike : FD := mkFn 4 ["gaps", "first", "second", "number", "below", "above"] D_gaps_unlike
noncomputable def D_differences_guarded : DenS :=
  (sCons (sExp (dCall V_refuse_wrong_pair (aCons (dVar 0) (aCons (dVar 1) (aCons (dVar 2) (aCons (dVar 3) (aCons (dVar 4) aNil)))))))
  (sCons (sRet (dCall V_gaps_guarded (aCons (dVar 1) (aCons (dLst (aCons (dTup (aCons (dVar 2) (aCons (dVar 3) (aCons (dVar 4) aNil)))) aNil)) aNil))))
  sNil))
noncomputable def V_differences_guarded : FD := mkFn 5 ["many", "one", "first", "second", "number"] D_differences_guarded
noncomputable def D_differences_unlike : DenS :=
  (sCons (sExp (dCall V_refuse_wrong_pair (aCons (dVar 0) (aCons (dVar 1) (aCons (dVar 2) (aCons (dVar 3) (aCons (dVar 4) aNil)))))))
  (sCons (sRet (dCall V_gaps_unlike (aCons (dVar 1) (aCons (dVar 2) (aCons (dVar 3) (aCons (dVar 4) aNil))))))
  sNil))
noncomputable def V_differences_unlike : FD := mkFn 5 ["many", "one", "first", "second", "number"] D_differences_unlike
noncomputable def D_closed_forgotten : DenS :=
  (sCons (sIf (dOp2 oIs (dVar 0) (dC .non))
  (sCons (sRet (dC .non))
  sNil)
  sNil)
  (sCons (sRet (dBlt oTuple (aCons (dLc (iEnm (aCons (dVar 0) aNil)) (bd2 4 5) dT (dBlt oTuple (aCons (dLc (iEnm (aCons (dVar 5) aNil)) (bd2 2 3) dT (dIf (dOp2 oEq (dVar 4) (dVar 2)) (dC (.int 0)) (dIf (dOp2 oIn (dVar 1) (dTup (aCons (dVar 4) (aCons (dVar 2) aNil)))) (dC .non) (dVar 3)))) aNil))) aNil)))
  sNil))
noncomputable def V_closed_forgotten : FD := mkFn 2 ["closed", "slot", "j", "bound", "i", "row"] D_closed_forgotten
noncomputable def D_closed_set : DenS :=
  (sCons (sIf (dOp2 oIs (dVar 0) (dC .non))
  (sCons (sRet (dC .non))
  sNil)
  sNil)
  (sCons (sRows 4 6 (iSeq (dVar 0)))
  (sCons (sFor (iRange1 (aCons (dBlt oLen (aCons (dVar 0) aNil)) aNil)) (gNm 5)
  (sCons (sIf (dOp2 oNe (dVar 5) (dVar 1))
  (sCons (sAsg (gSb (dOp2 oIx (dVar 4) (dVar 1)) (dVar 5)) (dCall V_end_sum (aCons (dOp2 oIx (dOp2 oIx (dVar 0) (dVar 2)) (dVar 5)) (aCons (dVar 3) aNil))))
  (sCons (sAsg (gSb (dOp2 oIx (dVar 4) (dVar 5)) (dVar 1)) (dCall V_end_sum (aCons (dOp2 oIx (dOp2 oIx (dVar 0) (dVar 5)) (dVar 2)) (aCons (dNeg (dVar 3)) aNil))))
  sNil))
  sNil)
  sNil))
  (sThaw 4 (sCons (sRet (dBlt oTuple (aCons (dLc (iSeq (dVar 4)) (bd1 6) dT (dBlt oTuple (aCons (dVar 6) aNil))) aNil)))
  sNil)))))
noncomputable def V_closed_set : FD := mkFn 4 ["closed", "slot", "source", "number", "rows", "m", "row"] D_closed_set
noncomputable def D_refuse_wrong_slot : DenS :=
  (sCons (sIf (dOr (dNot (dCall V_is_whole (aCons (dVar 1) aNil))) (dNot (dChain oLe oLe (dC (.int 1)) (dVar 1) (dVar 0))))
  (sCons sNo
  sNil)
  sNil)
  sNil)
noncomputable def V_refuse_wrong_slot : FD := mkFn 2 ["many", "slot"] D_refuse_wrong_slot
noncomputable def D_refuse_wrong_slots : DenS :=
  (sCons (sIf (dOr (dNot (dIsi "tuple" (dVar 1))) (dOp2 oGt (dBlt oLen (aCons (dVar 1) aNil)) (dC (.int 20))))
  (sCons sNo
  sNil)
  sNil)
  (sCons (sForE (aCons (dVar 1) aNil) (gTu 2 (gAnd (gNm 2) (gAnd (gNm 3) gEnd)))
  (sCons (sIf (dAnd (dOp2 oIsnt (dVar 3) (dC .non)) (dOr (dNot (dCall V_is_whole (aCons (dVar 3) aNil))) (dOr (dNot (dChain oLe oLe (dC (.int 1)) (dVar 3) (dVar 0))) (dOp2 oIn (dVar 3) (dSl (dVar 1) none (some (dVar 2)))))))
  (sCons sNo
  sNil)
  sNil)
  sNil))
  sNil))
noncomputable def V_refuse_wrong_slots : FD := mkFn 2 ["many", "slots", "index", "slot"] D_refuse_wrong_slots
noncomputable def D_differences_forgotten : DenS :=
  (sCons (sExp (dCall V_refuse_wrong_differences (aCons (dVar 0) (aCons (dVar 1) aNil))))
  (sCons (sExp (dCall V_refuse_wrong_slot (aCons (dVar 0) (aCons (dVar 2) aNil))))
  (sCons (sRet (dCall V_closed_forgotten (aCons (dCall V_closing (aCons (dVar 1) aNil)) (aCons (dVar 2) aNil))))
  sNil)))
noncomputable def V_differences_forgotten : FD := mkFn 3 ["many", "one", "slot"] D_differences_forgotten
noncomputable def D_differences_set : DenS :=
  (sCons (sExp (dCall V_refuse_wrong_differences (aCons (dVar 0) (aCons (dVar 1) aNil))))
  (sCons (sExp (dCall V_refuse_wrong_slot (aCons (dVar 0) (aCons (dVar 2) aNil))))
  (sCons (sExp (dCall V_refuse_wrong_indexes (aCons (dVar 0) (aCons (dTup (aCons (dVar 3) aNil)) aNil))))
  (sCons (sExp (dCall V_refuse_wrong_number (aCons (dVar 4) aNil)))
  (sCons (sRet (dCall V_closed_set (aCons (dCall V_closing (aCons (dVar 1) aNil)) (aCons (dVar 2) (aCons (dVar 3) (aCons (dVar 4) aNil))))))
  sNil)))))
noncomputable def V_differences_set : FD := mkFn 5 ["many", "one", "slot", "source", "number"] D_differences_set
end Lw

namespace Lw
open PySem PySem.Spec L2 Eg
noncomputable def D_l_spring : DenS :=
  (sCons (sSet 2 (dOp2 oAdd (dC (.int 6600853)) (dOp2 oMul (dC (.int 90019)) (dVar 1))))
  (sCons (sFor (iSeq (dSl (dVar 0) none (some (dC (.int 8))))) (gNm 3)
  (sCons (sSet 2 (dOp2 oMod (dBlt oInt (aCons (dOp2 oAdd (dOp2 oAdd (dOp2 oMul (dVar 2) (dC (.int 52361))) (dOp2 oMod (dBlt oInt (aCons (dVar 3) aNil)) (dC (.int 2147482951)))) (dC (.int 11))) aNil)) (dC (.int 2147483477))))
  sNil))
  (sCons (sSet 4 (dIf (dOp2 oLt (dVar 1) (dBlt oLen (aCons (dVar 0) aNil))) (dBlt oInt (aCons (dOp2 oIx (dVar 0) (dVar 1)) aNil)) (dC (.int 0))))
  (sCons (sSet 2 (dOp2 oMod (dBlt oInt (aCons (dOp2 oAdd (dOp2 oAdd (dOp2 oMul (dVar 2) (dC (.int 37))) (dOp2 oMul (dOp2 oMod (dBlt oInt (aCons (dVar 4) aNil)) (dC (.int 2147482951))) (dC (.int 30011)))) (dC (.int 3))) aNil)) (dC (.int 2147483477))))
  (sCons (sRet (dLstM (aCons (dIf (dOr (dOp2 oLt (dVar 4) (dC (.int 0))) (dOp2 oGe (dVar 4) (dOp2 oPow (dC (.int 10)) (dC (.int 15))))) (dBlt oAbs (aCons (dVar 4) aNil)) (dC (.int 0))) (aCons (dVar 2) (aCons (dC (.int 0)) aNil)))))
  sNil)))))
noncomputable def V_l_spring : FD := mkFn 2 ["_law_script", "_law_turn", "_law_mixed", "_law_cell", "_law_own"] D_l_spring
noncomputable def D_l_size_o : DenS :=
  (sCons (sIf (dOp2 oEq (dCall V_l_draw (aCons (dVar 0) (aCons (dC (.int 24)) aNil))) (dC (.int 23)))
  (sCons (sRet (dOp2 oAdd (dC (.int 6)) (dCall V_l_draw (aCons (dVar 0) (aCons (dC (.int 7)) aNil)))))
  sNil)
  sNil)
  (sCons (sRet (dCall V_l_pick (aCons (dVar 0) (aCons (dTup (aCons (dC (.int 2)) (aCons (dC (.int 3)) (aCons (dC (.int 1)) (aCons (dC (.int 2)) (aCons (dC (.int 3)) (aCons (dC (.int 0)) (aCons (dC (.int 4)) (aCons (dC (.int 5)) aNil))))))))) aNil))))
  sNil))
noncomputable def V_l_size_o : FD := mkFn 1 ["_law_spring_here"] D_l_size_o
noncomputable def D_l_bound_o : DenS :=
  (sCons (sIf (dOp2 oLt (dCall V_l_draw (aCons (dVar 0) (aCons (dC (.int 4)) aNil))) (dVar 2))
  (sCons (sRet (dC .non))
  sNil)
  sNil)
  (sCons (sIf (dOp2 oLt (dVar 1) (dC (.int 8)))
  (sCons (sRet (dOp2 oAdd (dVar 3) (dCall V_l_pick (aCons (dVar 0) (aCons (dTup (aCons (dC (.int 0)) (aCons (dC (.int 1)) (aCons (dC (.int 0)) (aCons (dC (.int 2)) (aCons (dC (.int 5)) (aCons (dC (.int 0)) (aCons (dC (.int 3)) (aCons (dC (.int 1)) aNil))))))))) aNil)))))
  sNil)
  sNil)
  (sCons (sIf (dOp2 oLt (dVar 1) (dC (.int 11)))
  (sCons (sRet (dOp2 oAdd (dVar 3) (dCall V_l_pick (aCons (dVar 0) (aCons (dTup (aCons (dC (.int 0)) (aCons (dC (.int 1)) (aCons (dC (.int 3)) (aCons (dC (.int 0)) (aCons (dNeg (dC (.int 1))) (aCons (dC (.int 2)) (aCons (dC (.int 0)) (aCons (dC (.int 1)) aNil))))))))) aNil)))))
  sNil)
  sNil)
  (sCons (sRet (dOp2 oSub (dCall V_l_draw (aCons (dVar 0) (aCons (dC (.int 11)) aNil))) (dC (.int 4))))
  sNil))))
noncomputable def V_l_bound_o : FD := mkFn 4 ["_law_spring_here", "_law_way", "_law_share", "_law_gap_here"] D_l_bound_o
noncomputable def D_l_about_o : DenS :=
  (sCons (sAsg (gTu 4 (gAnd (gNm 3) (gAnd (gNm 4) (gAnd (gNm 5) (gAnd (gNm 6) gEnd))))) (dTup (aCons (dCall V_l_draw (aCons (dVar 0) (aCons (dC (.int 13)) aNil))) (aCons (dCall V_l_draw (aCons (dVar 0) (aCons (dC (.int 4)) aNil))) (aCons (dOp2 oAdd (dTup (aCons (dC (.int 0)) aNil)) (dVar 2)) (aCons (dLstM aNil) aNil))))))
  (sCons (sIf (dOp2 oEq (dVar 3) (dC (.int 12)))
  (sCons (sRet (dC .non))
  sNil)
  sNil)
  (sCons (sFor (iRange1 (aCons (dOp2 oAdd (dVar 1) (dC (.int 1))) aNil)) (gNm 7)
  (sCons (sSet 8 (dLstM aNil))
  (sCons (sFor (iRange1 (aCons (dOp2 oAdd (dVar 1) (dC (.int 1))) aNil)) (gNm 9)
  (sCons (sExp (dApp (dVar 8) (dIf (dOp2 oEq (dVar 7) (dVar 9)) (dC (.int 0)) (dCall V_l_bound_o (aCons (dVar 0) (aCons (dVar 3) (aCons (dVar 4) (aCons (dOp2 oSub (dOp2 oIx (dVar 5) (dVar 7)) (dOp2 oIx (dVar 5) (dVar 9))) aNil))))))))
  sNil))
  (sCons (sExp (dApp (dVar 6) (dBlt oTuple (aCons (dVar 8) aNil))))
  sNil))))
  (sCons (sRet (dBlt oTuple (aCons (dVar 6) aNil)))
  sNil))))
noncomputable def V_l_about_o : FD := mkFn 3 ["_law_spring_here", "_law_size_here", "_law_base", "_law_way", "_law_share", "_law_full", "_law_lines", "_law_here", "_law_line", "_law_there"] D_l_about_o
noncomputable def D_l_guarded : DenS :=
  (sCons (sIf (dOr (dOp2 oIs (dVar 1) (dC .non)) (dAnd (dOp2 oEq (dVar 2) (dVar 3)) (dOp2 oLt (dVar 4) (dC (.int 0)))))
  (sCons (sRet (dC .non))
  sNil)
  sNil)
  (sCons (sIf (dOp2 oEq (dVar 2) (dVar 3))
  (sCons (sRet (dCall V_l_closing (aCons (dVar 0) (aCons (dVar 1) aNil))))
  sNil)
  sNil)
  (sCons (sRet (dCall V_l_closing (aCons (dVar 0) (aCons (dCall V_l_with (aCons (dVar 1) (aCons (dVar 2) (aCons (dVar 3) (aCons (dCall V_l_lesser (aCons (dOp2 oIx (dOp2 oIx (dVar 1) (dVar 2)) (dVar 3)) (aCons (dVar 4) aNil))) aNil))))) aNil))))
  sNil)))
noncomputable def V_l_guarded : FD := mkFn 5 ["_law_size_here", "_law_wide", "_law_here", "_law_there", "_law_gap_here"] D_l_guarded
noncomputable def D_l_gap : DenS :=
  (sCons (sSet 4 (dCall V_l_draw (aCons (dVar 0) (aCons (dC (.int 8)) aNil))))
  (sCons (sSet 5 (dIf (dOp2 oIs (dVar 1) (dC .non)) (dC .non) (dOp2 oIx (dOp2 oIx (dVar 1) (dVar 3)) (dVar 2))))
  (sCons (sSet 6 (dIf (dOp2 oIs (dVar 1) (dC .non)) (dC .non) (dOp2 oIx (dOp2 oIx (dVar 1) (dVar 2)) (dVar 3))))
  (sCons (sIf (dAnd (dOp2 oLt (dVar 4) (dC (.int 3))) (dOp2 oIsnt (dVar 6) (dC .non)))
  (sCons (sRet (dOp2 oSub (dOp2 oAdd (dVar 6) (dVar 4)) (dC (.int 1))))
  sNil)
  sNil)
  (sCons (sIf (dAnd (dOp2 oLt (dVar 4) (dC (.int 6))) (dOp2 oIsnt (dVar 5) (dC .non)))
  (sCons (sRet (dOp2 oSub (dOp2 oAdd (dOp2 oSub (dC (.int 0)) (dVar 5)) (dVar 4)) (dC (.int 4))))
  sNil)
  sNil)
  (sCons (sIf (dAnd (dOp2 oEq (dVar 4) (dC (.int 6))) (dAnd (dOp2 oIsnt (dVar 5) (dC .non)) (dOp2 oIsnt (dVar 6) (dC .non))))
  (sCons (sRet (dOp2 oSub (dCall V_l_draw (aCons (dVar 0) (aCons (dOp2 oAdd (dOp2 oAdd (dVar 5) (dVar 6)) (dC (.int 1))) aNil))) (dVar 5)))
  sNil)
  sNil)
  (sCons (sRet (dOp2 oSub (dCall V_l_draw (aCons (dVar 0) (aCons (dC (.int 13)) aNil))) (dC (.int 6))))
  sNil)))))))
noncomputable def V_l_gap : FD := mkFn 4 ["_law_spring_here", "_law_close", "_law_here", "_law_there", "_law_way", "_law_low", "_law_high"] D_l_gap
noncomputable def D_l_deed_right : DenS :=
  (sCons (sPar2 5 6 (aCons (dCall V_l_draw (aCons (dVar 0) (aCons (dOp2 oAdd (dVar 1) (dC (.int 1))) aNil))) (aCons (dCall V_l_draw (aCons (dVar 0) (aCons (dOp2 oAdd (dVar 1) (dC (.int 1))) aNil))) aNil)))
  (sCons (sSet 7 (dCall V_l_gap (aCons (dVar 0) (aCons (dVar 3) (aCons (dVar 5) (aCons (dVar 6) aNil))))))
  (sCons (sSet 8 (dCall V_l_guarded (aCons (dVar 1) (aCons (dVar 2) (aCons (dVar 5) (aCons (dVar 6) (aCons (dVar 7) aNil)))))))
  (sCons (sSet 9 (dCall V_l_guarded (aCons (dVar 1) (aCons (dVar 2) (aCons (dVar 6) (aCons (dVar 5) (aCons (dOp2 oSub (dOp2 oSub (dC (.int 0)) (dVar 7)) (dC (.int 1))) aNil)))))))
  (sCons (sSet 10 (dCall V_l_joined (aCons (dCall V_l_guarded (aCons (dVar 1) (aCons (dVar 2) (aCons (dVar 5) (aCons (dVar 6) (aCons (dOp2 oSub (dVar 7) (dC (.int 1))) aNil)))))) (aCons (dVar 9) aNil))))
  (sCons (sSet 11 (dLstM (aCons (dCall V_differences_guarded (aCons (dVar 1) (aCons (dVar 2) (aCons (dVar 5) (aCons (dVar 6) (aCons (dVar 7) aNil)))))) aNil)))
  (sCons (sExp (dApp (dVar 11) (dCallW 5 [4, 3, 2, 1, 0] V_differences_guarded (aCons (dVar 7) (aCons (dVar 6) (aCons (dVar 5) (aCons (dVar 2) (aCons (dVar 1) aNil))))))))
  (sCons (sExp (dApp (dVar 11) (dCall V_differences_unlike (aCons (dVar 1) (aCons (dVar 2) (aCons (dVar 5) (aCons (dVar 6) (aCons (dVar 7) aNil))))))))
  (sCons (sExp (dApp (dVar 11) (dCallW 5 [4, 3, 2, 1, 0] V_differences_unlike (aCons (dVar 7) (aCons (dVar 6) (aCons (dVar 5) (aCons (dVar 2) (aCons (dVar 1) aNil))))))))
  (sFrz 11 (sCons (sIf (dOp2 oNeR (dBlt oRepr (aCons (dVar 11) aNil)) (dBlt oRepr (aCons (dLst (aCons (dVar 8) (aCons (dVar 8) (aCons (dVar 10) (aCons (dVar 10) aNil))))) aNil)))
  (sCons (sRet (dC (.bl false)))
  sNil)
  sNil)
  (sCons (sFor (iSeq (dVar 4)) (gNm 12)
  (sCons (sPar2 13 14 (aCons (dOp2 oAdd (dTup (aCons (dC (.int 0)) aNil)) (dVar 12)) (aCons (dCall V_l_holds (aCons (dVar 2) (aCons (dVar 12) aNil))) aNil)))
  (sCons (sSet 11 (dTup (aCons (dCall V_differences_hold (aCons (dVar 1) (aCons (dVar 8) (aCons (dVar 12) aNil)))) (aCons (dCall V_differences_hold (aCons (dVar 1) (aCons (dVar 10) (aCons (dVar 12) aNil)))) aNil))))
  (sCons (sIf (dOr (dOp2 oNeR (dBlt oRepr (aCons (dOp2 oIx (dVar 11) (dC (.int 0))) aNil)) (dBlt oRepr (aCons (dAnd (dVar 14) (dOp2 oLe (dOp2 oSub (dOp2 oIx (dVar 13) (dVar 5)) (dOp2 oIx (dVar 13) (dVar 6))) (dVar 7))) aNil))) (dNot (dIsi "bool" (dOp2 oIx (dVar 11) (dC (.int 1))))))
  (sCons (sRet (dC (.bl false)))
  sNil)
  sNil)
  (sCons (sIf (dAnd (dVar 14) (dAnd (dOp2 oNe (dOp2 oSub (dOp2 oIx (dVar 13) (dVar 5)) (dOp2 oIx (dVar 13) (dVar 6))) (dVar 7)) (dNot (dOp2 oIx (dVar 11) (dC (.int 1))))))
  (sCons (sRet (dC (.bl false)))
  sNil)
  sNil)
  sNil)))))
  (sCons (sRet (dC (.bl true)))
  sNil)))))))))))))
noncomputable def V_l_deed_right : FD := mkFn 5 ["_law_spring_here", "_law_size_here", "_law_wide", "_law_close", "_law_points", "_law_here", "_law_there", "_law_gap_here", "_law_low", "_law_above", "_law_apart", "_law_told", "_law_spots_here", "_law_full", "_law_is_held"] D_l_deed_right
noncomputable def D_l_right : DenS :=
  (sCons (sSet 1 (dCall V_l_size_o (aCons (dVar 0) aNil)))
  (sCons (sSet 2 (dCall V_l_spots (aCons (dVar 0) (aCons (dVar 1) aNil))))
  (sCons (sSet 3 (dCall V_l_about_o (aCons (dVar 0) (aCons (dVar 1) (aCons (dVar 2) aNil)))))
  (sCons (sSet 4 (dCall V_l_closing (aCons (dVar 1) (aCons (dVar 3) aNil))))
  (sCons (sSet 5 (dLst (aCons (dVar 2) (aCons (dCall V_l_near_spots (aCons (dVar 0) (aCons (dVar 2) aNil))) (aCons (dCall V_l_spots (aCons (dVar 0) (aCons (dVar 1) aNil))) aNil)))))
  (sCons (sFor (iRange1 (aCons (dC (.int 4)) aNil)) (gNm 6)
  (sCons (sIf (dNot (dCall V_l_deed_right (aCons (dVar 0) (aCons (dVar 1) (aCons (dVar 3) (aCons (dVar 4) (aCons (dVar 5) aNil)))))))
  (sCons (sRet (dC (.bl false)))
  sNil)
  sNil)
  sNil))
  (sCons (sRet (dC (.bl true)))
  sNil)))))))
noncomputable def V_l_right : FD := mkFn 1 ["_law_spring_here", "_law_size_here", "_law_base", "_law_wide", "_law_close", "_law_points", "_law_turn"] D_l_right
noncomputable def D_l_law : DenS :=
  (sCons (sRet (dBlt oAll (aCons (dLc (iRange1 (aCons (dBlt oMax2 (aCons (dC (.int 2)) (aCons (dBlt oMin2 (aCons (dBlt oLen (aCons (dVar 0) aNil)) (aCons (dC (.int 3)) aNil))) aNil))) aNil)) (bd1 1) dT (dCut (dCall V_l_right (aCons (dCall V_l_spring (aCons (dVar 0) (aCons (dVar 1) aNil))) aNil)))) aNil)))
  sNil)
noncomputable def V_l_law : FD := mkFn 1 ["_law_script", "_law_turn"] D_l_law
end Lw

namespace Lw
open PySem PySem.Spec L2 Eg
local macro_rules | `(tactic| walk_at "vis") => `(tactic| first | exact Or.inl rfl | exact Or.inr (Or.inl rfl) | exact Or.inr (Or.inr rfl))
local macro_rules | `(tactic| walk_at "loc") => `(tactic| first | exact Or.inl rfl | exact Or.inr rfl)
section
variable {P : Program} {w : World} {K : PySem.W.Frag} {mg : Str → Option Value} {base : Heap}
theorem okG_is_whole (T : Fx K mg) (hB : ∃ mm, base.Ns sysModules mm) {fd : FuncData} (F : FunD K dis_whole.name dis_whole.qual dis_whole.params dis_whole.body dis_whole.scope (dis_whole.dvs K) (dis_whole.kws K) (He.fAd K dis_whole.at_) fd) : FnG P w K mg base 1 (He.fAd K dis_whole.at_) fd ["value"] (SpD K (CtrOf V_is_whole)) :=
  FnG.den (k := 0) F scis_whole rfl fun cd A outer s H hg hr hnd =>
  (SS.cons (S1.ret (SE.and (SE.isi rfl T.n_isinstance rfl T.n_int (by decide) (by decide +kernel) (by decide) (by decide) (SE.var 0 rfl (by walk_at "vis"))) (SE.one (SE.not (SE.isi rfl T.n_isinstance rfl T.n_bool (by decide) (by decide +kernel) (by decide) (by decide) (SE.var 0 rfl (by walk_at "vis")))))))
  SS.nil)
theorem ok_is_whole (T : Fx K mg) (hB : ∃ mm, base.Ns sysModules mm) : Fn P w K mg base "is_whole" 1 (CtrOf V_is_whole) := by
  obtain ⟨fd, F⟩ := T.d_is_whole
  exact ⟨_, _, _, okG_is_whole T hB F, T.g_is_whole, F.kp, F.bindsN fun _ _ _ _ _ _ us hl => match us, hl with | [_], _ => rfl⟩
theorem okG_is_index (T : Fx K mg) (hB : ∃ mm, base.Ns sysModules mm) {fd : FuncData} (F : FunD K dis_index.name dis_index.qual dis_index.params dis_index.body dis_index.scope (dis_index.dvs K) (dis_index.kws K) (He.fAd K dis_index.at_) fd) : FnG P w K mg base 2 (He.fAd K dis_index.at_) fd ["value", "size"] (SpD K (CtrOf V_is_index)) :=
  FnG.den (k := 1) F scis_index rfl fun cd A outer s H hg hr hnd =>
  (SS.cons (S1.ret (SE.and (SE.call (ok_is_whole T hB) hg (hr.mono (by omega)) rfl (SAr.cons (SE.var 0 rfl (by walk_at "vis")) SAr.nil)) (SE.one (SE.chain rfl rfl hr.units SE.int (SE.var 0 rfl (by walk_at "vis")) (SE.var 1 rfl (by walk_at "vis"))))))
  SS.nil)
theorem ok_is_index (T : Fx K mg) (hB : ∃ mm, base.Ns sysModules mm) : Fn P w K mg base "is_index" 2 (CtrOf V_is_index) := by
  obtain ⟨fd, F⟩ := T.d_is_index
  exact ⟨_, _, _, okG_is_index T hB F, T.g_is_index, F.kp, F.bindsN fun _ _ _ _ _ _ us hl => match us, hl with | [_, _], _ => rfl⟩
theorem okG_is_gap_row (T : Fx K mg) (hB : ∃ mm, base.Ns sysModules mm) {fd : FuncData} (F : FunD K dis_gap_row.name dis_gap_row.qual dis_gap_row.params dis_gap_row.body dis_gap_row.scope (dis_gap_row.dvs K) (dis_gap_row.kws K) (He.fAd K dis_gap_row.at_) fd) : FnG P w K mg base 2 (He.fAd K dis_gap_row.at_) fd ["many", "at", "value"] (SpD K (CtrOf V_is_gap_row)) :=
  FnG.den (k := 1) F scis_gap_row rfl fun cd A outer s H hg hr hnd =>
  (SS.cons (S1.ifS (ST.w (SW.or (ST.not (ST.val (SE.isi rfl T.n_isinstance rfl T.n_tuple (by decide) (by decide +kernel) (by decide) (by decide) (SE.var 2 rfl (by walk_at "vis"))))) (SW.or1 (ST.cmp rfl hr.units (SE.len rfl T.n_len (SAr.cons (SE.var 2 rfl (by walk_at "vis")) SAr.nil)) (SE.add (SE.var 0 rfl (by walk_at "vis")) SE.int)))))
  (SS.cons (S1.ret SE.bl)
  SS.nil)
  SS.nil)
  (SS.cons (S1.ifS (ST.not (ST.val (SE.all rfl rfl T.n_all (SAr.cons (SE.lc 3 rfl hnd rfl (blkOk_by (by kernel_rfl)) (fun _ _ _ _ _ => ⟨by walk_at "loc", by walk_at "loc"⟩) (SI.seq (SE.var 2 rfl (by walk_at "vis"))) (fun _ _ _ _ _ => (SE.or (SE.cmp rfl hr.units (SE.var 3 rfl (by walk_at "vis")) SE.non) (SE.one (SE.call (ok_is_whole T hB) hg (hr.mono (by omega)) rfl (SAr.cons (SE.var 3 rfl (by walk_at "vis")) SAr.nil)))))) SAr.nil))))
  (SS.cons (S1.ret SE.bl)
  SS.nil)
  SS.nil)
  (SS.cons (S1.ret (SE.cmp rfl hr.units (SE.ix (SE.var 2 rfl (by walk_at "vis")) (SE.var 1 rfl (by walk_at "vis"))) SE.int))
  SS.nil)))
theorem ok_is_gap_row (T : Fx K mg) (hB : ∃ mm, base.Ns sysModules mm) : Fn P w K mg base "is_gap_row" 2 (CtrOf V_is_gap_row) := by
  obtain ⟨fd, F⟩ := T.d_is_gap_row
  exact ⟨_, _, _, okG_is_gap_row T hB F, T.g_is_gap_row, F.kp, F.bindsN fun _ _ _ _ _ _ us hl => match us, hl with | [_, _, _], _ => rfl⟩
theorem okG_is_gaps (T : Fx K mg) (hB : ∃ mm, base.Ns sysModules mm) {fd : FuncData} (F : FunD K dis_gaps.name dis_gaps.qual dis_gaps.params dis_gaps.body dis_gaps.scope (dis_gaps.dvs K) (dis_gaps.kws K) (He.fAd K dis_gaps.at_) fd) : FnG P w K mg base 3 (He.fAd K dis_gaps.at_) fd ["many", "value"] (SpD K (CtrOf V_is_gaps)) :=
  FnG.den (k := 2) F scis_gaps rfl fun cd A outer s H hg hr hnd =>
  (SS.cons (S1.ifS (ST.cmp rfl hr.units (SE.var 1 rfl (by walk_at "vis")) SE.non)
  (SS.cons (S1.ret SE.bl)
  SS.nil)
  SS.nil)
  (SS.cons (S1.ifS (ST.w (SW.or (ST.not (ST.val (SE.isi rfl T.n_isinstance rfl T.n_tuple (by decide) (by decide +kernel) (by decide) (by decide) (SE.var 1 rfl (by walk_at "vis"))))) (SW.or1 (ST.cmp rfl hr.units (SE.len rfl T.n_len (SAr.cons (SE.var 1 rfl (by walk_at "vis")) SAr.nil)) (SE.add (SE.var 0 rfl (by walk_at "vis")) SE.int)))))
  (SS.cons (S1.ret SE.bl)
  SS.nil)
  SS.nil)
  (SS.cons (S1.ret (SE.all rfl rfl T.n_all (SAr.cons (SE.lc2 2 3 (by decide) rfl hnd rfl rfl (blkOk_by (by kernel_rfl)) (fun _ _ _ _ _ => rfl) (fun _ _ _ _ _ => ⟨by walk_at "loc", by walk_at "loc"⟩) (fun _ _ _ _ _ => ⟨by walk_at "loc", by walk_at "loc"⟩) (SI.enm rfl T.n_enumerate (SAr.cons (SE.var 1 rfl (by walk_at "vis")) SAr.nil)) (fun _ _ _ _ _ => (SE.call (ok_is_gap_row T hB) hg (hr.mono (by omega)) rfl (SAr.cons (SE.var 0 rfl (by walk_at "vis")) (SAr.cons (SE.var 2 rfl (by walk_at "vis")) (SAr.cons (SE.var 3 rfl (by walk_at "vis")) SAr.nil)))))) SAr.nil)))
  SS.nil)))
theorem ok_is_gaps (T : Fx K mg) (hB : ∃ mm, base.Ns sysModules mm) : Fn P w K mg base "is_gaps" 3 (CtrOf V_is_gaps) := by
  obtain ⟨fd, F⟩ := T.d_is_gaps
  exact ⟨_, _, _, okG_is_gaps T hB F, T.g_is_gaps, F.kp, F.bindsN fun _ _ _ _ _ _ us hl => match us, hl with | [_, _], _ => rfl⟩
theorem okG_is_above (T : Fx K mg) (hB : ∃ mm, base.Ns sysModules mm) {fd : FuncData} (F : FunD K dis_above.name dis_above.qual dis_above.params dis_above.body dis_above.scope (dis_above.dvs K) (dis_above.kws K) (He.fAd K dis_above.at_) fd) : FnG P w K mg base 1 (He.fAd K dis_above.at_) fd ["bound", "other"] (SpD K (CtrOf V_is_above)) :=
  FnG.den (k := 0) F scis_above rfl fun cd A outer s H hg hr hnd =>
  (SS.cons (S1.ret (SE.and (SE.cmp rfl hr.units (SE.var 1 rfl (by walk_at "vis")) SE.non) (SE.one (SE.or (SE.cmp rfl hr.units (SE.var 0 rfl (by walk_at "vis")) SE.non) (SE.one (SE.cmp rfl hr.units (SE.var 0 rfl (by walk_at "vis")) (SE.var 1 rfl (by walk_at "vis"))))))))
  SS.nil)
theorem ok_is_above (T : Fx K mg) (hB : ∃ mm, base.Ns sysModules mm) : Fn P w K mg base "is_above" 1 (CtrOf V_is_above) := by
  obtain ⟨fd, F⟩ := T.d_is_above
  exact ⟨_, _, _, okG_is_above T hB F, T.g_is_above, F.kp, F.bindsN fun _ _ _ _ _ _ us hl => match us, hl with | [_, _], _ => rfl⟩
theorem okG_lesser (T : Fx K mg) (hB : ∃ mm, base.Ns sysModules mm) {fd : FuncData} (F : FunD K dlesser.name dlesser.qual dlesser.params dlesser.body dlesser.scope (dlesser.dvs K) (dlesser.kws K) (He.fAd K dlesser.at_) fd) : FnG P w K mg base 2 (He.fAd K dlesser.at_) fd ["bound", "other"] (SpD K (CtrOf V_lesser)) :=
  FnG.den (k := 1) F sclesser rfl fun cd A outer s H hg hr hnd =>
  (SS.cons (S1.ret (SE.ifE (ST.val (SE.call (ok_is_above T hB) hg (hr.mono (by omega)) rfl (SAr.cons (SE.var 0 rfl (by walk_at "vis")) (SAr.cons (SE.var 1 rfl (by walk_at "vis")) SAr.nil)))) (SE.var 1 rfl (by walk_at "vis")) (SE.var 0 rfl (by walk_at "vis"))))
  SS.nil)
theorem ok_lesser (T : Fx K mg) (hB : ∃ mm, base.Ns sysModules mm) : Fn P w K mg base "lesser" 2 (CtrOf V_lesser) := by
  obtain ⟨fd, F⟩ := T.d_lesser
  exact ⟨_, _, _, okG_lesser T hB F, T.g_lesser, F.kp, F.bindsN fun _ _ _ _ _ _ us hl => match us, hl with | [_, _], _ => rfl⟩
theorem okG_greater (T : Fx K mg) (hB : ∃ mm, base.Ns sysModules mm) {fd : FuncData} (F : FunD K dgreater.name dgreater.qual dgreater.params dgreater.body dgreater.scope (dgreater.dvs K) (dgreater.kws K) (He.fAd K dgreater.at_) fd) : FnG P w K mg base 2 (He.fAd K dgreater.at_) fd ["bound", "other"] (SpD K (CtrOf V_greater)) :=
  FnG.den (k := 1) F scgreater rfl fun cd A outer s H hg hr hnd =>
  (SS.cons (S1.ret (SE.ifE (ST.val (SE.call (ok_is_above T hB) hg (hr.mono (by omega)) rfl (SAr.cons (SE.var 0 rfl (by walk_at "vis")) (SAr.cons (SE.var 1 rfl (by walk_at "vis")) SAr.nil)))) (SE.var 0 rfl (by walk_at "vis")) (SE.var 1 rfl (by walk_at "vis"))))
  SS.nil)
theorem ok_greater (T : Fx K mg) (hB : ∃ mm, base.Ns sysModules mm) : Fn P w K mg base "greater" 2 (CtrOf V_greater) := by
  obtain ⟨fd, F⟩ := T.d_greater
  exact ⟨_, _, _, okG_greater T hB F, T.g_greater, F.kp, F.bindsN fun _ _ _ _ _ _ us hl => match us, hl with | [_, _], _ => rfl⟩
theorem okG_gaps_hold (T : Fx K mg) (hB : ∃ mm, base.Ns sysModules mm) {fd : FuncData} (F : FunD K dgaps_hold.name dgaps_hold.qual dgaps_hold.params dgaps_hold.body dgaps_hold.scope (dgaps_hold.dvs K) (dgaps_hold.kws K) (He.fAd K dgaps_hold.at_) fd) : FnG P w K mg base 1 (He.fAd K dgaps_hold.at_) fd ["gaps", "numbers"] (SpD K (CtrOf V_gaps_hold)) :=
  FnG.den (k := 0) F scgaps_hold rfl fun cd A outer s H hg hr hnd =>
  (SS.cons (S1.ifS (ST.cmp rfl hr.units (SE.var 0 rfl (by walk_at "vis")) SE.non)
  (SS.cons (S1.ret SE.bl)
  SS.nil)
  SS.nil)
  (SS.cons (S1.set 2 hnd rfl (by walk_at "loc") (by walk_at "loc") (SE.add (SE.tup (SAr.cons SE.int SAr.nil)) (SE.var 1 rfl (by walk_at "vis"))))
  (SS.cons (S1.forE PassesOwn.never rfl (by rfl) T.n_enumerate (SAr.cons (SE.var 0 rfl (by walk_at "vis")) SAr.nil) (SG.tup (n := 2) rfl (SGs.cons (SG.name 3 hnd rfl (by walk_at "loc") (by walk_at "loc")) (SGs.cons (SG.name 4 hnd rfl (by walk_at "loc") (by walk_at "loc")) SGs.nil)))
  (SS.cons (S1.ifS (ST.not (ST.val (SE.all rfl rfl T.n_all (SAr.cons (SE.lc2 5 6 (by decide) rfl hnd rfl rfl (blkOk_by (by kernel_rfl)) (fun _ _ _ _ _ => rfl) (fun _ _ _ _ _ => ⟨by walk_at "loc", by walk_at "loc"⟩) (fun _ _ _ _ _ => ⟨by walk_at "loc", by walk_at "loc"⟩) (SI.enm rfl T.n_enumerate (SAr.cons (SE.var 4 rfl (by walk_at "vis")) SAr.nil)) (fun _ _ _ _ _ => (SE.or (SE.cmp rfl hr.units (SE.var 6 rfl (by walk_at "vis")) SE.non) (SE.one (SE.cmp rfl hr.units (SE.sub (SE.ix (SE.var 2 rfl (by walk_at "vis")) (SE.var 3 rfl (by walk_at "vis"))) (SE.ix (SE.var 2 rfl (by walk_at "vis")) (SE.var 5 rfl (by walk_at "vis")))) (SE.var 6 rfl (by walk_at "vis"))))))) SAr.nil))))
  (SS.cons (S1.ret SE.bl)
  SS.nil)
  SS.nil)
  SS.nil))
  (SS.cons (S1.ret SE.bl)
  SS.nil))))
theorem ok_gaps_hold (T : Fx K mg) (hB : ∃ mm, base.Ns sysModules mm) : Fn P w K mg base "gaps_hold" 1 (CtrOf V_gaps_hold) := by
  obtain ⟨fd, F⟩ := T.d_gaps_hold
  exact ⟨_, _, _, okG_gaps_hold T hB F, T.g_gaps_hold, F.kp, F.bindsN fun _ _ _ _ _ _ us hl => match us, hl with | [_, _], _ => rfl⟩
theorem okG_row_by_way (T : Fx K mg) (hB : ∃ mm, base.Ns sysModules mm) {fd : FuncData} (F : FunD K drow_by_way.name drow_by_way.qual drow_by_way.params drow_by_way.body drow_by_way.scope (drow_by_way.dvs K) (drow_by_way.kws K) (He.fAd K drow_by_way.at_) fd) : FnG P w K mg base 1 (He.fAd K drow_by_way.at_) fd ["row", "begun", "through"] (SpD K (CtrOf V_row_by_way)) :=
  FnG.den (k := 0) F scrow_by_way rfl fun cd A outer s H hg hr hnd =>
  (SS.cons (S1.ifS (ST.cmp rfl hr.units (SE.var 1 rfl (by walk_at "vis")) SE.non)
  (SS.cons (S1.ret (SE.var 0 rfl (by walk_at "vis")))
  SS.nil)
  SS.nil)
  (SS.cons (S1.ret (SE.lc2 3 4 (by decide) rfl hnd rfl rfl (blkOk_by (by kernel_rfl)) (fun _ _ _ _ _ => rfl) (fun _ _ _ _ _ => ⟨by walk_at "loc", by walk_at "loc"⟩) (fun _ _ _ _ _ => ⟨by walk_at "loc", by walk_at "loc"⟩) (SI.zipX rfl T.n_zip (SAr.cons (SE.var 0 rfl (by walk_at "vis")) (SAr.cons (SE.var 2 rfl (by walk_at "vis")) SAr.nil))) (fun _ _ _ _ _ => (SE.ifE (ST.w (SW.or (ST.cmp rfl hr.units (SE.var 4 rfl (by walk_at "vis")) SE.non) (SW.or1 (ST.w (SW.and (ST.cmp rfl hr.units (SE.var 3 rfl (by walk_at "vis")) SE.non) (SW.and1 (ST.cmp rfl hr.units (SE.var 3 rfl (by walk_at "vis")) (SE.add (SE.var 1 rfl (by walk_at "vis")) (SE.var 4 rfl (by walk_at "vis")))))))))) (SE.var 3 rfl (by walk_at "vis")) (SE.add (SE.var 1 rfl (by walk_at "vis")) (SE.var 4 rfl (by walk_at "vis")))))))
  SS.nil))
theorem ok_row_by_way (T : Fx K mg) (hB : ∃ mm, base.Ns sysModules mm) : Fn P w K mg base "row_by_way" 1 (CtrOf V_row_by_way) := by
  obtain ⟨fd, F⟩ := T.d_row_by_way
  exact ⟨_, _, _, okG_row_by_way T hB F, T.g_row_by_way, F.kp, F.bindsN fun _ _ _ _ _ _ us hl => match us, hl with | [_, _, _], _ => rfl⟩
theorem okG_closing (T : Fx K mg) (hB : ∃ mm, base.Ns sysModules mm) {fd : FuncData} (F : FunD K dclosing.name dclosing.qual dclosing.params dclosing.body dclosing.scope (dclosing.dvs K) (dclosing.kws K) (He.fAd K dclosing.at_) fd) : FnG P w K mg base 2 (He.fAd K dclosing.at_) fd ["gaps"] (SpD K (CtrOf V_closing)) :=
  FnG.den (k := 1) F scclosing rfl fun cd A outer s H hg hr hnd =>
  (SS.cons (S1.ifS (ST.cmp rfl hr.units (SE.var 0 rfl (by walk_at "vis")) SE.non)
  (SS.cons (S1.ret SE.non)
  SS.nil)
  SS.nil)
  (SS.cons (S1.set 1 hnd rfl (by walk_at "loc") (by walk_at "loc") (SE.var 0 rfl (by walk_at "vis")))
  (SS.cons (S1.for_ PassesOwn.never rfl (SI.range1 rfl T.n_range (SAr.cons (SE.len rfl T.n_len (SAr.cons (SE.var 0 rfl (by walk_at "vis")) SAr.nil)) SAr.nil)) (SG.name 2 hnd rfl (by walk_at "loc") (by walk_at "loc"))
  (SS.cons (S1.set 3 hnd rfl (by walk_at "loc") (by walk_at "loc") (SE.ix (SE.var 1 rfl (by walk_at "vis")) (SE.var 2 rfl (by walk_at "vis"))))
  (SS.cons (S1.setLc 1 4 rfl hnd rfl rfl (sw_true rfl rfl rfl (by decide +kernel)) rfl (blkOk_by (by kernel_rfl)) (fun _ _ _ _ _ => ⟨by walk_at "loc", by walk_at "loc"⟩) (SI.seq (SE.var 1 rfl (by walk_at "vis"))) (fun _ _ _ _ _ => (SE.call (ok_row_by_way T hB) hg (hr.mono (by omega)) rfl (SAr.cons (SE.var 4 rfl (by walk_at "vis")) (SAr.cons (SE.ix (SE.var 4 rfl (by walk_at "vis")) (SE.var 2 rfl (by walk_at "vis"))) (SAr.cons (SE.var 3 rfl (by walk_at "vis")) SAr.nil))))))
  (SS.cons (S1.ifS (ST.val (SE.any rfl rfl T.n_any (SAr.cons (SE.lc2 5 4 (by decide) rfl hnd rfl rfl (blkOk_by (by kernel_rfl)) (fun _ _ _ _ _ => rfl) (fun _ _ _ _ _ => ⟨by walk_at "loc", by walk_at "loc"⟩) (fun _ _ _ _ _ => ⟨by walk_at "loc", by walk_at "loc"⟩) (SI.enm rfl T.n_enumerate (SAr.cons (SE.var 1 rfl (by walk_at "vis")) SAr.nil)) (fun _ _ _ _ _ => (SE.cmp rfl hr.units (SE.ix (SE.var 4 rfl (by walk_at "vis")) (SE.var 5 rfl (by walk_at "vis"))) SE.int))) SAr.nil)))
  (SS.cons (S1.ret SE.non)
  SS.nil)
  SS.nil)
  SS.nil))))
  (SS.cons (S1.ret (SE.tuple rfl T.n_tuple (SAr.cons (SE.lc 4 rfl hnd rfl (blkOk_by (by kernel_rfl)) (fun _ _ _ _ _ => ⟨by walk_at "loc", by walk_at "loc"⟩) (SI.seq (SE.var 1 rfl (by walk_at "vis"))) (fun _ _ _ _ _ => (SE.tuple rfl T.n_tuple (SAr.cons (SE.var 4 rfl (by walk_at "vis")) SAr.nil)))) SAr.nil)))
  SS.nil))))
theorem ok_closing (T : Fx K mg) (hB : ∃ mm, base.Ns sysModules mm) : Fn P w K mg base "closing" 2 (CtrOf V_closing) := by
  obtain ⟨fd, F⟩ := T.d_closing
  exact ⟨_, _, _, okG_closing T hB F, T.g_closing, F.kp, F.bindsN fun _ _ _ _ _ _ us hl => match us, hl with | [_], _ => rfl⟩
theorem okG_gaps_joined (T : Fx K mg) (hB : ∃ mm, base.Ns sysModules mm) {fd : FuncData} (F : FunD K dgaps_joined.name dgaps_joined.qual dgaps_joined.params dgaps_joined.body dgaps_joined.scope (dgaps_joined.dvs K) (dgaps_joined.kws K) (He.fAd K dgaps_joined.at_) fd) : FnG P w K mg base 3 (He.fAd K dgaps_joined.at_) fd ["gaps", "other"] (SpD K (CtrOf V_gaps_joined)) :=
  FnG.den (k := 2) F scgaps_joined rfl fun cd A outer s H hg hr hnd =>
  (SS.cons (S1.par 2 3 rfl hnd rfl rfl (by decide) rfl rfl (SAr.cons (SE.call (ok_closing T hB) hg (hr.mono (by omega)) rfl (SAr.cons (SE.var 0 rfl (by walk_at "vis")) SAr.nil)) (SAr.cons (SE.call (ok_closing T hB) hg (hr.mono (by omega)) rfl (SAr.cons (SE.var 1 rfl (by walk_at "vis")) SAr.nil)) SAr.nil)))
  (SS.cons (S1.ifS (ST.w (SW.or (ST.cmp rfl hr.units (SE.var 2 rfl (by walk_at "vis")) SE.non) (SW.or1 (ST.cmp rfl hr.units (SE.var 3 rfl (by walk_at "vis")) SE.non))))
  (SS.cons (S1.ret (SE.ifE (ST.cmp rfl hr.units (SE.var 2 rfl (by walk_at "vis")) SE.non) (SE.var 3 rfl (by walk_at "vis")) (SE.var 2 rfl (by walk_at "vis"))))
  SS.nil)
  SS.nil)
  (SS.cons (S1.ret (SE.tuple rfl T.n_tuple (SAr.cons (SE.lc2 6 7 (by decide) rfl hnd rfl rfl (blkOk_by (by kernel_rfl)) (fun _ _ _ _ _ => rfl) (fun _ _ _ _ _ => ⟨by walk_at "loc", by walk_at "loc"⟩) (fun _ _ _ _ _ => ⟨by walk_at "loc", by walk_at "loc"⟩) (SI.zipX rfl T.n_zip (SAr.cons (SE.var 2 rfl (by walk_at "vis")) (SAr.cons (SE.var 3 rfl (by walk_at "vis")) SAr.nil))) (fun _ _ _ _ _ => (SE.tuple rfl T.n_tuple (SAr.cons (SE.lc2 4 5 (by decide) rfl hnd rfl rfl (blkOk_by (by kernel_rfl)) (fun _ _ _ _ _ => rfl) (fun _ _ _ _ _ => ⟨by walk_at "loc", by walk_at "loc"⟩) (fun _ _ _ _ _ => ⟨by walk_at "loc", by walk_at "loc"⟩) (SI.zipX rfl T.n_zip (SAr.cons (SE.var 6 rfl (by walk_at "vis")) (SAr.cons (SE.var 7 rfl (by walk_at "vis")) SAr.nil))) (fun _ _ _ _ _ => (SE.call (ok_greater T hB) hg (hr.mono (by omega)) rfl (SAr.cons (SE.var 4 rfl (by walk_at "vis")) (SAr.cons (SE.var 5 rfl (by walk_at "vis")) SAr.nil))))) SAr.nil)))) SAr.nil)))
  SS.nil)))
theorem ok_gaps_joined (T : Fx K mg) (hB : ∃ mm, base.Ns sysModules mm) : Fn P w K mg base "gaps_joined" 3 (CtrOf V_gaps_joined) := by
  obtain ⟨fd, F⟩ := T.d_gaps_joined
  exact ⟨_, _, _, okG_gaps_joined T hB F, T.g_gaps_joined, F.kp, F.bindsN fun _ _ _ _ _ _ us hl => match us, hl with | [_, _], _ => rfl⟩
theorem okG_gaps_guarded (T : Fx K mg) (hB : ∃ mm, base.Ns sysModules mm) {fd : FuncData} (F : FunD K dgaps_guarded.name dgaps_guarded.qual dgaps_guarded.params dgaps_guarded.body dgaps_guarded.scope (dgaps_guarded.dvs K) (dgaps_guarded.kws K) (He.fAd K dgaps_guarded.at_) fd) : FnG P w K mg base 3 (He.fAd K dgaps_guarded.at_) fd ["gaps", "bounds"] (SpD K (CtrOf V_gaps_guarded)) :=
  FnG.den (k := 2) F scgaps_guarded rfl fun cd A outer s H hg hr hnd =>
  (SS.cons (S1.ifS (ST.cmp rfl hr.units (SE.var 0 rfl (by walk_at "vis")) SE.non)
  (SS.cons (S1.ret SE.non)
  SS.nil)
  SS.nil)
  (SS.cons (S1.rows 2 6 rfl hnd rfl rfl (sw_true rfl rfl rfl (by decide +kernel)) rfl (blkOk_by (by kernel_rfl)) (fun _ _ _ _ _ => ⟨by walk_at "loc", by walk_at "loc"⟩) (SI.seq (SE.var 0 rfl (by walk_at "vis"))) (fun _ _ _ _ _ => (SE.listM rfl T.n_list (SAr.cons (SE.var 6 rfl (by walk_at "vis")) SAr.nil))))
  (SS.cons (S1.for_ PassesOwn.never rfl (SI.seq (SE.var 1 rfl (by walk_at "vis"))) (SG.tup (n := 3) rfl (SGs.cons (SG.name 3 hnd rfl (by walk_at "loc") (by walk_at "loc")) (SGs.cons (SG.name 4 hnd rfl (by walk_at "loc") (by walk_at "loc")) (SGs.cons (SG.name 5 hnd rfl (by walk_at "loc") (by walk_at "loc")) SGs.nil))))
  (SS.cons (S1.asg (SE.call (ok_lesser T hB) hg (hr.mono (by omega)) rfl (SAr.cons (SE.ix (SE.ix (SE.var 2 rfl (by walk_at "vis")) (SE.var 3 rfl (by walk_at "vis"))) (SE.var 4 rfl (by walk_at "vis"))) (SAr.cons (SE.var 5 rfl (by walk_at "vis")) SAr.nil))) (SG.sub (SE.ix (SE.var 2 rfl (by walk_at "vis")) (SE.var 3 rfl (by walk_at "vis"))) (SE.var 4 rfl (by walk_at "vis"))))
  SS.nil))
  (SS.thaw 2 (SS.cons (S1.ret (SE.call (ok_closing T hB) hg (hr.mono (by omega)) rfl (SAr.cons (SE.var 2 rfl (by walk_at "vis")) SAr.nil)))
  SS.nil)))))
theorem ok_gaps_guarded (T : Fx K mg) (hB : ∃ mm, base.Ns sysModules mm) : Fn P w K mg base "gaps_guarded" 3 (CtrOf V_gaps_guarded) := by
  obtain ⟨fd, F⟩ := T.d_gaps_guarded
  exact ⟨_, _, _, okG_gaps_guarded T hB F, T.g_gaps_guarded, F.kp, F.bindsN fun _ _ _ _ _ _ us hl => match us, hl with | [_, _], _ => rfl⟩
theorem okG_gaps_unlike (T : Fx K mg) (hB : ∃ mm, base.Ns sysModules mm) {fd : FuncData} (F : FunD K dgaps_unlike.name dgaps_unlike.qual dgaps_unlike.params dgaps_unlike.body dgaps_unlike.scope (dgaps_unlike.dvs K) (dgaps_unlike.kws K) (He.fAd K dgaps_unlike.at_) fd) : FnG P w K mg base 4 (He.fAd K dgaps_unlike.at_) fd ["gaps", "first", "second", "number"] (SpD K (CtrOf V_gaps_unlike)) :=
  FnG.den (k := 3) F scgaps_unlike rfl fun cd A outer s H hg hr hnd =>
  (SS.cons (S1.set 4 hnd rfl (by walk_at "loc") (by walk_at "loc") (SE.call (ok_gaps_guarded T hB) hg (hr.mono (by omega)) rfl (SAr.cons (SE.var 0 rfl (by walk_at "vis")) (SAr.cons (SE.lst (SAr.cons (SE.tup (SAr.cons (SE.var 1 rfl (by walk_at "vis")) (SAr.cons (SE.var 2 rfl (by walk_at "vis")) (SAr.cons (SE.sub (SE.var 3 rfl (by walk_at "vis")) SE.int) SAr.nil)))) SAr.nil)) SAr.nil))))
  (SS.cons (S1.set 5 hnd rfl (by walk_at "loc") (by walk_at "loc") (SE.call (ok_gaps_guarded T hB) hg (hr.mono (by omega)) rfl (SAr.cons (SE.var 0 rfl (by walk_at "vis")) (SAr.cons (SE.lst (SAr.cons (SE.tup (SAr.cons (SE.var 2 rfl (by walk_at "vis")) (SAr.cons (SE.var 1 rfl (by walk_at "vis")) (SAr.cons (SE.sub (SE.neg (SE.var 3 rfl (by walk_at "vis"))) SE.int) SAr.nil)))) SAr.nil)) SAr.nil))))
  (SS.cons (S1.ret (SE.call (ok_gaps_joined T hB) hg (hr.mono (by omega)) rfl (SAr.cons (SE.var 4 rfl (by walk_at "vis")) (SAr.cons (SE.var 5 rfl (by walk_at "vis")) SAr.nil))))
  SS.nil)))
theorem ok_gaps_unlike (T : Fx K mg) (hB : ∃ mm, base.Ns sysModules mm) : Fn P w K mg base "gaps_unlike" 4 (CtrOf V_gaps_unlike) := by
  obtain ⟨fd, F⟩ := T.d_gaps_unlike
  exact ⟨_, _, _, okG_gaps_unlike T hB F, T.g_gaps_unlike, F.kp, F.bindsN fun _ _ _ _ _ _ us hl => match us, hl with | [_, _, _, _], _ => rfl⟩
theorem okG_refuse_wrong_number (T : Fx K mg) (hB : ∃ mm, base.Ns sysModules mm) {fd : FuncData} (F : FunD K drefuse_wrong_number.name drefuse_wrong_number.qual drefuse_wrong_number.params drefuse_wrong_number.body drefuse_wrong_number.scope (drefuse_wrong_number.dvs K) (drefuse_wrong_number.kws K) (He.fAd K drefuse_wrong_number.at_) fd) : FnG P w K mg base 2 (He.fAd K drefuse_wrong_number.at_) fd ["number"] (SpD K (CtrOf V_refuse_wrong_number)) :=
  FnG.den (k := 1) F screfuse_wrong_number rfl fun cd A outer s H hg hr hnd =>
  (SS.cons (S1.ifS (ST.not (ST.val (SE.call (ok_is_whole T hB) hg (hr.mono (by omega)) rfl (SAr.cons (SE.var 0 rfl (by walk_at "vis")) SAr.nil))))
  (SS.cons S1.no
  SS.nil)
  SS.nil)
  SS.nil)
theorem ok_refuse_wrong_number (T : Fx K mg) (hB : ∃ mm, base.Ns sysModules mm) : Fn P w K mg base "refuse_wrong_number" 2 (CtrOf V_refuse_wrong_number) := by
  obtain ⟨fd, F⟩ := T.d_refuse_wrong_number
  exact ⟨_, _, _, okG_refuse_wrong_number T hB F, T.g_refuse_wrong_number, F.kp, F.bindsN fun _ _ _ _ _ _ us hl => match us, hl with | [_], _ => rfl⟩
theorem okG_refuse_wrong_many (T : Fx K mg) (hB : ∃ mm, base.Ns sysModules mm) {fd : FuncData} (F : FunD K drefuse_wrong_many.name drefuse_wrong_many.qual drefuse_wrong_many.params drefuse_wrong_many.body drefuse_wrong_many.scope (drefuse_wrong_many.dvs K) (drefuse_wrong_many.kws K) (He.fAd K drefuse_wrong_many.at_) fd) : FnG P w K mg base 3 (He.fAd K drefuse_wrong_many.at_) fd ["many"] (SpD K (CtrOf V_refuse_wrong_many)) :=
  FnG.den (k := 2) F screfuse_wrong_many rfl fun cd A outer s H hg hr hnd =>
  (SS.cons (S1.ifS (ST.not (ST.val (SE.call (ok_is_index T hB) hg (hr.mono (by omega)) rfl (SAr.cons (SE.var 0 rfl (by walk_at "vis")) (SAr.cons (SE.add (T.c_MOST_SLOTS rfl) SE.int) SAr.nil)))))
  (SS.cons S1.no
  SS.nil)
  SS.nil)
  SS.nil)
theorem ok_refuse_wrong_many (T : Fx K mg) (hB : ∃ mm, base.Ns sysModules mm) : Fn P w K mg base "refuse_wrong_many" 3 (CtrOf V_refuse_wrong_many) := by
  obtain ⟨fd, F⟩ := T.d_refuse_wrong_many
  exact ⟨_, _, _, okG_refuse_wrong_many T hB F, T.g_refuse_wrong_many, F.kp, F.bindsN fun _ _ _ _ _ _ us hl => match us, hl with | [_], _ => rfl⟩
theorem okG_refuse_wrong_differences (T : Fx K mg) (hB : ∃ mm, base.Ns sysModules mm) {fd : FuncData} (F : FunD K drefuse_wrong_differences.name drefuse_wrong_differences.qual drefuse_wrong_differences.params drefuse_wrong_differences.body drefuse_wrong_differences.scope (drefuse_wrong_differences.dvs K) (drefuse_wrong_differences.kws K) (He.fAd K drefuse_wrong_differences.at_) fd) : FnG P w K mg base 4 (He.fAd K drefuse_wrong_differences.at_) fd ["many", "one"] (SpD K (CtrOf V_refuse_wrong_differences)) :=
  FnG.den (k := 3) F screfuse_wrong_differences rfl fun cd A outer s H hg hr hnd =>
  (SS.cons (S1.expr (SE.call (ok_refuse_wrong_many T hB) hg (hr.mono (by omega)) rfl (SAr.cons (SE.var 0 rfl (by walk_at "vis")) SAr.nil)))
  (SS.cons (S1.ifS (ST.not (ST.val (SE.call (ok_is_gaps T hB) hg (hr.mono (by omega)) rfl (SAr.cons (SE.var 0 rfl (by walk_at "vis")) (SAr.cons (SE.var 1 rfl (by walk_at "vis")) SAr.nil)))))
  (SS.cons S1.no
  SS.nil)
  SS.nil)
  SS.nil))
theorem ok_refuse_wrong_differences (T : Fx K mg) (hB : ∃ mm, base.Ns sysModules mm) : Fn P w K mg base "refuse_wrong_differences" 4 (CtrOf V_refuse_wrong_differences) := by
  obtain ⟨fd, F⟩ := T.d_refuse_wrong_differences
  exact ⟨_, _, _, okG_refuse_wrong_differences T hB F, T.g_refuse_wrong_differences, F.kp, F.bindsN fun _ _ _ _ _ _ us hl => match us, hl with | [_, _], _ => rfl⟩
theorem okG_refuse_wrong_indexes (T : Fx K mg) (hB : ∃ mm, base.Ns sysModules mm) {fd : FuncData} (F : FunD K drefuse_wrong_indexes.name drefuse_wrong_indexes.qual drefuse_wrong_indexes.params drefuse_wrong_indexes.body drefuse_wrong_indexes.scope (drefuse_wrong_indexes.dvs K) (drefuse_wrong_indexes.kws K) (He.fAd K drefuse_wrong_indexes.at_) fd) : FnG P w K mg base 3 (He.fAd K drefuse_wrong_indexes.at_) fd ["many", "indexes"] (SpD K (CtrOf V_refuse_wrong_indexes)) :=
  FnG.den (k := 2) F screfuse_wrong_indexes rfl fun cd A outer s H hg hr hnd =>
  (SS.cons (S1.for_ PassesOwn.never rfl (SI.seq (SE.var 1 rfl (by walk_at "vis"))) (SG.name 2 hnd rfl (by walk_at "loc") (by walk_at "loc"))
  (SS.cons (S1.ifS (ST.not (ST.val (SE.call (ok_is_index T hB) hg (hr.mono (by omega)) rfl (SAr.cons (SE.var 2 rfl (by walk_at "vis")) (SAr.cons (SE.add (SE.var 0 rfl (by walk_at "vis")) SE.int) SAr.nil)))))
  (SS.cons S1.no
  SS.nil)
  SS.nil)
  SS.nil))
  SS.nil)
theorem ok_refuse_wrong_indexes (T : Fx K mg) (hB : ∃ mm, base.Ns sysModules mm) : Fn P w K mg base "refuse_wrong_indexes" 3 (CtrOf V_refuse_wrong_indexes) := by
  obtain ⟨fd, F⟩ := T.d_refuse_wrong_indexes
  exact ⟨_, _, _, okG_refuse_wrong_indexes T hB F, T.g_refuse_wrong_indexes, F.kp, F.bindsN fun _ _ _ _ _ _ us hl => match us, hl with | [_, _], _ => rfl⟩
theorem okG_refuse_wrong_values (T : Fx K mg) (hB : ∃ mm, base.Ns sysModules mm) {fd : FuncData} (F : FunD K drefuse_wrong_values.name drefuse_wrong_values.qual drefuse_wrong_values.params drefuse_wrong_values.body drefuse_wrong_values.scope (drefuse_wrong_values.dvs K) (drefuse_wrong_values.kws K) (He.fAd K drefuse_wrong_values.at_) fd) : FnG P w K mg base 2 (He.fAd K drefuse_wrong_values.at_) fd ["many", "values"] (SpD K (CtrOf V_refuse_wrong_values)) :=
  FnG.den (k := 1) F screfuse_wrong_values rfl fun cd A outer s H hg hr hnd =>
  (SS.cons (S1.ifS (ST.w (SW.or (ST.not (ST.val (SE.isi rfl T.n_isinstance rfl T.n_tuple (by decide) (by decide +kernel) (by decide) (by decide) (SE.var 1 rfl (by walk_at "vis"))))) (SW.or1 (ST.cmp rfl hr.units (SE.len rfl T.n_len (SAr.cons (SE.var 1 rfl (by walk_at "vis")) SAr.nil)) (SE.var 0 rfl (by walk_at "vis"))))))
  (SS.cons S1.no
  SS.nil)
  SS.nil)
  (SS.cons (S1.forE PassesOwn.never rfl (by rfl) T.n_enumerate (SAr.cons (SE.var 1 rfl (by walk_at "vis")) SAr.nil) (SG.tup (n := 2) rfl (SGs.cons (SG.name 2 hnd rfl (by walk_at "loc") (by walk_at "loc")) (SGs.cons (SG.name 3 hnd rfl (by walk_at "loc") (by walk_at "loc")) SGs.nil)))
  (SS.cons (S1.ifS (ST.not (ST.val (SE.call (ok_is_whole T hB) hg (hr.mono (by omega)) rfl (SAr.cons (SE.var 3 rfl (by walk_at "vis")) SAr.nil))))
  (SS.cons S1.no
  SS.nil)
  SS.nil)
  SS.nil))
  SS.nil))
theorem ok_refuse_wrong_values (T : Fx K mg) (hB : ∃ mm, base.Ns sysModules mm) : Fn P w K mg base "refuse_wrong_values" 2 (CtrOf V_refuse_wrong_values) := by
  obtain ⟨fd, F⟩ := T.d_refuse_wrong_values
  exact ⟨_, _, _, okG_refuse_wrong_values T hB F, T.g_refuse_wrong_values, F.kp, F.bindsN fun _ _ _ _ _ _ us hl => match us, hl with | [_, _], _ => rfl⟩
theorem okG_differences_hold (T : Fx K mg) (hB : ∃ mm, base.Ns sysModules mm) {fd : FuncData} (F : FunD K ddifferences_hold.name ddifferences_hold.qual ddifferences_hold.params ddifferences_hold.body ddifferences_hold.scope (ddifferences_hold.dvs K) (ddifferences_hold.kws K) (He.fAd K ddifferences_hold.at_) fd) : FnG P w K mg base 5 (He.fAd K ddifferences_hold.at_) fd ["many", "one", "values"] (SpD K (CtrOf V_differences_hold)) :=
  FnG.den (k := 4) F scdifferences_hold rfl fun cd A outer s H hg hr hnd =>
  (SS.cons (S1.expr (SE.call (ok_refuse_wrong_differences T hB) hg (hr.mono (by omega)) rfl (SAr.cons (SE.var 0 rfl (by walk_at "vis")) (SAr.cons (SE.var 1 rfl (by walk_at "vis")) SAr.nil))))
  (SS.cons (S1.expr (SE.call (ok_refuse_wrong_values T hB) hg (hr.mono (by omega)) rfl (SAr.cons (SE.var 0 rfl (by walk_at "vis")) (SAr.cons (SE.var 2 rfl (by walk_at "vis")) SAr.nil))))
  (SS.cons (S1.ret (SE.call (ok_gaps_hold T hB) hg (hr.mono (by omega)) rfl (SAr.cons (SE.var 1 rfl (by walk_at "vis")) (SAr.cons (SE.var 2 rfl (by walk_at "vis")) SAr.nil))))
  SS.nil)))
theorem ok_differences_hold (T : Fx K mg) (hB : ∃ mm, base.Ns sysModules mm) : Fn P w K mg base "differences_hold" 5 (CtrOf V_differences_hold) := by
  obtain ⟨fd, F⟩ := T.d_differences_hold
  exact ⟨_, _, _, okG_differences_hold T hB F, T.g_differences_hold, F.kp, F.bindsN fun _ _ _ _ _ _ us hl => match us, hl with | [_, _, _], _ => rfl⟩
theorem okG_refuse_wrong_pair (T : Fx K mg) (hB : ∃ mm, base.Ns sysModules mm) {fd : FuncData} (F : FunD K drefuse_wrong_pair.name drefuse_wrong_pair.qual drefuse_wrong_pair.params drefuse_wrong_pair.body drefuse_wrong_pair.scope (drefuse_wrong_pair.dvs K) (drefuse_wrong_pair.kws K) (He.fAd K drefuse_wrong_pair.at_) fd) : FnG P w K mg base 5 (He.fAd K drefuse_wrong_pair.at_) fd ["many", "one", "first", "second", "number"] (SpD K (CtrOf V_refuse_wrong_pair)) :=
  FnG.den (k := 4) F screfuse_wrong_pair rfl fun cd A outer s H hg hr hnd =>
  (SS.cons (S1.expr (SE.call (ok_refuse_wrong_differences T hB) hg (hr.mono (by omega)) rfl (SAr.cons (SE.var 0 rfl (by walk_at "vis")) (SAr.cons (SE.var 1 rfl (by walk_at "vis")) SAr.nil))))
  (SS.cons (S1.expr (SE.call (ok_refuse_wrong_indexes T hB) hg (hr.mono (by omega)) rfl (SAr.cons (SE.var 0 rfl (by walk_at "vis")) (SAr.cons (SE.tup (SAr.cons (SE.var 2 rfl (by walk_at "vis")) (SAr.cons (SE.var 3 rfl (by walk_at "vis")) SAr.nil))) SAr.nil))))
  (SS.cons (S1.expr (SE.call (ok_refuse_wrong_number T hB) hg (hr.mono (by omega)) rfl (SAr.cons (SE.var 4 rfl (by walk_at "vis")) SAr.nil)))
  SS.nil)))
theorem ok_refuse_wrong_pair (T : Fx K mg) (hB : ∃ mm, base.Ns sysModules mm) : Fn P w K mg base "refuse_wrong_pair" 5 (CtrOf V_refuse_wrong_pair) := by
  obtain ⟨fd, F⟩ := T.d_refuse_wrong_pair
  exact ⟨_, _, _, okG_refuse_wrong_pair T hB F, T.g_refuse_wrong_pair, F.kp, F.bindsN fun _ _ _ _ _ _ us hl => match us, hl with | [_, _, _, _, _], _ => rfl⟩
theorem okG_differences_guarded (T : Fx K mg) (hB : ∃ mm, base.Ns sysModules mm) {fd : FuncData} (F : FunD K ddifferences_guarded.name ddifferences_guarded.qual ddifferences_guarded.params ddifferences_guarded.body ddifferences_guarded.scope (ddifferences_guarded.dvs K) (ddifferences_guarded.kws K) (He.fAd K ddifferences_guarded.at_) fd) : FnG P w K mg base 6 (He.fAd K ddifferences_guarded.at_) fd ["many", "one", "first", "second", "number"] (SpD K (CtrOf V_differences_guarded)) :=
  FnG.den (k := 5) F scdifferences_guarded rfl fun cd A outer s H hg hr hnd =>
  (SS.cons (S1.expr (SE.call (ok_refuse_wrong_pair T hB) hg (hr.mono (by omega)) rfl (SAr.cons (SE.var 0 rfl (by walk_at "vis")) (SAr.cons (SE.var 1 rfl (by walk_at "vis")) (SAr.cons (SE.var 2 rfl (by walk_at "vis")) (SAr.cons (SE.var 3 rfl (by walk_at "vis")) (SAr.cons (SE.var 4 rfl (by walk_at "vis")) SAr.nil)))))))
  (SS.cons (S1.ret (SE.call (ok_gaps_guarded T hB) hg (hr.mono (by omega)) rfl (SAr.cons (SE.var 1 rfl (by walk_at "vis")) (SAr.cons (SE.lst (SAr.cons (SE.tup (SAr.cons (SE.var 2 rfl (by walk_at "vis")) (SAr.cons (SE.var 3 rfl (by walk_at "vis")) (SAr.cons (SE.var 4 rfl (by walk_at "vis")) SAr.nil)))) SAr.nil)) SAr.nil))))
  SS.nil))
theorem ok_differences_guarded (T : Fx K mg) (hB : ∃ mm, base.Ns sysModules mm) : Fn P w K mg base "differences_guarded" 6 (CtrOf V_differences_guarded) := by
  obtain ⟨fd, F⟩ := T.d_differences_guarded
  exact ⟨_, _, _, okG_differences_guarded T hB F, T.g_differences_guarded, F.kp, F.bindsN fun _ _ _ _ _ _ us hl => match us, hl with | [_, _, _, _, _], _ => rfl⟩
theorem okG_differences_unlike (T : Fx K mg) (hB : ∃ mm, base.Ns sysModules mm) {fd : FuncData} (F : FunD K ddifferences_unlike.name ddifferences_unlike.qual ddifferences_unlike.params ddifferences_unlike.body ddifferences_unlike.scope (ddifferences_unlike.dvs K) (ddifferences_unlike.kws K) (He.fAd K ddifferences_unlike.at_) fd) : FnG P w K mg base 6 (He.fAd K ddifferences_unlike.at_) fd ["many", "one", "first", "second", "number"] (SpD K (CtrOf V_differences_unlike)) :=
  FnG.den (k := 5) F scdifferences_unlike rfl fun cd A outer s H hg hr hnd =>
  (SS.cons (S1.expr (SE.call (ok_refuse_wrong_pair T hB) hg (hr.mono (by omega)) rfl (SAr.cons (SE.var 0 rfl (by walk_at "vis")) (SAr.cons (SE.var 1 rfl (by walk_at "vis")) (SAr.cons (SE.var 2 rfl (by walk_at "vis")) (SAr.cons (SE.var 3 rfl (by walk_at "vis")) (SAr.cons (SE.var 4 rfl (by walk_at "vis")) SAr.nil)))))))
  (SS.cons (S1.ret (SE.call (ok_gaps_unlike T hB) hg (hr.mono (by omega)) rfl (SAr.cons (SE.var 1 rfl (by walk_at "vis")) (SAr.cons (SE.var 2 rfl (by walk_at "vis")) (SAr.cons (SE.var 3 rfl (by walk_at "vis")) (SAr.cons (SE.var 4 rfl (by walk_at "vis")) SAr.nil))))))
  SS.nil))
theorem ok_differences_unlike (T : Fx K mg) (hB : ∃ mm, base.Ns sysModules mm) : Fn P w K mg base "differences_unlike" 6 (CtrOf V_differences_unlike) := by
  obtain ⟨fd, F⟩ := T.d_differences_unlike
  exact ⟨_, _, _, okG_differences_unlike T hB F, T.g_differences_unlike, F.kp, F.bindsN fun _ _ _ _ _ _ us hl => match us, hl with | [_, _, _, _, _], _ => rfl⟩
theorem okG_l_spring (T : Fx K mg) (hB : ∃ mm, base.Ns sysModules mm) {fd : FuncData} (F : FunD K dl_spring.name dl_spring.qual dl_spring.params dl_spring.body dl_spring.scope (dl_spring.dvs K) (dl_spring.kws K) (He.fAd K dl_spring.at_) fd) : FnG P w K mg base 1 (He.fAd K dl_spring.at_) fd ["_law_script", "_law_turn"] (SpD K (CtrOf V_l_spring)) :=
  FnG.den (k := 0) F scl_spring rfl fun cd A outer s H hg hr hnd =>
  (SS.cons (S1.set 2 hnd rfl (by walk_at "loc") (by walk_at "loc") (SE.add SE.int (SE.mul SE.int (SE.var 1 rfl (by walk_at "vis")))))
  (SS.cons (S1.for_ PassesOwn.never rfl (SI.seq (SE.slice (SE.var 0 rfl (by walk_at "vis")) spN (spS SE.int))) (SG.name 3 hnd rfl (by walk_at "loc") (by walk_at "loc"))
  (SS.cons (S1.set 2 hnd rfl (by walk_at "loc") (by walk_at "loc") (SE.mod (SE.toInt rfl T.n_int (SAr.cons (SE.add (SE.add (SE.mul (SE.var 2 rfl (by walk_at "vis")) SE.int) (SE.mod (SE.toInt rfl T.n_int (SAr.cons (SE.var 3 rfl (by walk_at "vis")) SAr.nil)) SE.int)) SE.int) SAr.nil)) SE.int))
  SS.nil))
  (SS.cons (S1.set 4 hnd rfl (by walk_at "loc") (by walk_at "loc") (SE.ifE (ST.cmp rfl hr.units (SE.var 1 rfl (by walk_at "vis")) (SE.len rfl T.n_len (SAr.cons (SE.var 0 rfl (by walk_at "vis")) SAr.nil))) (SE.toInt rfl T.n_int (SAr.cons (SE.ix (SE.var 0 rfl (by walk_at "vis")) (SE.var 1 rfl (by walk_at "vis"))) SAr.nil)) SE.int))
  (SS.cons (S1.set 2 hnd rfl (by walk_at "loc") (by walk_at "loc") (SE.mod (SE.toInt rfl T.n_int (SAr.cons (SE.add (SE.add (SE.mul (SE.var 2 rfl (by walk_at "vis")) SE.int) (SE.mul (SE.mod (SE.toInt rfl T.n_int (SAr.cons (SE.var 4 rfl (by walk_at "vis")) SAr.nil)) SE.int) SE.int)) SE.int) SAr.nil)) SE.int))
  (SS.cons (S1.ret (SE.lstM (SAr.cons (SE.ifE (ST.w (SW.or (ST.cmp rfl hr.units (SE.var 4 rfl (by walk_at "vis")) SE.int) (SW.or1 (ST.cmp rfl hr.units (SE.var 4 rfl (by walk_at "vis")) (SE.pow SE.int SE.int))))) (SE.abs rfl T.n_abs (SAr.cons (SE.var 4 rfl (by walk_at "vis")) SAr.nil)) SE.int) (SAr.cons (SE.var 2 rfl (by walk_at "vis")) (SAr.cons SE.int SAr.nil)))))
  SS.nil)))))
theorem ok_l_spring (T : Fx K mg) (hB : ∃ mm, base.Ns sysModules mm) : Fn P w K mg base "_law_spring" 1 (CtrOf V_l_spring) := by
  obtain ⟨fd, F⟩ := T.d_l_spring
  exact ⟨_, _, _, okG_l_spring T hB F, T.g_l_spring, F.kp, F.bindsN fun _ _ _ _ _ _ us hl => match us, hl with | [_, _], _ => rfl⟩
theorem okG_l_draw (T : Fx K mg) (hB : ∃ mm, base.Ns sysModules mm) {fd : FuncData} (F : FunD K dl_draw.name dl_draw.qual dl_draw.params dl_draw.body dl_draw.scope (dl_draw.dvs K) (dl_draw.kws K) (He.fAd K dl_draw.at_) fd) : FnG P w K mg base 1 (He.fAd K dl_draw.at_) fd ["_law_spring_here", "_law_high"] (SpD K (CtrOf V_l_draw)) :=
  FnG.den (k := 0) F scl_draw rfl fun cd A outer s H hg hr hnd =>
  (SS.cons (S1.ifS (ST.cmp rfl hr.units (SE.ix (SE.var 0 rfl (by walk_at "vis")) SE.int) SE.int)
  (SS.cons (S1.asg (SE.divmod rfl T.n_divmod (SAr.cons (SE.ix (SE.var 0 rfl (by walk_at "vis")) SE.int) (SAr.cons (SE.var 1 rfl (by walk_at "vis")) SAr.nil))) (SG.tup (n := 2) rfl (SGs.cons (SG.sub (SE.var 0 rfl (by walk_at "vis")) SE.int) (SGs.cons (SG.name 2 hnd rfl (by walk_at "loc") (by walk_at "loc")) SGs.nil))))
  (SS.cons (S1.ret (SE.var 2 rfl (by walk_at "vis")))
  SS.nil))
  SS.nil)
  (SS.cons (S1.asg (SE.add (SE.ix (SE.var 0 rfl (by walk_at "vis")) SE.int) SE.int) (SG.sub (SE.var 0 rfl (by walk_at "vis")) SE.int))
  (SS.cons (S1.set 3 hnd rfl (by walk_at "loc") (by walk_at "loc") (SE.mod (SE.toInt rfl T.n_int (SAr.cons (SE.add (SE.ix (SE.var 0 rfl (by walk_at "vis")) SE.int) (SE.mul SE.int (SE.ix (SE.var 0 rfl (by walk_at "vis")) SE.int))) SAr.nil)) SE.int))
  (SS.cons (S1.asg (SE.mod (SE.toInt rfl T.n_int (SAr.cons (SE.add (SE.mul (SE.var 3 rfl (by walk_at "vis")) (SE.add (SE.mod (SE.toInt rfl T.n_int (SAr.cons (SE.var 3 rfl (by walk_at "vis")) SAr.nil)) SE.int) SE.int)) (SE.mul SE.int (SE.ix (SE.var 0 rfl (by walk_at "vis")) SE.int))) SAr.nil)) SE.int) (SG.sub (SE.var 0 rfl (by walk_at "vis")) SE.int))
  (SS.cons (S1.ret (SE.mod (SE.toInt rfl T.n_int (SAr.cons (SE.fdiv (SE.ix (SE.var 0 rfl (by walk_at "vis")) SE.int) SE.int) SAr.nil)) (SE.var 1 rfl (by walk_at "vis"))))
  SS.nil)))))
theorem ok_l_draw (T : Fx K mg) (hB : ∃ mm, base.Ns sysModules mm) : Fn P w K mg base "_law_draw" 1 (CtrOf V_l_draw) := by
  obtain ⟨fd, F⟩ := T.d_l_draw
  exact ⟨_, _, _, okG_l_draw T hB F, T.g_l_draw, F.kp, F.bindsN fun _ _ _ _ _ _ us hl => match us, hl with | [_, _], _ => rfl⟩
theorem okG_l_pick (T : Fx K mg) (hB : ∃ mm, base.Ns sysModules mm) {fd : FuncData} (F : FunD K dl_pick.name dl_pick.qual dl_pick.params dl_pick.body dl_pick.scope (dl_pick.dvs K) (dl_pick.kws K) (He.fAd K dl_pick.at_) fd) : FnG P w K mg base 2 (He.fAd K dl_pick.at_) fd ["_law_spring_here", "_law_some"] (SpD K (CtrOf V_l_pick)) :=
  FnG.den (k := 1) F scl_pick rfl fun cd A outer s H hg hr hnd =>
  (SS.cons (S1.ret (SE.ix (SE.var 1 rfl (by walk_at "vis")) (SE.call (ok_l_draw T hB) hg (hr.mono (by omega)) rfl (SAr.cons (SE.var 0 rfl (by walk_at "vis")) (SAr.cons (SE.len rfl T.n_len (SAr.cons (SE.var 1 rfl (by walk_at "vis")) SAr.nil)) SAr.nil)))))
  SS.nil)
theorem ok_l_pick (T : Fx K mg) (hB : ∃ mm, base.Ns sysModules mm) : Fn P w K mg base "_law_pick" 2 (CtrOf V_l_pick) := by
  obtain ⟨fd, F⟩ := T.d_l_pick
  exact ⟨_, _, _, okG_l_pick T hB F, T.g_l_pick, F.kp, F.bindsN fun _ _ _ _ _ _ us hl => match us, hl with | [_, _], _ => rfl⟩
theorem okG_l_size (T : Fx K mg) (hB : ∃ mm, base.Ns sysModules mm) {fd : FuncData} (F : FunD K dl_size.name dl_size.qual dl_size.params dl_size.body dl_size.scope (dl_size.dvs K) (dl_size.kws K) (He.fAd K dl_size.at_) fd) : FnG P w K mg base 3 (He.fAd K dl_size.at_) fd ["_law_spring_here"] (SpD K (CtrOf V_l_size_o)) :=
  FnG.den (k := 2) F scl_size rfl fun cd A outer s H hg hr hnd =>
  (SS.cons (S1.ifS (ST.cmp rfl hr.units (SE.call (ok_l_draw T hB) hg (hr.mono (by omega)) rfl (SAr.cons (SE.var 0 rfl (by walk_at "vis")) (SAr.cons SE.int SAr.nil))) SE.int)
  (SS.cons (S1.ret (SE.add SE.int (SE.call (ok_l_draw T hB) hg (hr.mono (by omega)) rfl (SAr.cons (SE.var 0 rfl (by walk_at "vis")) (SAr.cons SE.int SAr.nil)))))
  SS.nil)
  SS.nil)
  (SS.cons (S1.ret (SE.call (ok_l_pick T hB) hg (hr.mono (by omega)) rfl (SAr.cons (SE.var 0 rfl (by walk_at "vis")) (SAr.cons (SE.tup (SAr.cons SE.int (SAr.cons SE.int (SAr.cons SE.int (SAr.cons SE.int (SAr.cons SE.int (SAr.cons SE.int (SAr.cons SE.int (SAr.cons SE.int SAr.nil))))))))) SAr.nil))))
  SS.nil))
theorem ok_l_size (T : Fx K mg) (hB : ∃ mm, base.Ns sysModules mm) : Fn P w K mg base "_law_size" 3 (CtrOf V_l_size_o) := by
  obtain ⟨fd, F⟩ := T.d_l_size
  exact ⟨_, _, _, okG_l_size T hB F, T.g_l_size, F.kp, F.bindsN fun _ _ _ _ _ _ us hl => match us, hl with | [_], _ => rfl⟩
theorem okG_l_spots (T : Fx K mg) (hB : ∃ mm, base.Ns sysModules mm) {fd : FuncData} (F : FunD K dl_spots.name dl_spots.qual dl_spots.params dl_spots.body dl_spots.scope (dl_spots.dvs K) (dl_spots.kws K) (He.fAd K dl_spots.at_) fd) : FnG P w K mg base 2 (He.fAd K dl_spots.at_) fd ["_law_spring_here", "_law_size_here"] (SpD K (CtrOf V_l_spots)) :=
  FnG.den (k := 1) F scl_spots rfl fun cd A outer s H hg hr hnd =>
  (SS.cons (S1.set 2 hnd rfl (by walk_at "loc") (by walk_at "loc") (SE.lstM SAr.nil))
  (SS.cons (S1.for_ PassesOwn.never rfl (SI.range1 rfl T.n_range (SAr.cons (SE.var 1 rfl (by walk_at "vis")) SAr.nil)) (SG.name 3 hnd rfl (by walk_at "loc") (by walk_at "loc"))
  (SS.cons (S1.set 4 hnd rfl (by walk_at "loc") (by walk_at "loc") (SE.cmp rfl hr.units (SE.call (ok_l_draw T hB) hg (hr.mono (by omega)) rfl (SAr.cons (SE.var 0 rfl (by walk_at "vis")) (SAr.cons SE.int SAr.nil))) SE.int))
  (SS.cons (S1.expr (SE.append (SE.var 2 rfl (by walk_at "vis")) (SE.ifE (ST.val (SE.var 4 rfl (by walk_at "vis"))) (SE.sub (SE.call (ok_l_draw T hB) hg (hr.mono (by omega)) rfl (SAr.cons (SE.var 0 rfl (by walk_at "vis")) (SAr.cons SE.int SAr.nil))) SE.int) (SE.sub (SE.call (ok_l_draw T hB) hg (hr.mono (by omega)) rfl (SAr.cons (SE.var 0 rfl (by walk_at "vis")) (SAr.cons SE.int SAr.nil))) SE.int))))
  SS.nil)))
  (SS.cons (S1.ret (SE.tuple rfl T.n_tuple (SAr.cons (SE.var 2 rfl (by walk_at "vis")) SAr.nil)))
  SS.nil)))
theorem ok_l_spots (T : Fx K mg) (hB : ∃ mm, base.Ns sysModules mm) : Fn P w K mg base "_law_spots" 2 (CtrOf V_l_spots) := by
  obtain ⟨fd, F⟩ := T.d_l_spots
  exact ⟨_, _, _, okG_l_spots T hB F, T.g_l_spots, F.kp, F.bindsN fun _ _ _ _ _ _ us hl => match us, hl with | [_, _], _ => rfl⟩
theorem okG_l_bound (T : Fx K mg) (hB : ∃ mm, base.Ns sysModules mm) {fd : FuncData} (F : FunD K dl_bound.name dl_bound.qual dl_bound.params dl_bound.body dl_bound.scope (dl_bound.dvs K) (dl_bound.kws K) (He.fAd K dl_bound.at_) fd) : FnG P w K mg base 3 (He.fAd K dl_bound.at_) fd ["_law_spring_here", "_law_way", "_law_share", "_law_gap_here"] (SpD K (CtrOf V_l_bound_o)) :=
  FnG.den (k := 2) F scl_bound rfl fun cd A outer s H hg hr hnd =>
  (SS.cons (S1.ifS (ST.cmp rfl hr.units (SE.call (ok_l_draw T hB) hg (hr.mono (by omega)) rfl (SAr.cons (SE.var 0 rfl (by walk_at "vis")) (SAr.cons SE.int SAr.nil))) (SE.var 2 rfl (by walk_at "vis")))
  (SS.cons (S1.ret SE.non)
  SS.nil)
  SS.nil)
  (SS.cons (S1.ifS (ST.cmp rfl hr.units (SE.var 1 rfl (by walk_at "vis")) SE.int)
  (SS.cons (S1.ret (SE.add (SE.var 3 rfl (by walk_at "vis")) (SE.call (ok_l_pick T hB) hg (hr.mono (by omega)) rfl (SAr.cons (SE.var 0 rfl (by walk_at "vis")) (SAr.cons (SE.tup (SAr.cons SE.int (SAr.cons SE.int (SAr.cons SE.int (SAr.cons SE.int (SAr.cons SE.int (SAr.cons SE.int (SAr.cons SE.int (SAr.cons SE.int SAr.nil))))))))) SAr.nil)))))
  SS.nil)
  SS.nil)
  (SS.cons (S1.ifS (ST.cmp rfl hr.units (SE.var 1 rfl (by walk_at "vis")) SE.int)
  (SS.cons (S1.ret (SE.add (SE.var 3 rfl (by walk_at "vis")) (SE.call (ok_l_pick T hB) hg (hr.mono (by omega)) rfl (SAr.cons (SE.var 0 rfl (by walk_at "vis")) (SAr.cons (SE.tup (SAr.cons SE.int (SAr.cons SE.int (SAr.cons SE.int (SAr.cons SE.int (SAr.cons (SE.neg SE.int) (SAr.cons SE.int (SAr.cons SE.int (SAr.cons SE.int SAr.nil))))))))) SAr.nil)))))
  SS.nil)
  SS.nil)
  (SS.cons (S1.ret (SE.sub (SE.call (ok_l_draw T hB) hg (hr.mono (by omega)) rfl (SAr.cons (SE.var 0 rfl (by walk_at "vis")) (SAr.cons SE.int SAr.nil))) SE.int))
  SS.nil))))
theorem ok_l_bound (T : Fx K mg) (hB : ∃ mm, base.Ns sysModules mm) : Fn P w K mg base "_law_bound" 3 (CtrOf V_l_bound_o) := by
  obtain ⟨fd, F⟩ := T.d_l_bound
  exact ⟨_, _, _, okG_l_bound T hB F, T.g_l_bound, F.kp, F.bindsN fun _ _ _ _ _ _ us hl => match us, hl with | [_, _, _, _], _ => rfl⟩
theorem okG_l_about (T : Fx K mg) (hB : ∃ mm, base.Ns sysModules mm) {fd : FuncData} (F : FunD K dl_about.name dl_about.qual dl_about.params dl_about.body dl_about.scope (dl_about.dvs K) (dl_about.kws K) (He.fAd K dl_about.at_) fd) : FnG P w K mg base 4 (He.fAd K dl_about.at_) fd ["_law_spring_here", "_law_size_here", "_law_base"] (SpD K (CtrOf V_l_about_o)) :=
  FnG.den (k := 3) F scl_about rfl fun cd A outer s H hg hr hnd =>
  (SS.cons (S1.asg (SE.tup (SAr.cons (SE.call (ok_l_draw T hB) hg (hr.mono (by omega)) rfl (SAr.cons (SE.var 0 rfl (by walk_at "vis")) (SAr.cons SE.int SAr.nil))) (SAr.cons (SE.call (ok_l_draw T hB) hg (hr.mono (by omega)) rfl (SAr.cons (SE.var 0 rfl (by walk_at "vis")) (SAr.cons SE.int SAr.nil))) (SAr.cons (SE.add (SE.tup (SAr.cons SE.int SAr.nil)) (SE.var 2 rfl (by walk_at "vis"))) (SAr.cons (SE.lstM SAr.nil) SAr.nil))))) (SG.tup (n := 4) rfl (SGs.cons (SG.name 3 hnd rfl (by walk_at "loc") (by walk_at "loc")) (SGs.cons (SG.name 4 hnd rfl (by walk_at "loc") (by walk_at "loc")) (SGs.cons (SG.name 5 hnd rfl (by walk_at "loc") (by walk_at "loc")) (SGs.cons (SG.name 6 hnd rfl (by walk_at "loc") (by walk_at "loc")) SGs.nil))))))
  (SS.cons (S1.ifS (ST.cmp rfl hr.units (SE.var 3 rfl (by walk_at "vis")) SE.int)
  (SS.cons (S1.ret SE.non)
  SS.nil)
  SS.nil)
  (SS.cons (S1.for_ PassesOwn.never rfl (SI.range1 rfl T.n_range (SAr.cons (SE.add (SE.var 1 rfl (by walk_at "vis")) SE.int) SAr.nil)) (SG.name 7 hnd rfl (by walk_at "loc") (by walk_at "loc"))
  (SS.cons (S1.set 8 hnd rfl (by walk_at "loc") (by walk_at "loc") (SE.lstM SAr.nil))
  (SS.cons (S1.for_ PassesOwn.never rfl (SI.range1 rfl T.n_range (SAr.cons (SE.add (SE.var 1 rfl (by walk_at "vis")) SE.int) SAr.nil)) (SG.name 9 hnd rfl (by walk_at "loc") (by walk_at "loc"))
  (SS.cons (S1.expr (SE.append (SE.var 8 rfl (by walk_at "vis")) (SE.ifE (ST.cmp rfl hr.units (SE.var 7 rfl (by walk_at "vis")) (SE.var 9 rfl (by walk_at "vis"))) SE.int (SE.call (ok_l_bound T hB) hg (hr.mono (by omega)) rfl (SAr.cons (SE.var 0 rfl (by walk_at "vis")) (SAr.cons (SE.var 3 rfl (by walk_at "vis")) (SAr.cons (SE.var 4 rfl (by walk_at "vis")) (SAr.cons (SE.sub (SE.ix (SE.var 5 rfl (by walk_at "vis")) (SE.var 7 rfl (by walk_at "vis"))) (SE.ix (SE.var 5 rfl (by walk_at "vis")) (SE.var 9 rfl (by walk_at "vis")))) SAr.nil))))))))
  SS.nil))
  (SS.cons (S1.expr (SE.append (SE.var 6 rfl (by walk_at "vis")) (SE.tuple rfl T.n_tuple (SAr.cons (SE.var 8 rfl (by walk_at "vis")) SAr.nil))))
  SS.nil))))
  (SS.cons (S1.ret (SE.tuple rfl T.n_tuple (SAr.cons (SE.var 6 rfl (by walk_at "vis")) SAr.nil)))
  SS.nil))))
theorem ok_l_about (T : Fx K mg) (hB : ∃ mm, base.Ns sysModules mm) : Fn P w K mg base "_law_about" 4 (CtrOf V_l_about_o) := by
  obtain ⟨fd, F⟩ := T.d_l_about
  exact ⟨_, _, _, okG_l_about T hB F, T.g_l_about, F.kp, F.bindsN fun _ _ _ _ _ _ us hl => match us, hl with | [_, _, _], _ => rfl⟩
theorem okG_l_near_spots (T : Fx K mg) (hB : ∃ mm, base.Ns sysModules mm) {fd : FuncData} (F : FunD K dl_near_spots.name dl_near_spots.qual dl_near_spots.params dl_near_spots.body dl_near_spots.scope (dl_near_spots.dvs K) (dl_near_spots.kws K) (He.fAd K dl_near_spots.at_) fd) : FnG P w K mg base 3 (He.fAd K dl_near_spots.at_) fd ["_law_spring_here", "_law_spots_here"] (SpD K (CtrOf V_l_near_spots)) :=
  FnG.den (k := 2) F scl_near_spots rfl fun cd A outer s H hg hr hnd =>
  (SS.cons (S1.ifS (ST.cmp rfl hr.units (SE.var 1 rfl (by walk_at "vis")) (SE.tup SAr.nil))
  (SS.cons (S1.ret (SE.var 1 rfl (by walk_at "vis")))
  SS.nil)
  SS.nil)
  (SS.cons (S1.set 2 hnd rfl (by walk_at "loc") (by walk_at "loc") (SE.call (ok_l_draw T hB) hg (hr.mono (by omega)) rfl (SAr.cons (SE.var 0 rfl (by walk_at "vis")) (SAr.cons (SE.len rfl T.n_len (SAr.cons (SE.var 1 rfl (by walk_at "vis")) SAr.nil)) SAr.nil))))
  (SS.cons (S1.ret (SE.add (SE.add (SE.slice (SE.var 1 rfl (by walk_at "vis")) spN (spS (SE.var 2 rfl (by walk_at "vis")))) (SE.tup (SAr.cons (SE.add (SE.ix (SE.var 1 rfl (by walk_at "vis")) (SE.var 2 rfl (by walk_at "vis"))) (SE.call (ok_l_pick T hB) hg (hr.mono (by omega)) rfl (SAr.cons (SE.var 0 rfl (by walk_at "vis")) (SAr.cons (SE.tup (SAr.cons SE.int (SAr.cons (SE.neg SE.int) (SAr.cons SE.int (SAr.cons (SE.neg SE.int) (SAr.cons SE.int (SAr.cons SE.int SAr.nil))))))) SAr.nil)))) SAr.nil))) (SE.slice (SE.var 1 rfl (by walk_at "vis")) (spS (SE.add (SE.var 2 rfl (by walk_at "vis")) SE.int)) spN)))
  SS.nil)))
theorem ok_l_near_spots (T : Fx K mg) (hB : ∃ mm, base.Ns sysModules mm) : Fn P w K mg base "_law_near_spots" 3 (CtrOf V_l_near_spots) := by
  obtain ⟨fd, F⟩ := T.d_l_near_spots
  exact ⟨_, _, _, okG_l_near_spots T hB F, T.g_l_near_spots, F.kp, F.bindsN fun _ _ _ _ _ _ us hl => match us, hl with | [_, _], _ => rfl⟩
theorem okG_l_holds (T : Fx K mg) (hB : ∃ mm, base.Ns sysModules mm) {fd : FuncData} (F : FunD K dl_holds.name dl_holds.qual dl_holds.params dl_holds.body dl_holds.scope (dl_holds.dvs K) (dl_holds.kws K) (He.fAd K dl_holds.at_) fd) : FnG P w K mg base 1 (He.fAd K dl_holds.at_) fd ["_law_wide", "_law_spots_here"] (SpD K (CtrOf V_l_holds)) :=
  FnG.den (k := 0) F scl_holds rfl fun cd A outer s H hg hr hnd =>
  (SS.cons (S1.ifS (ST.cmp rfl hr.units (SE.var 0 rfl (by walk_at "vis")) SE.non)
  (SS.cons (S1.ret SE.bl)
  SS.nil)
  SS.nil)
  (SS.cons (S1.set 2 hnd rfl (by walk_at "loc") (by walk_at "loc") (SE.add (SE.tup (SAr.cons SE.int SAr.nil)) (SE.var 1 rfl (by walk_at "vis"))))
  (SS.cons (S1.for_ PassesOwn.never rfl (SI.range1 rfl T.n_range (SAr.cons (SE.len rfl T.n_len (SAr.cons (SE.var 2 rfl (by walk_at "vis")) SAr.nil)) SAr.nil)) (SG.name 3 hnd rfl (by walk_at "loc") (by walk_at "loc"))
  (SS.cons (S1.for_ PassesOwn.never rfl (SI.range1 rfl T.n_range (SAr.cons (SE.len rfl T.n_len (SAr.cons (SE.var 2 rfl (by walk_at "vis")) SAr.nil)) SAr.nil)) (SG.name 4 hnd rfl (by walk_at "loc") (by walk_at "loc"))
  (SS.cons (S1.set 5 hnd rfl (by walk_at "loc") (by walk_at "loc") (SE.ix (SE.ix (SE.var 0 rfl (by walk_at "vis")) (SE.var 3 rfl (by walk_at "vis"))) (SE.var 4 rfl (by walk_at "vis"))))
  (SS.cons (S1.ifS (ST.w (SW.and (ST.cmp rfl hr.units (SE.var 5 rfl (by walk_at "vis")) SE.non) (SW.and1 (ST.cmp rfl hr.units (SE.sub (SE.ix (SE.var 2 rfl (by walk_at "vis")) (SE.var 3 rfl (by walk_at "vis"))) (SE.ix (SE.var 2 rfl (by walk_at "vis")) (SE.var 4 rfl (by walk_at "vis")))) (SE.var 5 rfl (by walk_at "vis"))))))
  (SS.cons (S1.ret SE.bl)
  SS.nil)
  SS.nil)
  SS.nil)))
  SS.nil))
  (SS.cons (S1.ret SE.bl)
  SS.nil))))
theorem ok_l_holds (T : Fx K mg) (hB : ∃ mm, base.Ns sysModules mm) : Fn P w K mg base "_law_holds" 1 (CtrOf V_l_holds) := by
  obtain ⟨fd, F⟩ := T.d_l_holds
  exact ⟨_, _, _, okG_l_holds T hB F, T.g_l_holds, F.kp, F.bindsN fun _ _ _ _ _ _ us hl => match us, hl with | [_, _], _ => rfl⟩
theorem okG_l_closing (T : Fx K mg) (hB : ∃ mm, base.Ns sysModules mm) {fd : FuncData} (F : FunD K dl_closing.name dl_closing.qual dl_closing.params dl_closing.body dl_closing.scope (dl_closing.dvs K) (dl_closing.kws K) (He.fAd K dl_closing.at_) fd) : FnG P w K mg base 1 (He.fAd K dl_closing.at_) fd ["_law_size_here", "_law_wide"] (SpD K (CtrOf V_l_closing)) :=
  FnG.den (k := 0) F scl_closing rfl fun cd A outer s H hg hr hnd =>
  (SS.cons (S1.ifS (ST.cmp rfl hr.units (SE.var 1 rfl (by walk_at "vis")) SE.non)
  (SS.cons (S1.ret SE.non)
  SS.nil)
  SS.nil)
  (SS.cons (S1.rows 2 8 rfl hnd rfl rfl (sw_true rfl rfl rfl (by decide +kernel)) rfl (blkOk_by (by kernel_rfl)) (fun _ _ _ _ _ => ⟨by walk_at "loc", by walk_at "loc"⟩) (SI.seq (SE.var 1 rfl (by walk_at "vis"))) (fun _ _ _ _ _ => (SE.listM rfl T.n_list (SAr.cons (SE.var 8 rfl (by walk_at "vis")) SAr.nil))))
  (SS.cons (S1.for_ PassesOwn.never rfl (SI.range1 rfl T.n_range (SAr.cons (SE.add (SE.var 0 rfl (by walk_at "vis")) SE.int) SAr.nil)) (SG.name 3 hnd rfl (by walk_at "loc") (by walk_at "loc"))
  (SS.cons (S1.for_ PassesOwn.never rfl (SI.range1 rfl T.n_range (SAr.cons (SE.add (SE.var 0 rfl (by walk_at "vis")) SE.int) SAr.nil)) (SG.name 4 hnd rfl (by walk_at "loc") (by walk_at "loc"))
  (SS.cons (S1.set 5 hnd rfl (by walk_at "loc") (by walk_at "loc") (SE.ix (SE.ix (SE.var 2 rfl (by walk_at "vis")) (SE.var 4 rfl (by walk_at "vis"))) (SE.var 3 rfl (by walk_at "vis"))))
  (SS.cons (S1.for_ PassesOwn.never rfl (SI.range1 rfl T.n_range (SAr.cons (SE.add (SE.var 0 rfl (by walk_at "vis")) SE.int) SAr.nil)) (SG.name 6 hnd rfl (by walk_at "loc") (by walk_at "loc"))
  (SS.cons (S1.set 7 hnd rfl (by walk_at "loc") (by walk_at "loc") (SE.ix (SE.ix (SE.var 2 rfl (by walk_at "vis")) (SE.var 3 rfl (by walk_at "vis"))) (SE.var 6 rfl (by walk_at "vis"))))
  (SS.cons (S1.ifS (ST.w (SW.and (ST.cmp rfl hr.units (SE.var 5 rfl (by walk_at "vis")) SE.non) (SW.and1 (ST.cmp rfl hr.units (SE.var 7 rfl (by walk_at "vis")) SE.non))))
  (SS.cons (S1.ifS (ST.w (SW.or (ST.cmp rfl hr.units (SE.ix (SE.ix (SE.var 2 rfl (by walk_at "vis")) (SE.var 4 rfl (by walk_at "vis"))) (SE.var 6 rfl (by walk_at "vis"))) SE.non) (SW.or1 (ST.cmp rfl hr.units (SE.add (SE.var 5 rfl (by walk_at "vis")) (SE.var 7 rfl (by walk_at "vis"))) (SE.ix (SE.ix (SE.var 2 rfl (by walk_at "vis")) (SE.var 4 rfl (by walk_at "vis"))) (SE.var 6 rfl (by walk_at "vis")))))))
  (SS.cons (S1.asg (SE.add (SE.var 5 rfl (by walk_at "vis")) (SE.var 7 rfl (by walk_at "vis"))) (SG.sub (SE.ix (SE.var 2 rfl (by walk_at "vis")) (SE.var 4 rfl (by walk_at "vis"))) (SE.var 6 rfl (by walk_at "vis"))))
  SS.nil)
  SS.nil)
  SS.nil)
  SS.nil)
  SS.nil)))
  (SS.cons (S1.ifS (ST.cmp rfl hr.units (SE.ix (SE.ix (SE.var 2 rfl (by walk_at "vis")) (SE.var 4 rfl (by walk_at "vis"))) (SE.var 4 rfl (by walk_at "vis"))) SE.int)
  (SS.cons (S1.ret SE.non)
  SS.nil)
  SS.nil)
  SS.nil))))
  SS.nil))
  (SS.thaw 2 (SS.cons (S1.ret (SE.tuple rfl T.n_tuple (SAr.cons (SE.lc 8 rfl hnd rfl (blkOk_by (by kernel_rfl)) (fun _ _ _ _ _ => ⟨by walk_at "loc", by walk_at "loc"⟩) (SI.seq (SE.var 2 rfl (by walk_at "vis"))) (fun _ _ _ _ _ => (SE.tuple rfl T.n_tuple (SAr.cons (SE.var 8 rfl (by walk_at "vis")) SAr.nil)))) SAr.nil)))
  SS.nil)))))
theorem ok_l_closing (T : Fx K mg) (hB : ∃ mm, base.Ns sysModules mm) : Fn P w K mg base "_law_closing" 1 (CtrOf V_l_closing) := by
  obtain ⟨fd, F⟩ := T.d_l_closing
  exact ⟨_, _, _, okG_l_closing T hB F, T.g_l_closing, F.kp, F.bindsN fun _ _ _ _ _ _ us hl => match us, hl with | [_, _], _ => rfl⟩
theorem okG_l_with (T : Fx K mg) (hB : ∃ mm, base.Ns sysModules mm) {fd : FuncData} (F : FunD K dl_with.name dl_with.qual dl_with.params dl_with.body dl_with.scope (dl_with.dvs K) (dl_with.kws K) (He.fAd K dl_with.at_) fd) : FnG P w K mg base 1 (He.fAd K dl_with.at_) fd ["_law_grid", "_law_here", "_law_there", "_law_bound_here"] (SpD K (CtrOf V_l_with)) :=
  FnG.den (k := 0) F scl_with rfl fun cd A outer s H hg hr hnd =>
  (SS.cons (S1.set 4 hnd rfl (by walk_at "loc") (by walk_at "loc") (SE.add (SE.add (SE.slice (SE.ix (SE.var 0 rfl (by walk_at "vis")) (SE.var 1 rfl (by walk_at "vis"))) spN (spS (SE.var 2 rfl (by walk_at "vis")))) (SE.tup (SAr.cons (SE.var 3 rfl (by walk_at "vis")) SAr.nil))) (SE.slice (SE.ix (SE.var 0 rfl (by walk_at "vis")) (SE.var 1 rfl (by walk_at "vis"))) (spS (SE.add (SE.var 2 rfl (by walk_at "vis")) SE.int)) spN)))
  (SS.cons (S1.ret (SE.add (SE.add (SE.slice (SE.var 0 rfl (by walk_at "vis")) spN (spS (SE.var 1 rfl (by walk_at "vis")))) (SE.tup (SAr.cons (SE.var 4 rfl (by walk_at "vis")) SAr.nil))) (SE.slice (SE.var 0 rfl (by walk_at "vis")) (spS (SE.add (SE.var 1 rfl (by walk_at "vis")) SE.int)) spN)))
  SS.nil))
theorem ok_l_with (T : Fx K mg) (hB : ∃ mm, base.Ns sysModules mm) : Fn P w K mg base "_law_with" 1 (CtrOf V_l_with) := by
  obtain ⟨fd, F⟩ := T.d_l_with
  exact ⟨_, _, _, okG_l_with T hB F, T.g_l_with, F.kp, F.bindsN fun _ _ _ _ _ _ us hl => match us, hl with | [_, _, _, _], _ => rfl⟩
theorem okG_l_lesser (T : Fx K mg) (hB : ∃ mm, base.Ns sysModules mm) {fd : FuncData} (F : FunD K dl_lesser.name dl_lesser.qual dl_lesser.params dl_lesser.body dl_lesser.scope (dl_lesser.dvs K) (dl_lesser.kws K) (He.fAd K dl_lesser.at_) fd) : FnG P w K mg base 1 (He.fAd K dl_lesser.at_) fd ["_law_bound_here", "_law_other_bound"] (SpD K (CtrOf V_l_lesser)) :=
  FnG.den (k := 0) F scl_lesser rfl fun cd A outer s H hg hr hnd =>
  (SS.cons (S1.ifS (ST.w (SW.or (ST.cmp rfl hr.units (SE.var 0 rfl (by walk_at "vis")) SE.non) (SW.or1 (ST.cmp rfl hr.units (SE.var 1 rfl (by walk_at "vis")) SE.non))))
  (SS.cons (S1.ret (SE.ifE (ST.cmp rfl hr.units (SE.var 0 rfl (by walk_at "vis")) SE.non) (SE.var 1 rfl (by walk_at "vis")) (SE.var 0 rfl (by walk_at "vis"))))
  SS.nil)
  SS.nil)
  (SS.cons (S1.ret (SE.min2 rfl rfl T.n_min (SAr.cons (SE.var 0 rfl (by walk_at "vis")) (SAr.cons (SE.var 1 rfl (by walk_at "vis")) SAr.nil))))
  SS.nil))
theorem ok_l_lesser (T : Fx K mg) (hB : ∃ mm, base.Ns sysModules mm) : Fn P w K mg base "_law_lesser" 1 (CtrOf V_l_lesser) := by
  obtain ⟨fd, F⟩ := T.d_l_lesser
  exact ⟨_, _, _, okG_l_lesser T hB F, T.g_l_lesser, F.kp, F.bindsN fun _ _ _ _ _ _ us hl => match us, hl with | [_, _], _ => rfl⟩
theorem okG_l_greater (T : Fx K mg) (hB : ∃ mm, base.Ns sysModules mm) {fd : FuncData} (F : FunD K dl_greater.name dl_greater.qual dl_greater.params dl_greater.body dl_greater.scope (dl_greater.dvs K) (dl_greater.kws K) (He.fAd K dl_greater.at_) fd) : FnG P w K mg base 1 (He.fAd K dl_greater.at_) fd ["_law_bound_here", "_law_other_bound"] (SpD K (CtrOf V_l_greater)) :=
  FnG.den (k := 0) F scl_greater rfl fun cd A outer s H hg hr hnd =>
  (SS.cons (S1.ret (SE.ifE (ST.w (SW.or (ST.cmp rfl hr.units (SE.var 0 rfl (by walk_at "vis")) SE.non) (SW.or1 (ST.cmp rfl hr.units (SE.var 1 rfl (by walk_at "vis")) SE.non)))) SE.non (SE.max2 rfl rfl T.n_max (SAr.cons (SE.var 0 rfl (by walk_at "vis")) (SAr.cons (SE.var 1 rfl (by walk_at "vis")) SAr.nil)))))
  SS.nil)
theorem ok_l_greater (T : Fx K mg) (hB : ∃ mm, base.Ns sysModules mm) : Fn P w K mg base "_law_greater" 1 (CtrOf V_l_greater) := by
  obtain ⟨fd, F⟩ := T.d_l_greater
  exact ⟨_, _, _, okG_l_greater T hB F, T.g_l_greater, F.kp, F.bindsN fun _ _ _ _ _ _ us hl => match us, hl with | [_, _], _ => rfl⟩
theorem okG_l_joined (T : Fx K mg) (hB : ∃ mm, base.Ns sysModules mm) {fd : FuncData} (F : FunD K dl_joined.name dl_joined.qual dl_joined.params dl_joined.body dl_joined.scope (dl_joined.dvs K) (dl_joined.kws K) (He.fAd K dl_joined.at_) fd) : FnG P w K mg base 2 (He.fAd K dl_joined.at_) fd ["_law_close", "_law_near"] (SpD K (CtrOf V_l_joined)) :=
  FnG.den (k := 1) F scl_joined rfl fun cd A outer s H hg hr hnd =>
  (SS.cons (S1.ifS (ST.w (SW.or (ST.cmp rfl hr.units (SE.var 0 rfl (by walk_at "vis")) SE.non) (SW.or1 (ST.cmp rfl hr.units (SE.var 1 rfl (by walk_at "vis")) SE.non))))
  (SS.cons (S1.ret (SE.ifE (ST.cmp rfl hr.units (SE.var 0 rfl (by walk_at "vis")) SE.non) (SE.var 1 rfl (by walk_at "vis")) (SE.var 0 rfl (by walk_at "vis"))))
  SS.nil)
  SS.nil)
  (SS.cons (S1.ret (SE.tuple rfl T.n_tuple (SAr.cons (SE.lc2 4 5 (by decide) rfl hnd rfl rfl (blkOk_by (by kernel_rfl)) (fun _ _ _ _ _ => rfl) (fun _ _ _ _ _ => ⟨by walk_at "loc", by walk_at "loc"⟩) (fun _ _ _ _ _ => ⟨by walk_at "loc", by walk_at "loc"⟩) (SI.zipX rfl T.n_zip (SAr.cons (SE.var 0 rfl (by walk_at "vis")) (SAr.cons (SE.var 1 rfl (by walk_at "vis")) SAr.nil))) (fun _ _ _ _ _ => (SE.tuple rfl T.n_tuple (SAr.cons (SE.lc2 2 3 (by decide) rfl hnd rfl rfl (blkOk_by (by kernel_rfl)) (fun _ _ _ _ _ => rfl) (fun _ _ _ _ _ => ⟨by walk_at "loc", by walk_at "loc"⟩) (fun _ _ _ _ _ => ⟨by walk_at "loc", by walk_at "loc"⟩) (SI.zipX rfl T.n_zip (SAr.cons (SE.var 4 rfl (by walk_at "vis")) (SAr.cons (SE.var 5 rfl (by walk_at "vis")) SAr.nil))) (fun _ _ _ _ _ => (SE.call (ok_l_greater T hB) hg (hr.mono (by omega)) rfl (SAr.cons (SE.var 2 rfl (by walk_at "vis")) (SAr.cons (SE.var 3 rfl (by walk_at "vis")) SAr.nil))))) SAr.nil)))) SAr.nil)))
  SS.nil))
theorem ok_l_joined (T : Fx K mg) (hB : ∃ mm, base.Ns sysModules mm) : Fn P w K mg base "_law_joined" 2 (CtrOf V_l_joined) := by
  obtain ⟨fd, F⟩ := T.d_l_joined
  exact ⟨_, _, _, okG_l_joined T hB F, T.g_l_joined, F.kp, F.bindsN fun _ _ _ _ _ _ us hl => match us, hl with | [_, _], _ => rfl⟩
theorem okG_l_guarded (T : Fx K mg) (hB : ∃ mm, base.Ns sysModules mm) {fd : FuncData} (F : FunD K dl_guarded.name dl_guarded.qual dl_guarded.params dl_guarded.body dl_guarded.scope (dl_guarded.dvs K) (dl_guarded.kws K) (He.fAd K dl_guarded.at_) fd) : FnG P w K mg base 2 (He.fAd K dl_guarded.at_) fd ["_law_size_here", "_law_wide", "_law_here", "_law_there", "_law_gap_here"] (SpD K (CtrOf V_l_guarded)) :=
  FnG.den (k := 1) F scl_guarded rfl fun cd A outer s H hg hr hnd =>
  (SS.cons (S1.ifS (ST.w (SW.or (ST.cmp rfl hr.units (SE.var 1 rfl (by walk_at "vis")) SE.non) (SW.or1 (ST.w (SW.and (ST.cmp rfl hr.units (SE.var 2 rfl (by walk_at "vis")) (SE.var 3 rfl (by walk_at "vis"))) (SW.and1 (ST.cmp rfl hr.units (SE.var 4 rfl (by walk_at "vis")) SE.int)))))))
  (SS.cons (S1.ret SE.non)
  SS.nil)
  SS.nil)
  (SS.cons (S1.ifS (ST.cmp rfl hr.units (SE.var 2 rfl (by walk_at "vis")) (SE.var 3 rfl (by walk_at "vis")))
  (SS.cons (S1.ret (SE.call (ok_l_closing T hB) hg (hr.mono (by omega)) rfl (SAr.cons (SE.var 0 rfl (by walk_at "vis")) (SAr.cons (SE.var 1 rfl (by walk_at "vis")) SAr.nil))))
  SS.nil)
  SS.nil)
  (SS.cons (S1.ret (SE.call (ok_l_closing T hB) hg (hr.mono (by omega)) rfl (SAr.cons (SE.var 0 rfl (by walk_at "vis")) (SAr.cons (SE.call (ok_l_with T hB) hg (hr.mono (by omega)) rfl (SAr.cons (SE.var 1 rfl (by walk_at "vis")) (SAr.cons (SE.var 2 rfl (by walk_at "vis")) (SAr.cons (SE.var 3 rfl (by walk_at "vis")) (SAr.cons (SE.call (ok_l_lesser T hB) hg (hr.mono (by omega)) rfl (SAr.cons (SE.ix (SE.ix (SE.var 1 rfl (by walk_at "vis")) (SE.var 2 rfl (by walk_at "vis"))) (SE.var 3 rfl (by walk_at "vis"))) (SAr.cons (SE.var 4 rfl (by walk_at "vis")) SAr.nil))) SAr.nil))))) SAr.nil))))
  SS.nil)))
theorem ok_l_guarded (T : Fx K mg) (hB : ∃ mm, base.Ns sysModules mm) : Fn P w K mg base "_law_guarded" 2 (CtrOf V_l_guarded) := by
  obtain ⟨fd, F⟩ := T.d_l_guarded
  exact ⟨_, _, _, okG_l_guarded T hB F, T.g_l_guarded, F.kp, F.bindsN fun _ _ _ _ _ _ us hl => match us, hl with | [_, _, _, _, _], _ => rfl⟩
theorem okG_l_gap (T : Fx K mg) (hB : ∃ mm, base.Ns sysModules mm) {fd : FuncData} (F : FunD K dl_gap.name dl_gap.qual dl_gap.params dl_gap.body dl_gap.scope (dl_gap.dvs K) (dl_gap.kws K) (He.fAd K dl_gap.at_) fd) : FnG P w K mg base 2 (He.fAd K dl_gap.at_) fd ["_law_spring_here", "_law_close", "_law_here", "_law_there"] (SpD K (CtrOf V_l_gap)) :=
  FnG.den (k := 1) F scl_gap rfl fun cd A outer s H hg hr hnd =>
  (SS.cons (S1.set 4 hnd rfl (by walk_at "loc") (by walk_at "loc") (SE.call (ok_l_draw T hB) hg (hr.mono (by omega)) rfl (SAr.cons (SE.var 0 rfl (by walk_at "vis")) (SAr.cons SE.int SAr.nil))))
  (SS.cons (S1.set 5 hnd rfl (by walk_at "loc") (by walk_at "loc") (SE.ifE (ST.cmp rfl hr.units (SE.var 1 rfl (by walk_at "vis")) SE.non) SE.non (SE.ix (SE.ix (SE.var 1 rfl (by walk_at "vis")) (SE.var 3 rfl (by walk_at "vis"))) (SE.var 2 rfl (by walk_at "vis")))))
  (SS.cons (S1.set 6 hnd rfl (by walk_at "loc") (by walk_at "loc") (SE.ifE (ST.cmp rfl hr.units (SE.var 1 rfl (by walk_at "vis")) SE.non) SE.non (SE.ix (SE.ix (SE.var 1 rfl (by walk_at "vis")) (SE.var 2 rfl (by walk_at "vis"))) (SE.var 3 rfl (by walk_at "vis")))))
  (SS.cons (S1.ifS (ST.w (SW.and (ST.cmp rfl hr.units (SE.var 4 rfl (by walk_at "vis")) SE.int) (SW.and1 (ST.cmp rfl hr.units (SE.var 6 rfl (by walk_at "vis")) SE.non))))
  (SS.cons (S1.ret (SE.sub (SE.add (SE.var 6 rfl (by walk_at "vis")) (SE.var 4 rfl (by walk_at "vis"))) SE.int))
  SS.nil)
  SS.nil)
  (SS.cons (S1.ifS (ST.w (SW.and (ST.cmp rfl hr.units (SE.var 4 rfl (by walk_at "vis")) SE.int) (SW.and1 (ST.cmp rfl hr.units (SE.var 5 rfl (by walk_at "vis")) SE.non))))
  (SS.cons (S1.ret (SE.sub (SE.add (SE.sub SE.int (SE.var 5 rfl (by walk_at "vis"))) (SE.var 4 rfl (by walk_at "vis"))) SE.int))
  SS.nil)
  SS.nil)
  (SS.cons (S1.ifS (ST.w (SW.and (ST.cmp rfl hr.units (SE.var 4 rfl (by walk_at "vis")) SE.int) (SW.and (ST.cmp rfl hr.units (SE.var 5 rfl (by walk_at "vis")) SE.non) (SW.and1 (ST.cmp rfl hr.units (SE.var 6 rfl (by walk_at "vis")) SE.non)))))
  (SS.cons (S1.ret (SE.sub (SE.call (ok_l_draw T hB) hg (hr.mono (by omega)) rfl (SAr.cons (SE.var 0 rfl (by walk_at "vis")) (SAr.cons (SE.add (SE.add (SE.var 5 rfl (by walk_at "vis")) (SE.var 6 rfl (by walk_at "vis"))) SE.int) SAr.nil))) (SE.var 5 rfl (by walk_at "vis"))))
  SS.nil)
  SS.nil)
  (SS.cons (S1.ret (SE.sub (SE.call (ok_l_draw T hB) hg (hr.mono (by omega)) rfl (SAr.cons (SE.var 0 rfl (by walk_at "vis")) (SAr.cons SE.int SAr.nil))) SE.int))
  SS.nil)))))))
theorem ok_l_gap (T : Fx K mg) (hB : ∃ mm, base.Ns sysModules mm) : Fn P w K mg base "_law_gap" 2 (CtrOf V_l_gap) := by
  obtain ⟨fd, F⟩ := T.d_l_gap
  exact ⟨_, _, _, okG_l_gap T hB F, T.g_l_gap, F.kp, F.bindsN fun _ _ _ _ _ _ us hl => match us, hl with | [_, _, _, _], _ => rfl⟩
theorem okW_differences_unlike_number_second_first_one_many (T : Fx K mg) (hB : ∃ mm, base.Ns sysModules mm) : FnW P w K mg base "differences_unlike" 6 (CtrOf V_differences_unlike) ["number", "second", "first", "one", "many"] [4, 3, 2, 1, 0] := by
  obtain ⟨fd, F⟩ := T.d_differences_unlike
  exact FnW.mk F (okG_differences_unlike T hB F) T.g_differences_unlike ["number", "second", "first", "one", "many"] [4, 3, 2, 1, 0] fun _ _ _ _ _ _ us hl => match us, hl with | [_, _, _, _, _], _ => rfl

theorem okW_differences_guarded_number_second_first_one_many (T : Fx K mg) (hB : ∃ mm, base.Ns sysModules mm) : FnW P w K mg base "differences_guarded" 6 (CtrOf V_differences_guarded) ["number", "second", "first", "one", "many"] [4, 3, 2, 1, 0] := by
  obtain ⟨fd, F⟩ := T.d_differences_guarded
  exact FnW.mk F (okG_differences_guarded T hB F) T.g_differences_guarded ["number", "second", "first", "one", "many"] [4, 3, 2, 1, 0] fun _ _ _ _ _ _ us hl => match us, hl with | [_, _, _, _, _], _ => rfl

theorem okG_l_deed_right (T : Fx K mg) (hB : ∃ mm, base.Ns sysModules mm) {fd : FuncData} (F : FunD K dl_deed_right.name dl_deed_right.qual dl_deed_right.params dl_deed_right.body dl_deed_right.scope (dl_deed_right.dvs K) (dl_deed_right.kws K) (He.fAd K dl_deed_right.at_) fd) : FnG P w K mg base 7 (He.fAd K dl_deed_right.at_) fd ["_law_spring_here", "_law_size_here", "_law_wide", "_law_close", "_law_points"] (SpD K (CtrOf V_l_deed_right)) :=
  FnG.den (k := 6) F scl_deed_right rfl fun cd A outer s H hg hr hnd =>
  (SS.cons (S1.par 5 6 rfl hnd rfl rfl (by decide) rfl rfl (SAr.cons (SE.call (ok_l_draw T hB) hg (hr.mono (by omega)) rfl (SAr.cons (SE.var 0 rfl (by walk_at "vis")) (SAr.cons (SE.add (SE.var 1 rfl (by walk_at "vis")) SE.int) SAr.nil))) (SAr.cons (SE.call (ok_l_draw T hB) hg (hr.mono (by omega)) rfl (SAr.cons (SE.var 0 rfl (by walk_at "vis")) (SAr.cons (SE.add (SE.var 1 rfl (by walk_at "vis")) SE.int) SAr.nil))) SAr.nil)))
  (SS.cons (S1.set 7 hnd rfl (by walk_at "loc") (by walk_at "loc") (SE.call (ok_l_gap T hB) hg (hr.mono (by omega)) rfl (SAr.cons (SE.var 0 rfl (by walk_at "vis")) (SAr.cons (SE.var 3 rfl (by walk_at "vis")) (SAr.cons (SE.var 5 rfl (by walk_at "vis")) (SAr.cons (SE.var 6 rfl (by walk_at "vis")) SAr.nil))))))
  (SS.cons (S1.set 8 hnd rfl (by walk_at "loc") (by walk_at "loc") (SE.call (ok_l_guarded T hB) hg (hr.mono (by omega)) rfl (SAr.cons (SE.var 1 rfl (by walk_at "vis")) (SAr.cons (SE.var 2 rfl (by walk_at "vis")) (SAr.cons (SE.var 5 rfl (by walk_at "vis")) (SAr.cons (SE.var 6 rfl (by walk_at "vis")) (SAr.cons (SE.var 7 rfl (by walk_at "vis")) SAr.nil)))))))
  (SS.cons (S1.set 9 hnd rfl (by walk_at "loc") (by walk_at "loc") (SE.call (ok_l_guarded T hB) hg (hr.mono (by omega)) rfl (SAr.cons (SE.var 1 rfl (by walk_at "vis")) (SAr.cons (SE.var 2 rfl (by walk_at "vis")) (SAr.cons (SE.var 6 rfl (by walk_at "vis")) (SAr.cons (SE.var 5 rfl (by walk_at "vis")) (SAr.cons (SE.sub (SE.sub SE.int (SE.var 7 rfl (by walk_at "vis"))) SE.int) SAr.nil)))))))
  (SS.cons (S1.set 10 hnd rfl (by walk_at "loc") (by walk_at "loc") (SE.call (ok_l_joined T hB) hg (hr.mono (by omega)) rfl (SAr.cons (SE.call (ok_l_guarded T hB) hg (hr.mono (by omega)) rfl (SAr.cons (SE.var 1 rfl (by walk_at "vis")) (SAr.cons (SE.var 2 rfl (by walk_at "vis")) (SAr.cons (SE.var 5 rfl (by walk_at "vis")) (SAr.cons (SE.var 6 rfl (by walk_at "vis")) (SAr.cons (SE.sub (SE.var 7 rfl (by walk_at "vis")) SE.int) SAr.nil)))))) (SAr.cons (SE.var 9 rfl (by walk_at "vis")) SAr.nil))))
  (SS.cons (S1.set 11 hnd rfl (by walk_at "loc") (by walk_at "loc") (SE.lstM (SAr.cons (SE.call (ok_differences_guarded T hB) hg (hr.mono (by omega)) rfl (SAr.cons (SE.var 1 rfl (by walk_at "vis")) (SAr.cons (SE.var 2 rfl (by walk_at "vis")) (SAr.cons (SE.var 5 rfl (by walk_at "vis")) (SAr.cons (SE.var 6 rfl (by walk_at "vis")) (SAr.cons (SE.var 7 rfl (by walk_at "vis")) SAr.nil)))))) SAr.nil)))
  (SS.cons (S1.expr (SE.append (SE.var 11 rfl (by walk_at "vis")) (SE.callW (okW_differences_guarded_number_second_first_one_many T hB) hg (hr.mono (by omega)) rfl rfl (SK.cons (SE.var 7 rfl (by walk_at "vis")) (SK.cons (SE.var 6 rfl (by walk_at "vis")) (SK.cons (SE.var 5 rfl (by walk_at "vis")) (SK.cons (SE.var 2 rfl (by walk_at "vis")) (SK.cons (SE.var 1 rfl (by walk_at "vis")) SK.nil))))))))
  (SS.cons (S1.expr (SE.append (SE.var 11 rfl (by walk_at "vis")) (SE.call (ok_differences_unlike T hB) hg (hr.mono (by omega)) rfl (SAr.cons (SE.var 1 rfl (by walk_at "vis")) (SAr.cons (SE.var 2 rfl (by walk_at "vis")) (SAr.cons (SE.var 5 rfl (by walk_at "vis")) (SAr.cons (SE.var 6 rfl (by walk_at "vis")) (SAr.cons (SE.var 7 rfl (by walk_at "vis")) SAr.nil))))))))
  (SS.cons (S1.expr (SE.append (SE.var 11 rfl (by walk_at "vis")) (SE.callW (okW_differences_unlike_number_second_first_one_many T hB) hg (hr.mono (by omega)) rfl rfl (SK.cons (SE.var 7 rfl (by walk_at "vis")) (SK.cons (SE.var 6 rfl (by walk_at "vis")) (SK.cons (SE.var 5 rfl (by walk_at "vis")) (SK.cons (SE.var 2 rfl (by walk_at "vis")) (SK.cons (SE.var 1 rfl (by walk_at "vis")) SK.nil))))))))
  (SS.frz 11 (SS.cons (S1.ifS (ST.neR (SE.repr hg hr hB rfl T.n_repr (SAr.cons (SE.var 11 rfl (by walk_at "vis")) SAr.nil)) (SE.repr hg hr hB rfl T.n_repr (SAr.cons (SE.lst (SAr.cons (SE.var 8 rfl (by walk_at "vis")) (SAr.cons (SE.var 8 rfl (by walk_at "vis")) (SAr.cons (SE.var 10 rfl (by walk_at "vis")) (SAr.cons (SE.var 10 rfl (by walk_at "vis")) SAr.nil))))) SAr.nil)))
  (SS.cons (S1.ret SE.bl)
  SS.nil)
  SS.nil)
  (SS.cons (S1.for_ PassesOwn.never rfl (SI.seq (SE.var 4 rfl (by walk_at "vis"))) (SG.name 12 hnd rfl (by walk_at "loc") (by walk_at "loc"))
  (SS.cons (S1.par 13 14 rfl hnd rfl rfl (by decide) rfl rfl (SAr.cons (SE.add (SE.tup (SAr.cons SE.int SAr.nil)) (SE.var 12 rfl (by walk_at "vis"))) (SAr.cons (SE.call (ok_l_holds T hB) hg (hr.mono (by omega)) rfl (SAr.cons (SE.var 2 rfl (by walk_at "vis")) (SAr.cons (SE.var 12 rfl (by walk_at "vis")) SAr.nil))) SAr.nil)))
  (SS.cons (S1.set 11 hnd rfl (by walk_at "loc") (by walk_at "loc") (SE.tup (SAr.cons (SE.call (ok_differences_hold T hB) hg (hr.mono (by omega)) rfl (SAr.cons (SE.var 1 rfl (by walk_at "vis")) (SAr.cons (SE.var 8 rfl (by walk_at "vis")) (SAr.cons (SE.var 12 rfl (by walk_at "vis")) SAr.nil)))) (SAr.cons (SE.call (ok_differences_hold T hB) hg (hr.mono (by omega)) rfl (SAr.cons (SE.var 1 rfl (by walk_at "vis")) (SAr.cons (SE.var 10 rfl (by walk_at "vis")) (SAr.cons (SE.var 12 rfl (by walk_at "vis")) SAr.nil)))) SAr.nil))))
  (SS.cons (S1.ifS (ST.w (SW.or (ST.neR (SE.repr hg hr hB rfl T.n_repr (SAr.cons (SE.ix (SE.var 11 rfl (by walk_at "vis")) SE.int) SAr.nil)) (SE.repr hg hr hB rfl T.n_repr (SAr.cons (SE.and (SE.var 14 rfl (by walk_at "vis")) (SE.one (SE.cmp rfl hr.units (SE.sub (SE.ix (SE.var 13 rfl (by walk_at "vis")) (SE.var 5 rfl (by walk_at "vis"))) (SE.ix (SE.var 13 rfl (by walk_at "vis")) (SE.var 6 rfl (by walk_at "vis")))) (SE.var 7 rfl (by walk_at "vis"))))) SAr.nil))) (SW.or1 (ST.not (ST.val (SE.isi rfl T.n_isinstance rfl T.n_bool (by decide) (by decide +kernel) (by decide) (by decide) (SE.ix (SE.var 11 rfl (by walk_at "vis")) SE.int)))))))
  (SS.cons (S1.ret SE.bl)
  SS.nil)
  SS.nil)
  (SS.cons (S1.ifS (ST.w (SW.and (ST.val (SE.var 14 rfl (by walk_at "vis"))) (SW.and (ST.cmp rfl hr.units (SE.sub (SE.ix (SE.var 13 rfl (by walk_at "vis")) (SE.var 5 rfl (by walk_at "vis"))) (SE.ix (SE.var 13 rfl (by walk_at "vis")) (SE.var 6 rfl (by walk_at "vis")))) (SE.var 7 rfl (by walk_at "vis"))) (SW.and1 (ST.not (ST.val (SE.ix (SE.var 11 rfl (by walk_at "vis")) SE.int)))))))
  (SS.cons (S1.ret SE.bl)
  SS.nil)
  SS.nil)
  SS.nil)))))
  (SS.cons (S1.ret SE.bl)
  SS.nil)))))))))))))
theorem ok_l_deed_right (T : Fx K mg) (hB : ∃ mm, base.Ns sysModules mm) : Fn P w K mg base "_law_deed_right" 7 (CtrOf V_l_deed_right) := by
  obtain ⟨fd, F⟩ := T.d_l_deed_right
  exact ⟨_, _, _, okG_l_deed_right T hB F, T.g_l_deed_right, F.kp, F.bindsN fun _ _ _ _ _ _ us hl => match us, hl with | [_, _, _, _, _], _ => rfl⟩
theorem okG_l_right (T : Fx K mg) (hB : ∃ mm, base.Ns sysModules mm) {fd : FuncData} (F : FunD K dl_right.name dl_right.qual dl_right.params dl_right.body dl_right.scope (dl_right.dvs K) (dl_right.kws K) (He.fAd K dl_right.at_) fd) : FnG P w K mg base 8 (He.fAd K dl_right.at_) fd ["_law_spring_here"] (SpD K (CtrOf V_l_right)) :=
  FnG.den (k := 7) F scl_right rfl fun cd A outer s H hg hr hnd =>
  (SS.cons (S1.set 1 hnd rfl (by walk_at "loc") (by walk_at "loc") (SE.call (ok_l_size T hB) hg (hr.mono (by omega)) rfl (SAr.cons (SE.var 0 rfl (by walk_at "vis")) SAr.nil)))
  (SS.cons (S1.set 2 hnd rfl (by walk_at "loc") (by walk_at "loc") (SE.call (ok_l_spots T hB) hg (hr.mono (by omega)) rfl (SAr.cons (SE.var 0 rfl (by walk_at "vis")) (SAr.cons (SE.var 1 rfl (by walk_at "vis")) SAr.nil))))
  (SS.cons (S1.set 3 hnd rfl (by walk_at "loc") (by walk_at "loc") (SE.call (ok_l_about T hB) hg (hr.mono (by omega)) rfl (SAr.cons (SE.var 0 rfl (by walk_at "vis")) (SAr.cons (SE.var 1 rfl (by walk_at "vis")) (SAr.cons (SE.var 2 rfl (by walk_at "vis")) SAr.nil)))))
  (SS.cons (S1.set 4 hnd rfl (by walk_at "loc") (by walk_at "loc") (SE.call (ok_l_closing T hB) hg (hr.mono (by omega)) rfl (SAr.cons (SE.var 1 rfl (by walk_at "vis")) (SAr.cons (SE.var 3 rfl (by walk_at "vis")) SAr.nil))))
  (SS.cons (S1.set 5 hnd rfl (by walk_at "loc") (by walk_at "loc") (SE.lst (SAr.cons (SE.var 2 rfl (by walk_at "vis")) (SAr.cons (SE.call (ok_l_near_spots T hB) hg (hr.mono (by omega)) rfl (SAr.cons (SE.var 0 rfl (by walk_at "vis")) (SAr.cons (SE.var 2 rfl (by walk_at "vis")) SAr.nil))) (SAr.cons (SE.call (ok_l_spots T hB) hg (hr.mono (by omega)) rfl (SAr.cons (SE.var 0 rfl (by walk_at "vis")) (SAr.cons (SE.var 1 rfl (by walk_at "vis")) SAr.nil))) SAr.nil)))))
  (SS.cons (S1.for_ PassesOwn.never rfl (SI.range1 rfl T.n_range (SAr.cons SE.int SAr.nil)) (SG.name 6 hnd rfl (by walk_at "loc") (by walk_at "loc"))
  (SS.cons (S1.ifS (ST.not (ST.val (SE.call (ok_l_deed_right T hB) hg (hr.mono (by omega)) rfl (SAr.cons (SE.var 0 rfl (by walk_at "vis")) (SAr.cons (SE.var 1 rfl (by walk_at "vis")) (SAr.cons (SE.var 3 rfl (by walk_at "vis")) (SAr.cons (SE.var 4 rfl (by walk_at "vis")) (SAr.cons (SE.var 5 rfl (by walk_at "vis")) SAr.nil))))))))
  (SS.cons (S1.ret SE.bl)
  SS.nil)
  SS.nil)
  SS.nil))
  (SS.cons (S1.ret SE.bl)
  SS.nil)))))))
theorem ok_l_right (T : Fx K mg) (hB : ∃ mm, base.Ns sysModules mm) : Fn P w K mg base "_law_right" 8 (CtrOf V_l_right) := by
  obtain ⟨fd, F⟩ := T.d_l_right
  exact ⟨_, _, _, okG_l_right T hB F, T.g_l_right, F.kp, F.bindsN fun _ _ _ _ _ _ us hl => match us, hl with | [_], _ => rfl⟩
theorem okG_l_law (T : Fx K mg) (hB : ∃ mm, base.Ns sysModules mm) {fd : FuncData} (F : FunD K dl_law.name dl_law.qual dl_law.params dl_law.body dl_law.scope (dl_law.dvs K) (dl_law.kws K) (He.fAd K dl_law.at_) fd) : FnG P w K mg base 9 (He.fAd K dl_law.at_) fd ["_law_script"] (SpD K (CtrOf V_l_law)) :=
  FnG.den (k := 8) F scl_law rfl fun cd A outer s H hg hr hnd =>
  (SS.cons (S1.ret (SE.all rfl rfl T.n_all (SAr.cons (SE.lc 1 rfl hnd rfl (blkOk_by (by kernel_rfl)) (fun _ _ _ _ _ => ⟨by walk_at "loc", by walk_at "loc"⟩) (SI.range1 rfl T.n_range (SAr.cons (SE.max2 rfl rfl T.n_max (SAr.cons SE.int (SAr.cons (SE.min2 rfl rfl T.n_min (SAr.cons (SE.len rfl T.n_len (SAr.cons (SE.var 0 rfl (by walk_at "vis")) SAr.nil)) (SAr.cons SE.int SAr.nil))) SAr.nil))) SAr.nil)) (fun _ _ _ _ _ => (SE.cut (SE.call (ok_l_right T hB) hg (hr.mono (by omega)) rfl (SAr.cons (SE.call (ok_l_spring T hB) hg (hr.mono (by omega)) rfl (SAr.cons (SE.var 0 rfl (by walk_at "vis")) (SAr.cons (SE.var 1 rfl (by walk_at "vis")) SAr.nil))) SAr.nil))))) SAr.nil)))
  SS.nil)
end
end Lw

namespace Df
/-! bounds: a whole number or none, none being above all -/
abbrev B := Option Int
def addB : B → B → B
  | some a, some b => some (a + b)
  | _, _ => none
def minB : B → B → B
  | some a, some b => some (min a b)
  | some a, none => some a
  | none, b => b
def leB : B → B → Prop
  | _, none => True
  | some a, some b => a ≤ b
  | none, some _ => False
/-- a number up to a bound -/
def upTo (x : Int) : B → Prop
  | none => True
  | some b => x ≤ b
theorem leB.refl (a : B) : leB a a := by cases a <;> simp [leB]
theorem leB.trans {a b c : B} (h : leB a b) (k : leB b c) : leB a c := by
  cases a <;> cases b <;> cases c <;> simp_all [leB]
  omega
theorem leB.anti {a b : B} (h : leB a b) (k : leB b a) : a = b := by
  cases a <;> cases b <;> simp_all [leB]
  omega
theorem minB_l (a b : B) : leB (minB a b) a := by
  cases a <;> cases b <;> simp [leB, minB]
  omega
theorem minB_r (a b : B) : leB (minB a b) b := by
  cases a <;> cases b <;> simp [leB, minB]
  omega
theorem le_minB {a b c : B} (h : leB c a) (k : leB c b) : leB c (minB a b) := by
  cases a <;> cases b <;> cases c <;> simp_all [leB, minB]
  omega
theorem addB_mono {a b c d : B} (h : leB a b) (k : leB c d) : leB (addB a c) (addB b d) := by
  cases a <;> cases b <;> cases c <;> cases d <;> simp_all [leB, addB]
  omega
theorem addB_assoc (a b c : B) : addB (addB a b) c = addB a (addB b c) := by
  cases a <;> cases b <;> cases c <;> simp [addB]
  omega
theorem addB_comm (a b : B) : addB a b = addB b a := by
  cases a <;> cases b <;> simp [addB]
  omega
theorem addB_zero (a : B) : addB a (some 0) = a := by cases a <;> simp [addB]
theorem zero_addB (a : B) : addB (some 0) a = a := by cases a <;> simp [addB]
theorem upTo_le {x : Int} {a b : B} (h : upTo x a) (k : leB a b) : upTo x b := by
  cases a <;> cases b <;> simp_all [upTo, leB]
  omega
theorem upTo_add {x y : Int} {a b : B} (h : upTo x a) (k : upTo y b) : upTo (x + y) (addB a b) := by
  cases a <;> cases b <;> simp_all [upTo, addB]
  omega
theorem upTo_min {x : Int} {a b : B} : upTo x (minB a b) ↔ upTo x a ∧ upTo x b := by
  cases a <;> cases b <;> simp [upTo, minB]
  omega
/-! matrices -/
abbrev Mt := Nat → Nat → B
def sat (n : Nat) (D : Mt) (v : Nat → Int) : Prop := ∀ i j, i < n → j < n → upTo (v i - v j) (D i j)
def step (k : Nat) (D : Mt) : Mt := fun i j => minB (D i j) (addB (D i k) (D k j))
/-- no number on the diagonal is below 0 -/
def okD (n : Nat) (D : Mt) : Prop := ∀ i, i < n → leB (some 0) (D i i)
/-- closed, as [D3] tells it by triangles -/
structure Cl (n : Nat) (C : Mt) : Prop where
  dg : ∀ i, i < n → C i i = some 0
  tr : ∀ i j k, i < n → j < n → k < n → leB (C i j) (addB (C i k) (C k j))
theorem sat_step {n k : Nat} {D : Mt} {v : Nat → Int} (hk : k < n) : sat n (step k D) v ↔ sat n D v := by
  constructor
  · intro h i j hi hj
    exact (upTo_min.mp (h i j hi hj)).1
  · intro h i j hi hj
    refine upTo_min.mpr ⟨h i j hi hj, ?_⟩
    have := upTo_add (h i k hi hk) (h k j hk hj)
    rwa [show v i - v k + (v k - v j) = v i - v j by omega] at this
theorem sat_ok {n : Nat} {D : Mt} {v : Nat → Int} (h : sat n D v) : okD n D := by
  intro i hi
  have := h i i hi hi
  cases e : D i i <;> simp_all [upTo, leB]
theorem okD_step {n k : Nat} {D : Mt} (h : okD n (step k D)) : okD n D := fun i hi => leB.trans (h i hi) (minB_l _ _)
/-- the triangles by the first k -/
def tri (n k : Nat) (D : Mt) : Prop := ∀ m i j, m < k → i < n → j < n → leB (D i j) (addB (D i m) (D m j))
def dg0 (n : Nat) (D : Mt) : Prop := ∀ i, i < n → D i i = some 0
def dgle (n : Nat) (D : Mt) : Prop := ∀ i, i < n → leB (D i i) (some 0)
theorem dg0_of {n : Nat} {D : Mt} (h : dgle n D) (k : okD n D) : dg0 n D := fun i hi => leB.anti (h i hi) (k i hi)
theorem dgle_step {n k : Nat} {D : Mt} (h : dgle n D) : dgle n (step k D) := fun i hi => leB.trans (minB_l _ _) (h i hi)
theorem tri_step {n k : Nat} {D : Mt} (hk : k < n) (d0 : dg0 n D) (ok : okD n (step k D)) (h : tri n k D) : tri n (k + 1) (step k D) := by
  have ck : ∀ i, step k D i k = D i k := fun i => by
    unfold step
    rw [d0 k hk, addB_zero]
    cases D i k <;> simp [minB]
  have rk : ∀ j, step k D k j = D k j := fun j => by
    unfold step
    rw [d0 k hk, zero_addB]
    cases D k j <;> simp [minB]
  intro m i j hm hi hj
  by_cases e : m = k
  · subst e
    rw [ck, rk]
    exact minB_r _ _
  · have hm' : m < k := by omega
    have hmn : m < n := by omega
    -- each of the two is the old one or goes by k
    have one : ∀ p q : Nat, step k D p q = D p q ∨ step k D p q = addB (D p k) (D k q) := fun p q => by
      unfold step
      cases D p q with
      | none => right; rfl
      | some a =>
        cases addB (D p k) (D k q) with
        | none => left; rfl
        | some b =>
          by_cases c : a ≤ b
          · left; simp [minB]; omega
          · right; simp [minB]; omega
    have old : leB (step k D i j) (D i j) := minB_l _ _
    have byk : leB (step k D i j) (addB (D i k) (D k j)) := minB_r _ _
    rcases one i m with e1 | e1 <;> rcases one m j with e2 | e2 <;> rw [e1, e2]
    · exact leB.trans old (h m i j hm' hi hj)
    · rw [← addB_assoc]
      exact leB.trans byk (addB_mono (h m i k hm' hi hk) (leB.refl _))
    · rw [addB_assoc]
      exact leB.trans byk (addB_mono (leB.refl _) (h m k j hm' hk hj))
    · have z := h m k k hm' hk hk
      rw [d0 k hk] at z
      refine leB.trans byk ?_
      have e3 : addB (addB (D i k) (D k m)) (addB (D m k) (D k j)) = addB (D i k) (addB (addB (D k m) (D m k)) (D k j)) := by
        rw [addB_assoc, addB_assoc]
      rw [e3]
      refine addB_mono (leB.refl _) ?_
      have := addB_mono z (leB.refl (D k j))
      rwa [zero_addB] at this
/-- the steps, k of them; none as soon as a number on the diagonal is below 0 -/
inductive Fw (n : Nat) (D : Mt) : Nat → Option Mt → Prop
  | zero : Fw n D 0 (some D)
  | go {k : Nat} {M : Mt} : Fw n D k (some M) → okD n (step k M) → Fw n D (k + 1) (some (step k M))
  | bad {k : Nat} {M : Mt} : Fw n D k (some M) → ¬ okD n (step k M) → Fw n D (k + 1) none
  | none {k : Nat} : Fw n D k Option.none → Fw n D (k + 1) Option.none
theorem Fw.sat_iff {n : Nat} {D : Mt} : ∀ {k : Nat} {o : Option Mt}, k ≤ n → Fw n D k o → (∀ M, o = some M → ∀ v, sat n M v ↔ sat n D v) ∧ (o = Option.none → ∀ v, ¬ sat n D v)
  | 0, _, _, .zero => ⟨fun M e v => (by cases e; exact Iff.rfl), fun e => (by cases e)⟩
  | k + 1, _, hk, .go f ok => by
    obtain ⟨h1, _⟩ := f.sat_iff (by omega)
    refine ⟨fun M e v => ?_, fun e => (by cases e)⟩
    cases e
    rw [sat_step (by omega), h1 _ rfl v]
  | k + 1, _, hk, .bad f nok => by
    obtain ⟨h1, _⟩ := f.sat_iff (by omega)
    refine ⟨fun M e => (by cases e), fun _ v hv => ?_⟩
    rw [← h1 _ rfl v, ← sat_step (k := k) (by omega)] at hv
    exact nok (sat_ok hv)
  | k + 1, _, hk, .none f => ⟨fun M e => (by cases e), fun _ => (f.sat_iff (by omega)).2 rfl⟩
theorem Fw.tri {n : Nat} {D : Mt} (d0 : dgle n D) : ∀ {k : Nat} {M : Mt}, k ≤ n → Fw n D k (some M) → dgle n M ∧ (0 < k → okD n M) ∧ Df.tri n k M
  | 0, _, _, .zero => ⟨d0, fun h => by omega, fun m i j h => by omega⟩
  | k + 1, _, hk, .go f ok => by
    obtain ⟨h1, _, h3⟩ := f.tri d0 (by omega)
    exact ⟨dgle_step h1, fun _ => ok, tri_step (by omega) (dg0_of h1 (okD_step ok)) ok h3⟩
theorem Fw.cl {n : Nat} {D C : Mt} (hn : 0 < n) (d0 : dgle n D) (f : Fw n D n (some C)) : Cl n C := by
  obtain ⟨h1, h2, h3⟩ := f.tri d0 (Nat.le_refl _)
  exact ⟨dg0_of h1 (h2 hn), fun i j k hi hj hk => h3 k i j hk hi hj⟩
/-! values are found one by one -/
/-- what a further one has to keep: a list of lower ends, a list of upper ends -/
theorem between {los his : List Int} (h : ∀ l ∈ los, ∀ u ∈ his, l ≤ u) : ∃ x : Int, (∀ l ∈ los, l ≤ x) ∧ ∀ u ∈ his, x ≤ u := by
  induction los with
  | nil =>
    induction his with
    | nil => exact ⟨0, by simp, by simp⟩
    | cons u us ih =>
      obtain ⟨x, _, h2⟩ := ih (by simp)
      exact ⟨min x u, by simp, fun z hz => by
        rcases List.mem_cons.mp hz with rfl | hz
        · omega
        · have := h2 z hz; omega⟩
  | cons l ls ih =>
    obtain ⟨x, h1, h2⟩ := ih fun a ha u hu => h a (List.mem_cons_of_mem _ ha) u hu
    refine ⟨max x l, fun z hz => ?_, fun u hu => ?_⟩
    · rcases List.mem_cons.mp hz with rfl | hz
      · omega
      · have := h1 z hz; omega
    · have a := h2 u hu
      have b := h l (by simp) u hu
      omega
/-- values on some of the indexes -/
def satOn (C : Mt) (S : List Nat) (v : Nat → Int) : Prop := ∀ i ∈ S, ∀ j ∈ S, upTo (v i - v j) (C i j)
def upd (v : Nat → Int) (t : Nat) (x : Int) : Nat → Int := fun i => if i = t then x else v i
theorem satOn_upd {C : Mt} {S : List Nat} {v : Nat → Int} {t : Nat} {x : Int} (nt : t ∉ S) (d0 : C t t = some 0) (h : satOn C S v) (h1 : ∀ i ∈ S, upTo (v i - x) (C i t)) (h2 : ∀ i ∈ S, upTo (x - v i) (C t i)) : satOn C (t :: S) (upd v t x) := by
  have ne : ∀ i ∈ S, i ≠ t := fun i hi e => nt (e ▸ hi)
  intro i hi j hj
  unfold upd
  rcases List.mem_cons.mp hi with ei | hi2 <;> rcases List.mem_cons.mp hj with ej | hj2
  · rw [ei, ej, d0]; simp [upTo]
  · rw [ei, if_pos rfl, if_neg (ne j hj2)]; exact h2 j hj2
  · rw [ej, if_pos rfl, if_neg (ne i hi2)]; exact h1 i hi2
  · rw [if_neg (ne i hi2), if_neg (ne j hj2)]; exact h i hi2 j hj2
theorem one_more {n : Nat} {C : Mt} (cl : Cl n C) {S : List Nat} {v : Nat → Int} {t : Nat} (ht : t < n) (hS : ∀ i ∈ S, i < n) (h : satOn C S v) :
    ∃ x : Int, (∀ i ∈ S, upTo (v i - x) (C i t)) ∧ ∀ i ∈ S, upTo (x - v i) (C t i) := by
  obtain ⟨x, h1, h2⟩ := between (los := S.filterMap fun i => (C i t).map fun b => v i - b) (his := S.filterMap fun i => (C t i).map fun b => v i + b) (by
    intro l hl u hu
    obtain ⟨i, hi, e1⟩ := List.mem_filterMap.mp hl
    obtain ⟨j, hj, e2⟩ := List.mem_filterMap.mp hu
    cases e3 : C i t with
    | none => rw [e3] at e1; cases e1
    | some a =>
      cases e4 : C t j with
      | none => rw [e4] at e2; cases e2
      | some b =>
        rw [e3] at e1
        rw [e4] at e2
        simp at e1 e2
        have z := upTo_le (h i hi j hj) (cl.tr i j t (hS i hi) (hS j hj) ht)
        rw [e3, e4] at z
        have z : v i - v j ≤ a + b := z
        omega)
  refine ⟨x, fun i hi => ?_, fun i hi => ?_⟩
  · cases e : C i t with
    | none => trivial
    | some a =>
      have := h1 (v i - a) (List.mem_filterMap.mpr ⟨i, hi, by rw [e]; rfl⟩)
      show v i - x ≤ a
      omega
  · cases e : C t i with
    | none => trivial
    | some a =>
      have := h2 (v i + a) (List.mem_filterMap.mpr ⟨i, hi, by rw [e]; rfl⟩)
      show x - v i ≤ a
      omega
theorem extend {n : Nat} {C : Mt} (cl : Cl n C) : ∀ (T S : List Nat) (v : Nat → Int), (∀ i ∈ S, i < n) → (∀ i ∈ T, i < n) → satOn C S v → ∃ w : Nat → Int, (∀ i ∈ S, w i = v i) ∧ satOn C (T ++ S) w
  | [], S, v, _, _, h => ⟨v, fun _ _ => rfl, h⟩
  | t :: T, S, v, hS, hT, h => by
    obtain ⟨w, h1, h2⟩ := extend cl T S v hS (fun i hi => hT i (List.mem_cons_of_mem _ hi)) h
    by_cases c : t ∈ T ++ S
    · refine ⟨w, h1, ?_⟩
      intro i hi j hj
      have hi' : i ∈ T ++ S := by
        rcases List.mem_cons.mp hi with rfl | hi
        · exact c
        · exact hi
      have hj' : j ∈ T ++ S := by
        rcases List.mem_cons.mp hj with rfl | hj
        · exact c
        · exact hj
      exact h2 i hi' j hj'
    · have ht : t < n := hT t (by simp)
      have hTS : ∀ i ∈ T ++ S, i < n := fun i hi => by
        rcases List.mem_append.mp hi with hi | hi
        · exact hT i (List.mem_cons_of_mem _ hi)
        · exact hS i hi
      obtain ⟨x, k1, k2⟩ := one_more cl ht hTS h2
      refine ⟨upd w t x, fun i hi => ?_, satOn_upd c (cl.dg t ht) h2 k1 k2⟩
      have : i ≠ t := fun e => c (List.mem_append.mpr (.inr (e ▸ hi)))
      unfold upd
      rw [if_neg this, h1 i hi]
/-- any number between the ends is reached -/
theorem reach {n : Nat} {C : Mt} (cl : Cl n C) {i j : Nat} (hi : i < n) (hj : j < n) {b : Int} (h1 : upTo b (C i j)) (h2 : upTo (-b) (C j i)) (hn : 0 < n) : ∃ v : Nat → Int, v 0 = 0 ∧ v i - v j = b ∧ sat n C v := by
  obtain ⟨v0, s0, e0⟩ : ∃ v0 : Nat → Int, satOn C [i, j] v0 ∧ v0 i - v0 j = b := by
    by_cases e : i = j
    · subst e
      rw [cl.dg i hi] at h1 h2
      have h1 : b ≤ 0 := h1
      have h2 : -b ≤ 0 := h2
      refine ⟨fun _ => 0, fun p hp q hq => ?_, by show (0 : Int) - 0 = b; omega⟩
      simp at hp hq
      subst hp hq
      rw [cl.dg _ hi]; simp [upTo]
    · refine ⟨fun t => if t = i then b else 0, fun p hp q hq => ?_, by simp [Ne.symm e]⟩
      simp at hp hq
      rcases hp with rfl | rfl <;> rcases hq with rfl | rfl
      · rw [cl.dg _ hi]; simp [upTo]
      · simp [Ne.symm e]; exact h1
      · simp [Ne.symm e]; exact h2
      · rw [cl.dg _ hj]; simp [upTo]
  obtain ⟨w, h3, h4⟩ := extend cl (List.range n) [i, j] v0 (by simp; exact ⟨hi, hj⟩) (fun t ht => List.mem_range.mp ht) s0
  refine ⟨fun t => w t - w 0, by simp, ?_, ?_⟩
  · show w i - w 0 - (w j - w 0) = b
    rw [h3 i (by simp), h3 j (by simp)]
    omega
  · intro p q hp hq
    have := h4 p (List.mem_append.mpr (.inl (List.mem_range.mpr hp))) q (List.mem_append.mpr (.inl (List.mem_range.mpr hq)))
    rwa [show w p - w 0 - (w q - w 0) = w p - w q by omega]
/-- closed ones with the same values are the same -/
theorem cl_le {n : Nat} {C E : Mt} (c1 : Cl n C) (hn : 0 < n) (h : ∀ v : Nat → Int, v 0 = 0 → sat n C v → sat n E v) {i j : Nat} (hi : i < n) (hj : j < n) : leB (C i j) (E i j) := by
  have nn := c1.tr i i j hi hi hj
  rw [c1.dg i hi] at nn
  cases e2 : E i j with
  | none => trivial
  | some b =>
    cases e : C i j with
    | some a =>
      obtain ⟨v, v0, e3, s⟩ := reach c1 hi hj (b := a) (by rw [e]; exact Int.le_refl a) (by
        rw [e] at nn
        cases e4 : C j i with
        | none => trivial
        | some d =>
          rw [e4] at nn
          have nn : 0 ≤ a + d := nn
          show -a ≤ d
          omega) hn
      have := h v v0 s i j hi hj
      rw [e2, e3] at this
      exact this
    | none =>
      exfalso
      -- a number that is great enough
      obtain ⟨a, ha, hb⟩ : ∃ a : Int, b < a ∧ upTo (-a) (C j i) := by
        cases e4 : C j i with
        | none => exact ⟨b + 1, by omega, trivial⟩
        | some d => exact ⟨max (b + 1) (-d), by omega, by show -max (b + 1) (-d) ≤ d; omega⟩
      obtain ⟨v, v0, e3, s⟩ := reach c1 hi hj (b := a) (by rw [e]; trivial) hb hn
      have := h v v0 s i j hi hj
      rw [e2, e3] at this
      have this : a ≤ b := this
      omega
theorem cl_ext {n : Nat} {C E : Mt} (c1 : Cl n C) (c2 : Cl n E) (hn : 0 < n) (h : ∀ v : Nat → Int, v 0 = 0 → (sat n C v ↔ sat n E v)) {i j : Nat} (hi : i < n) (hj : j < n) : C i j = E i j :=
  leB.anti (cl_le c1 hn (fun v v0 s => (h v v0).mp s) hi hj) (cl_le c2 hn (fun v v0 s => (h v v0).mpr s) hi hj)
end Df

namespace Lw
open PySem PySem.Spec L2 Eg
local macro_rules | `(tactic| walk_at "ex") => `(tactic| simp [eFn, startD, esCons, sRet, esIf, sNil, sSet, sAsg, sExp, sPar2, sPar3, dVar, dC, dOp2, dCall, dBlt, dTup, dLst, dLstM, eIf, eAnd, eOr, eNot, eNeg, dIsi, eChain, aCons, aNil, gTu, gAnd, gNm, gSb, gEnd, dSl, runP, sFor, forL_nil, forL_cons, iSeq, iRange1, iRange2, oDiv_ok, oMod_ok, oPow_ok, oSub, oLt, oLe, oGt, oGe, oEq, oNe, oIs, oIsnt, xIx_t, xIx_l, xIx_m, xIx_s, oLen, oInt, oAbs, oMM, oTuple, oDivmod, oInN, flatL, DV.flat, dCallW, permI, oAll, blsD, oMax1, oMin1, maxI, minI, intsD, inV1, inV2, eqV, DV.isN, eqvD, eqvL, shD, shL, xItems_t, xItems_l, xItems_m, xLen_t, xLen_l, xLen_m, xLen_s, atI, ixN, DV.ty, kitT, sl_eq, *])
variable {μ : List MO}
/-! ### draws -/
def Sr (k : Nat) (μ0 : List MO) (n : Nat) (μ : List MO) : Prop := k < μ0.length ∧ ∃ a b c : Int, μ = μ0.set k (.lst [.int a, .int b, .int c]) ∧ 0 ≤ a ∧ 0 ≤ b ∧ b < 2147483477 ∧ 0 ≤ c ∧ c ≤ n
theorem Sr.mono {k : Nat} {μ0 : List MO} {n m : Nat} (w : Sr k μ0 n μ) (h : n ≤ m) : Sr k μ0 m μ := by
  obtain ⟨hk, a, b, c, e, h1, h2, h3, h4, h5⟩ := w
  exact ⟨hk, a, b, c, e, h1, h2, h3, h4, by omega⟩
theorem Sr.len {k : Nat} {μ0 : List MO} {n : Nat} (w : Sr k μ0 n μ) : μ.length = μ0.length := by
  obtain ⟨hk, a, b, c, rfl, _⟩ := w
  simp
theorem draw_ok {k : Nat} {μ0 : List MO} {n : Nat} (w : Sr k μ0 n μ) (hn : n < 1152921504606846976) {m : Int} (h0 : 0 < m) (h1 : m < 4000000000000000000) :
    ∃ r μ', V_l_draw [.mu k, .int m] μ = some (.int r, μ') ∧ 0 ≤ r ∧ r < m ∧ Sr k μ0 (n + 1) μ' := by
  obtain ⟨hk, a, b, c, rfl, ha, hb, hb2, hc, hc2⟩ := w
  have p1 : ∀ μ : List MO, oMul (.int 70001) (.int (c + 1)) μ = some (.int (70001 * (c + 1)), μ) := fun μ => oMul_ok (by omega) (by omega) (by omega) (by omega)
  have p2 : ∀ μ : List MO, oMul (.int 17) (.int (c + 1)) μ = some (.int (17 * (c + 1)), μ) := fun μ => oMul_ok (by omega) (by omega) (by omega) (by omega)
  have p3 : ∀ (x : Int) (μ : List MO), oMul (.int (x % 2147483477)) (.int (x % 2147483477 % 4999 + 50021)) μ = some (.int (x % 2147483477 * (x % 2147483477 % 4999 + 50021)), μ) := fun x μ => oMul_ok (by omega) (by omega) (by omega) (by omega)
  by_cases h : 0 < a
  · refine ⟨a % m, μ0.set k (.lst [.int (a / m), .int b, .int c]), ?_, Int.emod_nonneg _ (by omega), Int.emod_lt_of_pos _ h0, hk, _, _, _, rfl, Int.ediv_nonneg ha (by omega), hb, hb2, hc, by omega⟩
    unfold V_l_draw D_l_draw
    walk_at "ex"
  · have e : a = 0 := by omega
    subst e
    refine ⟨_, _, by
      unfold V_l_draw D_l_draw
      walk_at "ex"
      exact ⟨rfl, rfl⟩, Int.emod_nonneg _ (by omega), Int.emod_lt_of_pos _ h0, hk, _, _, _, rfl, by omega, Int.emod_nonneg _ (by omega), Int.emod_lt_of_pos _ (by omega), by omega, by omega⟩
theorem pick_ok {k : Nat} {μ0 : List MO} {n : Nat} (w : Sr k μ0 n μ) (hn : n < 1152921504606846976) {ds : List DV} (h0 : 0 < ds.length) (h1 : ds.length < 1073741824) :
    ∃ d μ', V_l_pick [.mu k, .tup ds] μ = some (d, μ') ∧ d ∈ ds ∧ Sr k μ0 (n + 1) μ' := by
  obtain ⟨r, μ1, e1, r0, r1, w1⟩ := draw_ok w hn (m := ds.length) (by omega) (by omega)
  have hr : r.toNat < ds.length := by omega
  refine ⟨ds[r.toNat], μ1, ?_, List.getElem_mem hr, w1⟩
  have hl : μ1.length = μ.length := by rw [w1.len, w.len]
  unfold V_l_pick D_l_pick
  walk_at "ex"
  rw [cutd_len hl]
/-! ### data -/
def oi : Option Int → DV
  | none => .non
  | some i => .int i
/-- a row, the rows, all -/
def eR (r : List (Option Int)) : DV := .tup (r.map oi)
def eRk (q : Bool × List (Option Int)) : DV := if q.1 = true then .lst (q.2.map oi) else .tup (q.2.map oi)
abbrev Gp := Option (List (List (Option Int)))
def eG : Gp → DV
  | none => .non
  | some rs => .tup (rs.map eR)
def wG (n : Nat) : Gp → Prop
  | none => True
  | some rs => rs.length = n + 1 ∧ ∀ (i : Nat) (r : List (Option Int)), rs[i]? = some r → r.length = n + 1 ∧ r[i]? = some (some 0)
@[simp] theorem is_whole_i (i : Int) : V_is_whole [.int i] μ = some (.bl true, μ) := by
  unfold V_is_whole D_is_whole; walk_at "ex"
@[simp] theorem l_is_whole_i (i : Int) : V_l_is_whole [.int i] μ = some (.bl true, μ) := by
  unfold V_l_is_whole D_l_is_whole; walk_at "ex"
theorem bel_oi (n : Nat) (o : Option Int) : DV.bel n (oi o) = true := by cases o <;> rfl
theorem belL_oi (n : Nat) (r : List (Option Int)) : DV.belL n (r.map oi) = true := by
  induction r with
  | nil => rfl
  | cons a r ih => simp [DV.belL, bel_oi, ih]
theorem bel_eR (n : Nat) (r : List (Option Int)) : DV.bel n (eR r) = true := by simp [eR, DV.bel, belL_oi]
theorem bel_eRk (n : Nat) (q : Bool × List (Option Int)) : DV.bel n (eRk q) = true := by
  unfold eRk
  split <;> simp [DV.bel, belL_oi]
/-! ### comprehensions over lists of data -/
theorem dLc_list {α : Type} {fi : DenA} {bd : Bd} {elt : Den} {ρ : RO} (xs : List α) (enc : α → DV) (out : α → DV) (hi : fi ρ μ = some (xs.map enc, μ)) (hz : xs.length ≤ 16777216)
    (h : ∀ x ∈ xs, ∃ ρ', bd (enc x) ρ = some ρ' ∧ ∀ μ', elt ρ' μ' = some (out x, μ')) (hb : ∀ x ∈ xs, DV.bel μ.length (out x) = true) : dLc fi bd dT elt ρ μ = some (.lst (xs.map out), μ) := by
  classical
  let g : DV → DV := fun d => match bd d ρ with
    | some ρ' => match elt ρ' μ with
      | some (y, _) => y
      | none => .non
    | none => .non
  have hg : ∀ x ∈ xs, g (enc x) = out x := fun x hx => by
    obtain ⟨ρ', e1, e2⟩ := h x hx
    show (match bd (enc x) ρ with
    | some ρ' => match elt ρ' μ with
      | some (y, _) => y
      | none => .non
    | none => DV.non) = out x
    rw [e1]
    dsimp only
    rw [e2 μ]
  have := dLc_map (fi := fi) (bd := bd) (elt := elt) (g := g) (ds := xs.map enc) (ρ := ρ) (μ := μ) hi (by simpa using hz) (fun d hd => by
    obtain ⟨x, hx, rfl⟩ := List.mem_map.mp hd
    obtain ⟨ρ', e1, e2⟩ := h x hx
    exact ⟨ρ', e1, fun μ' => by rw [hg x hx]; exact e2 μ'⟩) (fun d hd => by
    obtain ⟨x, hx, rfl⟩ := List.mem_map.mp hd
    rw [hg x hx]
    exact hb x hx)
  rw [this, List.map_map]
  congr 3
  exact List.map_congr_left hg
theorem blsD_map {α : Type} (xs : List α) (p : α → Bool) : blsD (xs.map fun x => DV.bl (p x)) = some (xs.map p) := by
  induction xs with
  | nil => rfl
  | cons x xs ih => simp [blsD, ih]
theorem cntD_map {α : Type} (enc : α → DV) : ∀ (xs : List α) (k : Nat), cntD (k : Int) (xs.map enc) = (xs.zipIdx k).map fun q => DV.tup [.int (q.2 : Int), enc q.1]
  | [], k => rfl
  | x :: xs, k => by
    have := cntD_map enc xs (k + 1)
    simp only [List.map_cons, cntD, List.zipIdx_cons]
    congr 1
theorem zipD_map {α β : Type} (f : α → DV) (g : β → DV) : ∀ (xs : List α) (ys : List β), zipD (xs.map f) (ys.map g) = (xs.zip ys).map fun q => DV.tup [f q.1, g q.2]
  | [], _ => rfl
  | _ :: _, [] => rfl
  | x :: xs, y :: ys => by
    have := zipD_map f g xs ys
    unfold zipD at this ⊢
    simp [this]
@[simp] theorem sqD_eRk (q : Bool × List (Option Int)) : sqD (eRk q) = some (q.1, q.2.map oi) := by
  obtain ⟨b, r⟩ := q
  cases b <;> rfl

end Lw

namespace Lw
open PySem PySem.Spec L2 Eg
local macro_rules | `(tactic| walk_at "ex") => `(tactic| simp [eFn, startD, esCons, sRet, esIf, sNil, sSet, sAsg, sExp, sPar2, sPar3, dVar, dC, dOp2, dCall, dBlt, dTup, dLst, dLstM, eIf, eAnd, eOr, eNot, eNeg, dIsi, eChain, aCons, aNil, gTu, gAnd, gNm, gSb, gEnd, dSl, runP, sFor, forL_nil, forL_cons, iSeq, iRange1, iRange2, oDiv_ok, oMod_ok, oPow_ok, oSub, oLt, oLe, oGt, oGe, oEq, oNe, oIs, oIsnt, xIx_t, xIx_l, xIx_m, xIx_s, oLen, oInt, oAbs, oMM, oTuple, oDivmod, oInN, flatL, DV.flat, dCallW, permI, oAll, blsD, oMax1, oMin1, maxI, minI, intsD, inV1, inV2, eqV, DV.isN, eqvD, eqvL, shD, shL, xItems_t, xItems_l, xItems_m, xLen_t, xLen_l, xLen_m, xLen_s, atI, ixN, DV.ty, kitT, sl_eq, *])
variable {μ : List MO}
theorem atI_nat {ds : List DV} {i : Nat} {d : DV} (h : ds[i]? = some d) : atI ds (i : Int) = some d := by
  have hi := (List.getElem?_eq_some_iff.mp h).1
  unfold atI ixN
  simp [hi]
  exact (List.getElem?_eq_some_iff.mp h).2
@[simp] theorem blsD_true {α : Type} (xs : List α) : blsD (xs.map fun _ => DV.bl true) = some (xs.map fun _ => true) := blsD_map xs fun _ => true
theorem atR {r : List (Option Int)} {i : Nat} {o : Option Int} (h : r[i]? = some o) : atI (r.map oi) (i : Int) = some (oi o) := atI_nat (by simp [h])
@[simp] theorem is_gap_row_ok {n i : Nat} {r : List (Option Int)} (hn : n ≤ 20) (hl : r.length = n + 1) (h0 : r[i]? = some (some 0)) : V_is_gap_row [.int n, .int i, eR r] μ = some (.bl true, μ) := by
  have k : ∀ ρ : RO, ρ = [some (.int n), some (.int i), some (.tup (r.map oi)), none] → dLc (iSeq (dVar 2)) (bd1 3) dT (dOr (dOp2 oIs (dVar 3) (dC .non)) (dCall V_is_whole (aCons (dVar 3) aNil))) ρ μ = some (.lst (r.map fun _ => DV.bl true), μ) := by
    rintro ρ rfl
    refine dLc_list r oi (fun _ => DV.bl true) (by simp [iSeq, dVar, xItems_t]) (by omega) (fun x _ => ⟨_, rfl, fun μ' => ?_⟩) fun _ _ => rfl
    cases x <;> (simp only [oi]; walk_at "ex")
  have hi : (i : Int) < (n : Int) + 1 := by
    have := (List.getElem?_eq_some_iff.mp h0).1
    omega
  have k' := k _ rfl
  unfold V_is_gap_row D_is_gap_row eR
  walk_at "ex"
  simp [oi, eqvD, shD]
@[simp] theorem is_gaps_ok {n : Nat} {g : Gp} (hn : n ≤ 20) (h : wG n g) : V_is_gaps [.int n, eG g] μ = some (.bl true, μ) := by
  unfold V_is_gaps D_is_gaps
  match g, h with
  | none, _ => simp only [eG]; walk_at "ex"
  | some rs, h =>
    have k : ∀ ρ : RO, ρ = [some (.int n), some (.tup (rs.map eR)), none, none] → dLc (iEnm (aCons (dVar 1) aNil)) (bd2 2 3) dT (dCall V_is_gap_row (aCons (dVar 0) (aCons (dVar 2) (aCons (dVar 3) aNil)))) ρ μ = some (.lst ((rs.zipIdx 0).map fun _ => DV.bl true), μ) := by
      rintro ρ rfl
      refine dLc_list (rs.zipIdx 0) (fun q => DV.tup [.int (q.2 : Int), eR q.1]) (fun _ => DV.bl true) ?_ (by simp [h.1]; omega) (fun q hq => ⟨_, rfl, fun μ' => ?_⟩) fun _ _ => rfl
      · have := cntD_map eR rs 0
        simp only [iEnm, aCons, aNil, dVar]
        simp [this]
        exact this
      · obtain ⟨r, i⟩ := q
        have hr := h.2 i r (by
          have := List.mem_zipIdx hq
          simp at this
          obtain ⟨h1, h2⟩ := this
          rw [h2]
          simp [h1])
        have := is_gap_row_ok (μ := μ') hn hr.1 hr.2
        walk_at "ex"
    have k' := k _ rfl
    have l := h.1
    simp only [eG]
    walk_at "ex"
@[simp] theorem is_index_ok {i n : Int} (h0 : 0 ≤ i) (h1 : i < n) : V_is_index [.int i, .int n] μ = some (.bl true, μ) := by
  unfold V_is_index D_is_index; walk_at "ex"
@[simp] theorem refuse_wrong_many_ok {n : Nat} (hn : n ≤ 20) : V_refuse_wrong_many [.int n] μ = some (.non, μ) := by
  have := is_index_ok (μ := μ) (i := n) (n := 21) (by omega) (by omega)
  unfold V_refuse_wrong_many D_refuse_wrong_many; walk_at "ex"
@[simp] theorem refuse_wrong_differences_ok {n : Nat} {g : Gp} (hn : n ≤ 20) (h : wG n g) : V_refuse_wrong_differences [.int n, eG g] μ = some (.non, μ) := by
  unfold V_refuse_wrong_differences D_refuse_wrong_differences; walk_at "ex"
@[simp] theorem refuse_wrong_number_ok (i : Int) : V_refuse_wrong_number [.int i] μ = some (.non, μ) := by
  unfold V_refuse_wrong_number D_refuse_wrong_number; walk_at "ex"
@[simp] theorem refuse_wrong_indexes_ok {n : Nat} {i j : Int} (hn : n ≤ 20) (i0 : 0 ≤ i) (i1 : i ≤ n) (j0 : 0 ≤ j) (j1 : j ≤ n) : V_refuse_wrong_indexes [.int n, .tup [.int i, .int j]] μ = some (.non, μ) := by
  have a := is_index_ok (μ := μ) (i := i) (n := n + 1) (by omega) (by omega)
  have b := is_index_ok (μ := μ) (i := j) (n := n + 1) (by omega) (by omega)
  unfold V_refuse_wrong_indexes D_refuse_wrong_indexes; walk_at "ex"
@[simp] theorem refuse_wrong_pair_ok {n : Nat} {g : Gp} {i j b : Int} (hn : n ≤ 20) (h : wG n g) (i0 : 0 ≤ i) (i1 : i ≤ n) (j0 : 0 ≤ j) (j1 : j ≤ n) : V_refuse_wrong_pair [.int n, eG g, .int i, .int j, .int b] μ = some (.non, μ) := by
  unfold V_refuse_wrong_pair D_refuse_wrong_pair; walk_at "ex"
/-! ### bounds -/
open Df in
@[simp] theorem lesser_ok (a b : Option Int) : V_lesser [oi a, oi b] μ = some (oi (minB a b), μ) := by
  have k : V_is_above [oi a, oi b] μ = some (.bl (match a, b with | _, none => false | none, some _ => true | some x, some y => decide (y < x)), μ) := by
    unfold V_is_above D_is_above
    cases a <;> cases b <;> (simp only [oi]; walk_at "ex")
  unfold V_lesser D_lesser
  cases a <;> cases b <;> (simp only [oi] at k ⊢; walk_at "ex") <;> simp [minB, oi]
  split <;> simp <;> omega
open Df in
@[simp] theorem end_sum_ok (a b : Option Int) : V_end_sum [oi a, oi b] μ = some (oi (addB a b), μ) := by
  unfold V_end_sum D_end_sum
  cases a <;> cases b <;> (simp only [oi]; walk_at "ex") <;> simp [addB, oi]

end Lw

namespace Lw
open PySem PySem.Spec L2 Eg
local macro_rules | `(tactic| walk_at "ex") => `(tactic| simp [eFn, startD, esCons, sRet, esIf, sNil, sSet, sAsg, sExp, sPar2, sPar3, dVar, dC, dOp2, dCall, dBlt, dTup, dLst, dLstM, eIf, eAnd, eOr, eNot, eNeg, dIsi, eChain, aCons, aNil, gTu, gAnd, gNm, gSb, gEnd, dSl, runP, sFor, forL_nil, forL_cons, iSeq, iRange1, iRange2, oDiv_ok, oMod_ok, oPow_ok, oSub, oLt, oLe, oGt, oGe, oEq, oNe, oIs, oIsnt, xIx_t, xIx_l, xIx_m, xIx_s, oLen, oInt, oAbs, oMM, oTuple, oDivmod, oInN, flatL, DV.flat, dCallW, permI, oAll, blsD, oMax1, oMin1, maxI, minI, intsD, inV1, inV2, eqV, DV.isN, eqvD, eqvL, shD, shL, xItems_t, xItems_l, xItems_m, xLen_t, xLen_l, xLen_m, xLen_s, atI, ixN, DV.ty, kitT, sl_eq, *])
open Df
variable {μ : List MO}
/-! ### closing -/
abbrev Rws := List (Bool × List (Option Int))
def eQ (t : Bool) (qs : Rws) : DV := if t = true then .lst (qs.map eRk) else .tup (qs.map eRk)
def at2 (qs : Rws) : Mt := fun i j => match qs[i]? with
  | some q => (q.2[j]?).getD none
  | none => none
def wQ (n : Nat) (qs : Rws) : Prop := qs.length = n ∧ ∀ q ∈ qs, q.2.length = n
def rbw (q : Bool × List (Option Int)) (b : Option Int) (t : List (Option Int)) : Bool × List (Option Int) := match b with
  | none => q
  | some b => (true, (q.2.zip t).map fun p => minB p.1 (addB (some b) p.2))
def stepQ (k : Nat) (qs : Rws) : Rws := match qs[k]? with
  | some t => qs.map fun q => rbw q ((q.2[k]?).getD none) t.2
  | none => qs
theorem rbw_len {n : Nat} {q : Bool × List (Option Int)} {b : Option Int} {t : List (Option Int)} (h : q.2.length = n) (k : t.length = n) : (rbw q b t).2.length = n := by
  cases b with
  | none => exact h
  | some b => simp [rbw, h, k]
theorem wQ_step {n k : Nat} {qs : Rws} (w : wQ n qs) : wQ n (stepQ k qs) := by
  unfold stepQ
  cases h : qs[k]? with
  | none => exact w
  | some t =>
    refine ⟨by simp [w.1], fun q hq => ?_⟩
    obtain ⟨q', h1, rfl⟩ := List.mem_map.mp hq
    exact rbw_len (w.2 _ h1) (w.2 _ (List.mem_of_getElem? h))
theorem at2_step {n k : Nat} {qs : Rws} (w : wQ n qs) (hk : k < n) : at2 (stepQ k qs) = Df.step k (at2 qs) := by
  obtain ⟨t, ht⟩ : ∃ t, qs[k]? = some t := ⟨qs[k]'(by rw [w.1]; exact hk), List.getElem?_eq_getElem _⟩
  have tl := w.2 _ (List.mem_of_getElem? ht)
  funext i j
  unfold Df.step
  simp only [at2, stepQ, ht]
  rw [List.getElem?_map]
  cases hi : qs[i]? with
  | none => rfl
  | some q =>
    have ql := w.2 _ (List.mem_of_getElem? hi)
    simp only [Option.map_some]
    cases hb : (q.2[k]?).getD none with
    | none =>
      simp only [rbw]
      cases (q.2[j]?).getD none <;> rfl
    | some b =>
      simp only [rbw]
      by_cases hj : j < n
      · rw [List.getElem?_map, List.getElem?_eq_getElem (by simp; omega), List.getElem_zip, List.getElem?_eq_getElem (show j < q.2.length by omega), List.getElem?_eq_getElem (show j < t.2.length by omega)]
        rfl
      · rw [List.getElem?_eq_none (by simp; omega), List.getElem?_eq_none (by omega), List.getElem?_eq_none (by omega)]
        rfl
def badQ (qs : Rws) : Bool := (qs.zipIdx 0).any fun q => match (q.1.2[q.2]?).getD none with
  | some x => decide (x < 0)
  | none => false
theorem badQ_ok {n : Nat} {qs : Rws} (w : wQ n qs) (d : dgle n (at2 qs)) : badQ qs = false ↔ okD n (at2 qs) := by
  unfold badQ
  rw [List.any_eq_false]
  constructor
  · intro h i hi
    have hl : i < qs.length := by rw [w.1]; exact hi
    have := h (qs[i], i) (by rw [List.mem_zipIdx_iff_getElem?]; simp [hl])
    have e : at2 qs i i = (qs[i].2[i]?).getD none := by simp [at2, hl]
    rw [e]
    cases z : (qs[i].2[i]?).getD none with
    | none => trivial
    | some x =>
      rw [z] at this
      have : ¬ x < 0 := by simpa using this
      show (0 : Int) ≤ x
      omega
  · rintro h ⟨q, i⟩ hq
    rw [List.mem_zipIdx_iff_getElem?] at hq
    have hq : qs[i]? = some q := by simpa using hq
    have hl := (List.getElem?_eq_some_iff.mp hq).1
    have e : at2 qs i i = (q.2[i]?).getD none := by simp [at2, hq]
    have := h i (by rw [← w.1]; exact hl)
    rw [e] at this
    cases z : (q.2[i]?).getD none with
    | none => simp
    | some x =>
      rw [z] at this
      have : (0 : Int) ≤ x := this
      simp
      omega
@[simp] theorem row_by_way_ok {n : Nat} (q t : Bool × List (Option Int)) (b : Option Int) (hl : q.2.length = n) (hn : n ≤ 21) : V_row_by_way [eRk q, oi b, eRk t] μ = some (eRk (rbw q b t.2), μ) := by
  unfold V_row_by_way D_row_by_way
  cases b with
  | none => simp only [oi]; walk_at "ex"; rfl
  | some b =>
    have k : ∀ ρ : RO, ρ = [some (eRk q), some (.int b), some (eRk t), none, none] → dLc (iZipX (aCons (dVar 0) (aCons (dVar 2) aNil))) (bd2 3 4) dT (dIf (dOr (dOp2 oIs (dVar 4) (dC .non)) (dAnd (dOp2 oIsnt (dVar 3) (dC .non)) (dOp2 oLe (dVar 3) (dOp2 oAdd (dVar 1) (dVar 4))))) (dVar 3) (dOp2 oAdd (dVar 1) (dVar 4))) ρ μ = some (.lst ((q.2.zip t.2).map fun p => oi (minB p.1 (addB (some b) p.2))), μ) := by
      rintro ρ rfl
      refine dLc_list (q.2.zip t.2) (fun p => DV.tup [oi p.1, oi p.2]) _ ?_ (by simp; omega) (fun p _ => ⟨_, rfl, fun μ' => ?_⟩) fun _ _ => bel_oi _ _
      · simp only [iZipX, aCons, aNil, dVar]
        simp [zipD_map]
      · obtain ⟨x, w⟩ := p
        cases x <;> cases w <;> (simp only [oi]; walk_at "ex") <;> simp [minB, addB, oi]
        split <;> simp <;> omega
    have k' := k _ rfl
    simp only [oi]
    walk_at "ex"
    simp [eRk, rbw]

end Lw

namespace Lw
open PySem PySem.Spec L2 Eg
local macro_rules | `(tactic| walk_at "ex") => `(tactic| simp [eFn, startD, esCons, sRet, esIf, sNil, sSet, sAsg, sExp, sPar2, sPar3, dVar, dC, dOp2, dCall, dBlt, dTup, dLst, dLstM, eIf, eAnd, eOr, eNot, eNeg, dIsi, eChain, aCons, aNil, gTu, gAnd, gNm, gSb, gEnd, dSl, runP, sFor, forL_nil, forL_cons, iSeq, iRange1, iRange2, oDiv_ok, oMod_ok, oPow_ok, oSub, oLt, oLe, oGt, oGe, oEq, oNe, oIs, oIsnt, xIx_t, xIx_l, xIx_m, xIx_s, oLen, oInt, oAbs, oMM, oTuple, oDivmod, oInN, flatL, DV.flat, dCallW, permI, oAll, blsD, oMax1, oMin1, maxI, minI, intsD, inV1, inV2, eqV, DV.isN, eqvD, eqvL, shD, shL, xItems_t, xItems_l, xItems_m, xLen_t, xLen_l, xLen_m, xLen_s, atI, ixN, DV.ty, kitT, sl_eq, *])
open Df
variable {μ : List MO}
theorem oIx_eRk {q : Bool × List (Option Int)} {k : Nat} (h : k < q.2.length) : oIx (eRk q) (.int (k : Int)) μ = some (oi ((q.2[k]?).getD none), μ) := by
  have e : atI (q.2.map oi) (k : Int) = some (oi ((q.2[k]?).getD none)) := atI_nat (by simp [h])
  obtain ⟨b, r⟩ := q
  cases b
  · show (atI (r.map oi) (k : Int)).map (fun d => (d, μ)) = _
    rw [e]; rfl
  · show (atI (r.map oi) (k : Int)).map (fun d => (d, μ)) = _
    rw [e]; rfl
theorem items_eQ (t : Bool) (qs : Rws) : itemsD μ (eQ t qs) = some (qs.map eRk) := by cases t <;> rfl
theorem oIx_eQ {t : Bool} {qs : Rws} {k : Nat} {q : Bool × List (Option Int)} (h : qs[k]? = some q) : oIx (eQ t qs) (.int (k : Int)) μ = some (eRk q, μ) := by
  have e : atI (qs.map eRk) (k : Int) = some (eRk q) := atI_nat (by simp [h])
  cases t
  · show (atI (qs.map eRk) (k : Int)).map (fun d => (d, μ)) = _
    rw [e]; rfl
  · show (atI (qs.map eRk) (k : Int)).map (fun d => (d, μ)) = _
    rw [e]; rfl
def negQ (q : (Bool × List (Option Int)) × Nat) : Bool := match (q.1.2[q.2]?).getD none with
  | some x => decide (x < 0)
  | none => false
theorem rows_lc {n k : Nat} {t : Bool} {qs : Rws} {tk : Bool × List (Option Int)} {g a4 a5 : Option DV} (hn : n ≤ 21) (w : wQ n qs) (hk : qs[k]? = some tk) :
    dLc (iSeq (dVar 1)) (bd1 4) dT (dCall V_row_by_way (aCons (dVar 4) (aCons (dOp2 oIx (dVar 4) (dVar 2)) (aCons (dVar 3) aNil)))) [g, some (eQ t qs), some (.int (k : Int)), some (eRk tk), a4, a5] μ = some (eQ true (stepQ k qs), μ) := by
  have kl : k < n := by rw [← w.1]; exact (List.getElem?_eq_some_iff.mp hk).1
  have := dLc_list (μ := μ) (fi := iSeq (dVar 1)) (bd := bd1 4) (elt := dCall V_row_by_way (aCons (dVar 4) (aCons (dOp2 oIx (dVar 4) (dVar 2)) (aCons (dVar 3) aNil)))) (ρ := [g, some (eQ t qs), some (.int (k : Int)), some (eRk tk), a4, a5]) qs eRk (fun q => eRk (rbw q ((q.2[k]?).getD none) tk.2))
    (by cases t <;> simp [iSeq, dVar, eQ]) (by rw [w.1]; omega) (fun q hq => ⟨_, rfl, fun μ' => by
      have ql := w.2 q hq
      have e1 := oIx_eRk (μ := μ') (q := q) (k := k) (by omega)
      have e2 := row_by_way_ok (μ := μ') q tk ((q.2[k]?).getD none) ql hn
      simp [dCall, aCons, aNil, dVar, dOp2, e1, e2]⟩) (fun q _ => bel_eRk _ _)
  rw [this]
  simp [eQ, stepQ, hk]
theorem any_lc {n : Nat} {qs : Rws} {g a2 a3 a4 a5 : Option DV} (hn : n ≤ 21) (w : wQ n qs) (dg : dgle n (at2 qs)) :
    dLc (iEnm (aCons (dVar 1) aNil)) (bd2 5 4) dT (dOp2 oLt (dOp2 oIx (dVar 4) (dVar 5)) (dC (.int 0))) [g, some (eQ true qs), a2, a3, a4, a5] μ = some (.lst ((qs.zipIdx 0).map fun q => .bl (negQ q)), μ) := by
  refine dLc_list (qs.zipIdx 0) (fun q => DV.tup [.int (q.2 : Int), eRk q.1]) _ ?_ (by simp [w.1]; omega) (fun q hq => ⟨_, rfl, fun μ' => ?_⟩) fun _ _ => rfl
  · have := cntD_map eRk qs 0
    simp [iEnm, aCons, aNil, dVar, eQ]
    exact this
  · obtain ⟨q, i⟩ := q
    have hq' : qs[i]? = some q := by
      have := List.mem_zipIdx_iff_getElem?.mp hq
      simpa using this
    have il : i < n := by rw [← w.1]; exact (List.getElem?_eq_some_iff.mp hq').1
    have ql := w.2 q (List.mem_of_getElem? hq')
    have e1 := oIx_eRk (μ := μ') (q := q) (k := i) (by omega)
    have e2 : at2 qs i i = (q.2[i]?).getD none := by simp [at2, hq']
    have e3 := dg i il
    rw [e2] at e3
    cases z : (q.2[i]?).getD none with
    | none => rw [z] at e3; exact e3.elim
    | some x =>
      rw [z] at e1
      simp [dOp2, dVar, dC, e1, oi, oLt, negQ, z]
theorem any_ok {qs : Rws} : oAny [.lst ((qs.zipIdx 0).map fun q => .bl (negQ q))] μ = some (.bl (badQ qs), μ) := by
  unfold oAny
  simp only [blsD_map]
  simp only [List.any_map]
  rfl

end Lw

namespace Lw
open PySem PySem.Spec L2 Eg
local macro_rules | `(tactic| walk_at "ex") => `(tactic| simp [eFn, startD, esCons, sRet, esIf, sNil, sSet, sAsg, sExp, sPar2, sPar3, dVar, dC, dOp2, dCall, dBlt, dTup, dLst, dLstM, eIf, eAnd, eOr, eNot, eNeg, dIsi, eChain, aCons, aNil, gTu, gAnd, gNm, gSb, gEnd, dSl, runP, sFor, forL_nil, forL_cons, iSeq, iRange1, iRange2, oDiv_ok, oMod_ok, oPow_ok, oSub, oLt, oLe, oGt, oGe, oEq, oNe, oIs, oIsnt, xIx_t, xIx_l, xIx_m, xIx_s, oLen, oInt, oAbs, oMM, oTuple, oDivmod, oInN, flatL, DV.flat, dCallW, permI, oAll, blsD, oMax1, oMin1, maxI, minI, intsD, inV1, inV2, eqV, DV.isN, eqvD, eqvL, shD, shL, xItems_t, xItems_l, xItems_m, xLen_t, xLen_l, xLen_m, xLen_s, atI, ixN, DV.ty, kitT, sl_eq, *])
open Df
variable {μ : List MO}
theorem Fw_nones {n m : Nat} {D : Mt} : ∀ {k : Nat}, Fw n D k none → k + m = n → Fw n D n none := by
  induction m with
  | zero =>
    intro k f e
    have : k = n := by omega
    exact this ▸ f
  | succ m ih => intro k f e; exact ih (k := k + 1) f.none (by omega)
noncomputable def C_body : DenS := (sCons (sSet 3 (dOp2 oIx (dVar 1) (dVar 2)))
  (sCons (sSet 1 (dLc (iSeq (dVar 1)) (bd1 4) dT (dCall V_row_by_way (aCons (dVar 4) (aCons (dOp2 oIx (dVar 4) (dVar 2)) (aCons (dVar 3) aNil))))))
  (sCons (sIf (dBlt oAny (aCons (dLc (iEnm (aCons (dVar 1) aNil)) (bd2 5 4) dT (dOp2 oLt (dOp2 oIx (dVar 4) (dVar 5)) (dC (.int 0)))) aNil))
  (sCons (sRet (dC .non))
  sNil)
  sNil)
  sNil)))
theorem body_ok {n k : Nat} {t : Bool} {qs : Rws} {g a3 a4 a5 : Option DV} (hn : n ≤ 21) (w : wQ n qs) (dg : dgle n (at2 qs)) (hk : k < n) :
    ∃ a3', C_body [g, some (eQ t qs), some (.int (k : Int)), a3, a4, a5] μ = if badQ (stepQ k qs) = true then some (.rt .non μ) else some (.nx [g, some (eQ true (stepQ k qs)), some (.int (k : Int)), a3', a4, a5] μ) := by
  obtain ⟨tk, ht⟩ : ∃ tk, qs[k]? = some tk := ⟨qs[k]'(by rw [w.1]; exact hk), List.getElem?_eq_getElem _⟩
  have e1 := oIx_eQ (μ := μ) (t := t) ht
  have e2 := rows_lc (μ := μ) (t := t) (g := g) (a4 := a4) (a5 := a5) hn w ht
  have dg' : dgle n (at2 (stepQ k qs)) := by rw [at2_step w hk]; exact dgle_step dg
  have e3 := any_lc (μ := μ) (g := g) (a2 := some (.int (k : Int))) (a3 := some (eRk tk)) (a4 := a4) (a5 := a5) hn (wQ_step (k := k) w) dg'
  have e4 := any_ok (μ := μ) (qs := stepQ k qs)
  refine ⟨some (eRk tk), ?_⟩
  unfold C_body
  by_cases hb : badQ (stepQ k qs) = true
  · rw [if_pos hb]
    rw [hb] at e4
    walk_at "ex"
  · rw [if_neg hb]
    have hb : badQ (stepQ k qs) = false := by simpa using hb
    rw [hb] at e4
    walk_at "ex"
theorem loop_ok {n : Nat} {D : Mt} {g : Option DV} (hn : n ≤ 21) (d0 : dgle n D) : ∀ (m k : Nat) (t : Bool) (qs : Rws) (a2 a3 a4 a5 : Option DV), k + m = n → wQ n qs → Fw n D k (some (at2 qs)) →
    ∃ (o : Option Rws) (t' : Bool) (a2' a3' : Option DV), Fw n D n (o.map at2) ∧ (∀ qs', o = some qs' → wQ n qs') ∧
      forL (gNm 2) C_body ((List.range' k m).map fun i : Nat => DV.int (i : Int)) [g, some (eQ t qs), a2, a3, a4, a5] μ = match o with
        | none => some (.rt .non μ)
        | some qs' => some (.nx [g, some (eQ t' qs'), a2', a3', a4, a5] μ)
  | 0, k, t, qs, a2, a3, a4, a5, hk, w, f => by
    have : k = n := by omega
    subst this
    exact ⟨some qs, t, a2, a3, f, fun qs' e => (by cases e; exact w), rfl⟩
  | m + 1, k, t, qs, a2, a3, a4, a5, hk, w, f => by
    have kn : k < n := by omega
    have dg : dgle n (at2 qs) := (f.tri d0 (by omega)).1
    obtain ⟨a3', e⟩ := body_ok (μ := μ) (t := t) (g := g) (a3 := a3) (a4 := a4) (a5 := a5) hn w dg kn
    have w' := wQ_step (k := k) w
    have dg' : dgle n (at2 (stepQ k qs)) := by rw [at2_step w kn]; exact dgle_step dg
    have bad := badQ_ok w' dg'
    rw [at2_step w kn] at bad
    have head : forL (gNm 2) C_body ((List.range' k (m + 1)).map fun i : Nat => DV.int (i : Int)) [g, some (eQ t qs), a2, a3, a4, a5] μ = lpO (C_body [g, some (eQ t qs), some (.int (k : Int)), a3, a4, a5] μ) (forL (gNm 2) C_body ((List.range' (k + 1) m).map fun i : Nat => DV.int (i : Int))) := by
      rw [List.range'_succ, List.map_cons, forL_cons]
      rfl
    rw [head, e]
    by_cases hb : badQ (stepQ k qs) = true
    · have f' : Fw n D (k + 1) none := f.bad fun h => by rw [bad.mpr h] at hb; cases hb
      refine ⟨none, true, none, none, Fw_nones f' (m := m) (by omega), fun _ e => (by cases e), ?_⟩
      rw [if_pos hb]
      rfl
    · have f' : Fw n D (k + 1) (some (at2 (stepQ k qs))) := by
        rw [at2_step w kn]
        exact f.go (bad.mp (by simpa using hb))
      obtain ⟨o, t', b2, b3, h2, h3, h4⟩ := loop_ok hn d0 m (k + 1) true (stepQ k qs) (some (.int (k : Int))) a3' a4 a5 (by omega) w' f'
      rw [if_neg hb, lpO_nx, h4]
      exact ⟨o, t', b2, b3, h2, h3, rfl⟩
def outG : Option Rws → Gp := fun o => o.map fun qs => qs.map (·.2)
noncomputable def C_loop : DenS := sFor (iRange1 (aCons (dBlt oLen (aCons (dVar 0) aNil)) aNil)) (gNm 2) C_body
noncomputable def C_last : Den := dLc (iSeq (dVar 1)) (bd1 4) dT (dBlt oTuple (aCons (dVar 4) aNil))
theorem last_ok {n : Nat} {t : Bool} {qs : Rws} {g a2 a3 a4 a5 : Option DV} (hn : n ≤ 21) (w : wQ n qs) : C_last [g, some (eQ t qs), a2, a3, a4, a5] μ = some (.lst ((qs.map (·.2)).map eR), μ) := by
  have := dLc_list (μ := μ) (fi := iSeq (dVar 1)) (bd := bd1 4) (elt := dBlt oTuple (aCons (dVar 4) aNil)) (ρ := [g, some (eQ t qs), a2, a3, a4, a5]) qs eRk (fun q => eR q.2)
    (by cases t <;> simp [iSeq, dVar, eQ]) (by rw [w.1]; omega) (fun q hq => ⟨_, rfl, fun μ' => by
      obtain ⟨b, r⟩ := q
      cases b <;> simp [dBlt, aCons, aNil, dVar, oTuple, eRk, eR, itemsD]⟩) (fun q _ => bel_eR _ _)
  unfold C_last
  rw [this, List.map_map]
  rfl
theorem closing_eq : D_closing = (sCons (sIf (dOp2 oIs (dVar 0) (dC .non))
  (sCons (sRet (dC .non))
  sNil)
  sNil)
  (sCons (sSet 1 (dVar 0))
  (sCons C_loop
  (sCons (sRet (dBlt oTuple (aCons C_last aNil)))
  sNil)))) := rfl
theorem rng_ok {d : DV} {ni : Int} {n : Nat} {a b c x y : Option DV} (e : ni.toNat = n) (h0 : 0 ≤ ni) (hn : ni ≤ 21) (len : oLen [d] μ = some (.int ni, μ)) :
    iRange1 (aCons (dBlt oLen (aCons (dVar 0) aNil)) aNil) [some d, a, b, c, x, y] μ = some ((List.range' 0 n).map fun i : Nat => DV.int (i : Int), μ) := by
  have h1 : -4000000000000000000 ≤ ni := by omega
  have h2 : ni < 4000000000000000000 := by omega
  simp [iRange1, aCons, aNil, dBlt, dVar, len, h1, h2, rgD, List.range_eq_range', e]
theorem sFor_at (fi : DenA) (g : DenG) (b : DenS) (ρ : RO) (μ : List MO) : sFor fi g b ρ μ = bnd (fi ρ μ) fun ds μ1 => forL g b ds ρ μ1 := rfl
theorem loop_at {d : DV} {ni : Int} {n : Nat} (e : ni.toNat = n) (h0 : 0 ≤ ni) (hn : ni ≤ 21) (len : oLen [d] μ = some (.int ni, μ)) :
    C_loop [some d, some d, none, none, none, none] μ = forL (gNm 2) C_body ((List.range' 0 n).map fun i : Nat => DV.int (i : Int)) [some d, some d, none, none, none, none] μ := by
  unfold C_loop
  rw [sFor_at]
  rw [rng_ok e h0 hn len, bnd_some]
theorem closing_end {n : Nat} {d : DV} {t' : Bool} {b2 b3 : Option DV} {o : Option Rws} (hn : n ≤ 21) (isn : oIs d .non μ = some (.bl false, μ)) (nn : DV.isN d = false) (h3 : ∀ qs', o = some qs' → wQ n qs')
    (loop : C_loop [some d, some d, none, none, none, none] μ = match o with
        | none => some (.rt .non μ)
        | some qs' => some (.nx [some d, some (eQ t' qs'), b2, b3, none, none] μ)) : V_closing [d] μ = some (eG (outG o), μ) := by
  unfold V_closing
  rw [closing_eq]
  cases o with
  | none =>
    dsimp only at loop
    walk_at "ex"
    rfl
  | some qs' =>
    dsimp only at loop
    have la := last_ok (μ := μ) (g := some d) (t := t') (a2 := b2) (a3 := b3) (a4 := none) (a5 := none) hn (h3 _ rfl)
    walk_at "ex"
    rw [if_neg (by show ¬ DV.isN d = true; simp [nn])]
    simp [eG, outG]
theorem closing_ok {n : Nat} {t : Bool} {qs : Rws} (hn : n ≤ 21) (w : wQ n qs) (dg : dgle n (at2 qs)) :
    ∃ o : Option Rws, V_closing [eQ t qs] μ = some (eG (outG o), μ) ∧ Fw n (at2 qs) n (o.map at2) ∧ ∀ qs', o = some qs' → wQ n qs' := by
  obtain ⟨o, t', b2, b3, h2, h3, h4⟩ := loop_ok (μ := μ) (g := some (eQ t qs)) hn dg n 0 t qs none none none none (by omega) w .zero
  have len : oLen [eQ t qs] μ = some (.int (n : Int), μ) := by cases t <;> simp [eQ, oLen, xLen_l, xLen_t, w.1]
  refine ⟨o, closing_end (t' := t') (b2 := b2) (b3 := b3) hn (by cases t <;> rfl) (by cases t <;> rfl) h3 ?_, h2, h3⟩
  rw [loop_at (n := n) (by omega) (by omega) (by omega) len]
  cases o <;> exact h4
theorem closing_none : V_closing [.non] μ = some (.non, μ) := by
  unfold V_closing
  rw [closing_eq]
  walk_at "ex"

end Lw

namespace Lw
open PySem PySem.Spec L2 Eg
local macro_rules | `(tactic| walk_at "ex") => `(tactic| simp [eFn, startD, esCons, sRet, esIf, sNil, sSet, sAsg, sExp, sPar2, sPar3, dVar, dC, dOp2, dCall, dBlt, dTup, dLst, dLstM, eIf, eAnd, eOr, eNot, eNeg, dIsi, eChain, aCons, aNil, gTu, gAnd, gNm, gSb, gEnd, dSl, runP, sFor, forL_nil, forL_cons, iSeq, iRange1, iRange2, oDiv_ok, oMod_ok, oPow_ok, oSub, oLt, oLe, oGt, oGe, oEq, oNe, oIs, oIsnt, xIx_t, xIx_l, xIx_m, xIx_s, oLen, oInt, oAbs, oMM, oTuple, oDivmod, oInN, flatL, DV.flat, dCallW, permI, oAll, blsD, oMax1, oMin1, maxI, minI, intsD, inV1, inV2, eqV, DV.isN, eqvD, eqvL, shD, shL, xItems_t, xItems_l, xItems_m, xLen_t, xLen_l, xLen_m, xLen_s, atI, ixN, DV.ty, kitT, sl_eq, *])
open Df
variable {μ : List MO}
/-! ### values, one by one -/
theorem upTo_addc {x t : Int} {c : Option Int} : upTo x (addB c (some t)) ↔ upTo (x - t) c := by
  cases c <;> simp [Df.upTo, addB]
  omega
abbrev T (ts : List Int) (i : Nat) : Int := (ts[i]?).getD 0
def HiOk (C : Mt) (k : Nat) (ts : List Int) (j : Nat) (h : Option Int) : Prop := ∀ x, upTo x h ↔ ∀ i, i < j → upTo (x - T ts i) (C k i)
def LoOk (C : Mt) (k : Nat) (ts : List Int) (j : Nat) (l : Option Int) : Prop := ∀ x, upTo x l ↔ ∀ i, i < j → upTo (x + T ts i) (C i k)
theorem HiOk.next {C : Mt} {k j : Nat} {ts : List Int} {h : Option Int} (w : HiOk C k ts j h) : HiOk C k ts (j + 1) (minB h (addB (C k j) (some (T ts j)))) := fun x => by
  rw [upTo_min, w x, upTo_addc]
  constructor
  · rintro ⟨a, b⟩ i hi
    by_cases e : i = j
    · subst e; exact b
    · exact a i (by omega)
  · intro a
    exact ⟨fun i hi => a i (by omega), a j (by omega)⟩
theorem LoOk.next {C : Mt} {k j : Nat} {ts : List Int} {h : Option Int} (w : LoOk C k ts j h) : LoOk C k ts (j + 1) (minB h (addB (C j k) (some (-T ts j)))) := fun x => by
  rw [upTo_min, w x, upTo_addc, show x - -T ts j = x + T ts j by omega]
  constructor
  · rintro ⟨a, b⟩ i hi
    by_cases e : i = j
    · subst e; exact b
    · exact a i (by omega)
  · intro a
    exact ⟨fun i hi => a i (by omega), a j (by omega)⟩
def newV (h l : Option Int) : Int := match h, l with
  | some a, _ => a
  | none, none => 0
  | none, some b => -b
def satPre (C : Mt) (ts : List Int) : Prop := ∀ i j, i < ts.length → j < ts.length → upTo (T ts i - T ts j) (C i j)
theorem newV_ok {n : Nat} {C : Mt} (cl : Cl n C) {ts : List Int} {h l : Option Int} (hk : ts.length < n) (s : satPre C ts) (hh : HiOk C ts.length ts ts.length h) (hl : LoOk C ts.length ts ts.length l) :
    ∀ i, i < ts.length → upTo (newV h l - T ts i) (C ts.length i) ∧ upTo (T ts i - newV h l) (C i ts.length) := by
  intro i hi
  cases h with
  | some a =>
    have up := (hh a).mp (show a ≤ a from Int.le_refl _)
    refine ⟨up i hi, ?_⟩
    show upTo (T ts i - a) (C i ts.length)
    obtain ⟨i0, h0, hn⟩ : ∃ i0, i0 < ts.length ∧ ¬ upTo (a + 1 - T ts i0) (C ts.length i0) := by
      refine Classical.byContradiction fun no => ?_
      have : upTo (a + 1) (some a) := (hh (a + 1)).mpr fun i hi => Classical.byContradiction fun q => no ⟨i, hi, q⟩
      have : a + 1 ≤ a := this
      omega
    have u0 := up i0 h0
    cases e0 : C ts.length i0 with
    | none => rw [e0] at hn; exact (hn trivial).elim
    | some c =>
      rw [e0] at hn u0
      have u0 : a - T ts i0 ≤ c := u0
      have hn : ¬ (a + 1 - T ts i0 ≤ c) := hn
      cases e1 : C i ts.length with
      | none => trivial
      | some d =>
        have := upTo_le (s i i0 hi h0) (cl.tr i i0 ts.length (by omega) (by omega) hk)
        rw [e1, e0] at this
        have this : T ts i - T ts i0 ≤ d + c := this
        show T ts i - a ≤ d
        omega
  | none =>
    have n1 : C ts.length i = none := by
      cases e : C ts.length i with
      | none => rfl
      | some c =>
        have := (hh (c + T ts i + 1)).mp trivial i hi
        rw [e] at this
        have this : c + T ts i + 1 - T ts i ≤ c := this
        omega
    rw [n1]
    refine ⟨trivial, ?_⟩
    cases l with
    | none =>
      have n2 : C i ts.length = none := by
        cases e : C i ts.length with
        | none => rfl
        | some c =>
          have := (hl (c - T ts i + 1)).mp trivial i hi
          rw [e] at this
          have this : c - T ts i + 1 + T ts i ≤ c := this
          omega
      rw [n2]
      trivial
    | some b =>
      have := (hl b).mp (show b ≤ b from Int.le_refl _) i hi
      show upTo (T ts i - -b) (C i ts.length)
      rwa [show T ts i - -b = b + T ts i by omega]
theorem T_app {ts : List Int} {x : Int} {i : Nat} (h : i < ts.length) : T (ts ++ [x]) i = T ts i := by simp [T, List.getElem?_append_left h]
theorem T_new {ts : List Int} {x : Int} : T (ts ++ [x]) ts.length = x := by simp [T]
theorem satPre_app {n : Nat} {C : Mt} (cl : Cl n C) {ts : List Int} {h l : Option Int} (hk : ts.length < n) (s : satPre C ts) (hh : HiOk C ts.length ts ts.length h) (hl : LoOk C ts.length ts ts.length l) :
    satPre C (ts ++ [newV h l]) := by
  have new := newV_ok cl hk s hh hl
  intro i j hi hj
  rw [List.length_append, List.length_singleton] at hi hj
  by_cases ei : i < ts.length
  · by_cases ej : j < ts.length
    · rw [T_app ei, T_app ej]; exact s i j ei ej
    · have ej : j = ts.length := by omega
      subst ej
      rw [T_app ei, T_new]
      exact (new i ei).2
  · have ei : i = ts.length := by omega
    subst ei
    by_cases ej : j < ts.length
    · rw [T_app ej, T_new]
      exact (new j ej).1
    · have ej : j = ts.length := by omega
      subst ej
      rw [T_new, cl.dg _ hk]
      show newV h l - newV h l ≤ 0
      omega

/-! how great -/
def mag (b : Int) (D : Mt) : Prop := ∀ i j x, D i j = some x → -b ≤ x ∧ x ≤ b
theorem newV_mag {C : Mt} {b t : Int} (hb : 0 ≤ b) (ht : 0 ≤ t) (m : mag b C) {ts : List Int} {h l : Option Int} (s : ∀ x ∈ ts, -t ≤ x ∧ x ≤ t) (hh : HiOk C ts.length ts ts.length h) (hl : LoOk C ts.length ts ts.length l) :
    -(t + b) ≤ newV h l ∧ newV h l ≤ t + b := by
  have tt : ∀ i, i < ts.length → -t ≤ T ts i ∧ T ts i ≤ t := fun i hi => by
    have : T ts i = ts[i] := by simp [T, hi]
    rw [this]
    exact s _ (List.getElem_mem hi)
  cases h with
  | some a =>
    have up := (hh a).mp (show a ≤ a from Int.le_refl _)
    obtain ⟨i0, h0, hn⟩ : ∃ i0, i0 < ts.length ∧ ¬ upTo (a + 1 - T ts i0) (C ts.length i0) := by
      refine Classical.byContradiction fun no => ?_
      have : upTo (a + 1) (some a) := (hh (a + 1)).mpr fun i hi => Classical.byContradiction fun q => no ⟨i, hi, q⟩
      have : a + 1 ≤ a := this
      omega
    have u0 := up i0 h0
    cases e0 : C ts.length i0 with
    | none => rw [e0] at hn; exact (hn trivial).elim
    | some c =>
      rw [e0] at hn u0
      have u0 : a - T ts i0 ≤ c := u0
      have hn : ¬ (a + 1 - T ts i0 ≤ c) := hn
      have := m _ _ _ e0
      have := tt i0 h0
      show -(t + b) ≤ a ∧ a ≤ t + b
      omega
  | none =>
    cases l with
    | none =>
      show -(t + b) ≤ 0 ∧ 0 ≤ t + b
      omega
    | some a =>
      have up := (hl a).mp (show a ≤ a from Int.le_refl _)
      obtain ⟨i0, h0, hn⟩ : ∃ i0, i0 < ts.length ∧ ¬ upTo (a + 1 + T ts i0) (C i0 ts.length) := by
        refine Classical.byContradiction fun no => ?_
        have : upTo (a + 1) (some a) := (hl (a + 1)).mpr fun i hi => Classical.byContradiction fun q => no ⟨i, hi, q⟩
        have : a + 1 ≤ a := this
        omega
      have u0 := up i0 h0
      cases e0 : C i0 ts.length with
      | none => rw [e0] at hn; exact (hn trivial).elim
      | some c =>
        rw [e0] at hn u0
        have u0 : a + T ts i0 ≤ c := u0
        have hn : ¬ (a + 1 + T ts i0 ≤ c) := hn
        have := m _ _ _ e0
        have := tt i0 h0
        show -(t + b) ≤ -a ∧ -a ≤ t + b
        omega
theorem mag_step {b : Int} {k : Nat} {D : Mt} (hb : 0 ≤ b) (m : mag b D) : mag (2 * b) (Df.step k D) := by
  intro i j x e
  unfold Df.step at e
  cases e1 : D i j with
  | none =>
    rw [e1] at e
    cases e2 : D i k with
    | none => rw [e2] at e; simp [minB, addB] at e
    | some p =>
      cases e3 : D k j with
      | none => rw [e2, e3] at e; simp [minB, addB] at e
      | some q =>
        rw [e2, e3] at e
        simp [minB, addB] at e
        have := m _ _ _ e2
        have := m _ _ _ e3
        omega
  | some y =>
    rw [e1] at e
    have := m _ _ _ e1
    cases e2 : D i k with
    | none => rw [e2] at e; simp [minB, addB] at e; omega
    | some p =>
      cases e3 : D k j with
      | none => rw [e2, e3] at e; simp [minB, addB] at e; omega
      | some q =>
        rw [e2, e3] at e
        simp [minB, addB] at e
        have := m _ _ _ e2
        have := m _ _ _ e3
        omega
theorem mag_fw {n : Nat} {b : Int} {D : Mt} (hb : 0 ≤ b) (m : mag b D) : ∀ {k : Nat} {M : Mt}, Fw n D k (some M) → mag (2 ^ k * b) M
  | 0, _, .zero => by simpa using m
  | k + 1, _, .go f ok => by
    have := mag_step (k := k) (Int.mul_nonneg (Int.le_of_lt (Int.pow_pos (by decide))) hb) (mag_fw hb m f)
    rwa [← Int.mul_assoc, show (2 : Int) * 2 ^ k = 2 ^ (k + 1) by rw [Int.pow_succ, Int.mul_comm]] at this

end Lw

namespace Lw
open PySem PySem.Spec L2 Eg
local macro_rules | `(tactic| walk_at "ex") => `(tactic| simp [eFn, startD, esCons, sRet, esIf, sNil, sSet, sAsg, sExp, sPar2, sPar3, dVar, dC, dOp2, dCall, dBlt, dTup, dLst, dLstM, eIf, eAnd, eOr, eNot, eNeg, dIsi, eChain, aCons, aNil, gTu, gAnd, gNm, gSb, gEnd, dSl, runP, sFor, forL_nil, forL_cons, iSeq, iRange1, iRange2, oDiv_ok, oMod_ok, oPow_ok, oSub, oLt, oLe, oGt, oGe, oEq, oNe, oIs, oIsnt, xIx_t, xIx_l, xIx_m, xIx_s, oLen, oInt, oAbs, oMM, oTuple, oDivmod, oInN, flatL, DV.flat, dCallW, permI, oAll, blsD, oMax1, oMin1, maxI, minI, intsD, inV1, inV2, eqV, DV.isN, eqvD, eqvL, shD, shL, xItems_t, xItems_l, xItems_m, xLen_t, xLen_l, xLen_m, xLen_s, atI, ixN, DV.ty, kitT, sl_eq, *])
open Df
variable {μ : List MO}
def at3 (rs : List (List (Option Int))) : Mt := fun i j => match rs[i]? with
  | some r => (r[j]?).getD none
  | none => none
theorem at3_of (qs : Rws) : at3 (qs.map (·.2)) = at2 qs := by
  funext i j
  unfold at3 at2
  rw [List.getElem?_map]
  cases qs[i]? <;> rfl
def wR (n : Nat) (rs : List (List (Option Int))) : Prop := rs.length = n ∧ ∀ r ∈ rs, r.length = n
theorem cell_ok {n i j : Nat} {rs : List (List (Option Int))} (w : wR n rs) (hi : i < n) (hj : j < n) {ρ : RO} {a b : Nat} (h0 : ρ[0]? = some (some (.tup (rs.map eR)))) (ha : ρ[a]? = some (some (.int (i : Int)))) (hb : ρ[b]? = some (some (.int (j : Int)))) :
    dOp2 oIx (dOp2 oIx (dVar 0) (dVar a)) (dVar b) ρ μ = some (oi (at3 rs i j), μ) := by
  obtain ⟨r, hr⟩ : ∃ r, rs[i]? = some r := ⟨rs[i]'(by rw [w.1]; exact hi), List.getElem?_eq_getElem _⟩
  have rl := w.2 r (List.mem_of_getElem? hr)
  have e1 : atI (rs.map eR) (i : Int) = some (eR r) := atI_nat (by simp [hr])
  have e2 := oIx_eRk (μ := μ) (q := (false, r)) (k := j) (by show j < r.length; omega)
  have e3 : at3 rs i j = (r[j]?).getD none := by simp [at3, hr]
  have e4 : eRk (false, r) = eR r := rfl
  rw [e4] at e2
  simp only [dOp2, dVar, h0, ha, hb, bnd_some, xIx_t, e1, Option.map_some, e2, e3]
noncomputable def I_body : DenS := (sCons (sSet 3 (dCall V_lesser (aCons (dVar 3) (aCons (dCall V_end_sum (aCons (dOp2 oIx (dOp2 oIx (dVar 0) (dVar 2)) (dVar 5)) (aCons (dVar 6) aNil))) aNil))))
  (sCons (sSet 4 (dCall V_lesser (aCons (dVar 4) (aCons (dCall V_end_sum (aCons (dOp2 oIx (dOp2 oIx (dVar 0) (dVar 5)) (dVar 2)) (aCons (dNeg (dVar 6)) aNil))) aNil))))
  sNil))
theorem inner_ok {n k j : Nat} {rs : List (List (Option Int))} (w : wR n rs) (hk : k < n) (hj : j < n) {h l : Option Int} {t : Int} {a1 : Option DV} :
    I_body [some (.tup (rs.map eR)), a1, some (.int (k : Int)), some (oi h), some (oi l), some (.int (j : Int)), some (.int t)] μ =
      some (.nx [some (.tup (rs.map eR)), a1, some (.int (k : Int)), some (oi (minB h (addB (at3 rs k j) (some t)))), some (oi (minB l (addB (at3 rs j k) (some (-t))))), some (.int (j : Int)), some (.int t)] μ) := by
  have c1 := cell_ok (μ := μ) (ρ := [some (.tup (rs.map eR)), a1, some (.int (k : Int)), some (oi h), some (oi l), some (.int (j : Int)), some (.int t)]) (a := 2) (b := 5) w hk hj rfl rfl rfl
  have c2 := cell_ok (μ := μ) (ρ := [some (.tup (rs.map eR)), a1, some (.int (k : Int)), some (oi (minB h (addB (at3 rs k j) (some t)))), some (oi l), some (.int (j : Int)), some (.int t)]) (a := 5) (b := 2) w hj hk rfl rfl rfl
  have s1 : V_end_sum [oi (at3 rs k j), .int t] μ = some (oi (addB (at3 rs k j) (some t)), μ) := end_sum_ok _ (some t)
  have s2 : V_end_sum [oi (at3 rs j k), .int (-t)] μ = some (oi (addB (at3 rs j k) (some (-t))), μ) := end_sum_ok _ (some (-t))
  have l1 := lesser_ok (μ := μ) h (addB (at3 rs k j) (some t))
  have l2 := lesser_ok (μ := μ) l (addB (at3 rs j k) (some (-t)))
  generalize at3 rs k j = u at *
  generalize at3 rs j k = v at *
  generalize hd : DV.tup (rs.map eR) = d at *
  unfold I_body
  simp only [esCons, sSet, dCall, aCons, aNil, c1, dVar, List.getElem?_cons_succ, List.getElem?_cons_zero, bnd_some, s1, l1, sqO_nx, List.set_cons_succ, List.set_cons_zero, c2, eNeg]
  simp only [isI, bnd_some, s2, l2, sqO_nx]
  rfl

end Lw

namespace Lw
open PySem PySem.Spec L2 Eg
local macro_rules | `(tactic| walk_at "ex") => `(tactic| simp [eFn, startD, esCons, sRet, esIf, sNil, sSet, sAsg, sExp, sPar2, sPar3, dVar, dC, dOp2, dCall, dBlt, dTup, dLst, dLstM, eIf, eAnd, eOr, eNot, eNeg, dIsi, eChain, aCons, aNil, gTu, gAnd, gNm, gSb, gEnd, dSl, runP, sFor, forL_nil, forL_cons, iSeq, iRange1, iRange2, oDiv_ok, oMod_ok, oPow_ok, oSub, oLt, oLe, oGt, oGe, oEq, oNe, oIs, oIsnt, xIx_t, xIx_l, xIx_m, xIx_s, oLen, oInt, oAbs, oMM, oTuple, oDivmod, oInN, flatL, DV.flat, dCallW, permI, oAll, blsD, oMax1, oMin1, maxI, minI, intsD, inV1, inV2, eqV, DV.isN, eqvD, eqvL, shD, shL, xItems_t, xItems_l, xItems_m, xLen_t, xLen_l, xLen_m, xLen_s, atI, ixN, DV.ty, kitT, sl_eq, *])
open Df
variable {μ : List MO}
noncomputable def I_loop : DenS := sForE (aCons (dVar 1) aNil) (gTu 2 (gAnd (gNm 5) (gAnd (gNm 6) gEnd))) I_body
theorem iloop_ok {n m : Nat} {rs : List (List (Option Int))} (w : wR n rs) {ts : List Int} (hk : ts.length < n) (hm : μ[m]? = some (.lst (ts.map DV.int))) {a5 a6 : Option DV} :
    ∃ h l b5 b6, HiOk (at3 rs) ts.length ts ts.length h ∧ LoOk (at3 rs) ts.length ts ts.length l ∧
      I_loop [some (.tup (rs.map eR)), some (.mu m), some (.int (ts.length : Int)), some .non, some .non, a5, a6] μ =
        some (.nx [some (.tup (rs.map eR)), some (.mu m), some (.int (ts.length : Int)), some (oi h), some (oi l), b5, b6] μ) := by
  have cd : cntD 0 (ts.map DV.int) = (ts.zipIdx 0).map fun q => DV.tup [.int (q.2 : Int), .int q.1] := cntD_map DV.int ts 0
  obtain ⟨ρ2, μ2, e, h, l, b5, b6, rfl, rfl, h1, h2⟩ := forLM_inv (k := m) (xs := ts.map DV.int) (g := gTu 2 (gAnd (gNm 5) (gAnd (gNm 6) gEnd))) (body := I_body) (ρ := [some (.tup (rs.map eR)), some (.mu m), some (.int (ts.length : Int)), some .non, some .non, a5, a6]) (μ := μ)
    (P := fun j ρ' μ' => ∃ h l b5 b6, ρ' = [some (.tup (rs.map eR)), some (.mu m), some (.int (ts.length : Int)), some (oi h), some (oi l), b5, b6] ∧ μ' = μ ∧ HiOk (at3 rs) ts.length ts j h ∧ LoOk (at3 rs) ts.length ts j l)
    ((ts.zipIdx 0).map fun q => DV.tup [.int (q.2 : Int), .int q.1])
    (by rintro i ρ' μ' ⟨h, l, b5, b6, rfl, rfl, _⟩; exact hm)
    ⟨none, none, a5, a6, rfl, rfl, fun x => ⟨fun _ i hi => by omega, fun _ => trivial⟩, fun x => ⟨fun _ i hi => by omega, fun _ => trivial⟩⟩
    (by
      rintro j d ρ' μ' hd ⟨h, l, b5, b6, rfl, rfl, h1, h2⟩
      have hj : j < ts.length := by
        have := (List.getElem?_eq_some_iff.mp hd).1
        simpa using this
      have de : d = DV.tup [.int (j : Int), .int (T ts j)] := by
        rw [List.getElem?_map, List.getElem?_zipIdx, List.getElem?_eq_getElem hj] at hd
        simp at hd
        rw [← hd]
        simp [T, hj]
      subst de
      refine ⟨_, _, _, _, by simp [gTu, gAnd, gNm, gEnd], inner_ok w hk (by omega) (t := T ts j), _, _, _, _, rfl, rfl, h1.next, h2.next⟩)
  refine ⟨h, l, b5, b6, by simpa using h1, by simpa using h2, ?_⟩
  unfold I_loop sForE
  simp only [aCons, aNil, dVar, List.getElem?_cons_succ, List.getElem?_cons_zero, bnd_some, hm, cd]
  exact e

end Lw

namespace Lw
open PySem PySem.Spec L2 Eg
local macro_rules | `(tactic| walk_at "ex") => `(tactic| simp [eFn, startD, esCons, sRet, esIf, sNil, sSet, sAsg, sExp, sPar2, sPar3, dVar, dC, dOp2, dCall, dBlt, dTup, dLst, dLstM, eIf, eAnd, eOr, eNot, eNeg, dIsi, eChain, aCons, aNil, gTu, gAnd, gNm, gSb, gEnd, dSl, runP, sFor, forL_nil, forL_cons, iSeq, iRange1, iRange2, oDiv_ok, oMod_ok, oPow_ok, oSub, oLt, oLe, oGt, oGe, oEq, oNe, oIs, oIsnt, xIx_t, xIx_l, xIx_m, xIx_s, oLen, oInt, oAbs, oMM, oTuple, oDivmod, oInN, flatL, DV.flat, dCallW, permI, oAll, blsD, oMax1, oMin1, maxI, minI, intsD, inV1, inV2, eqV, DV.isN, eqvD, eqvL, shD, shL, xItems_t, xItems_l, xItems_m, xLen_t, xLen_l, xLen_m, xLen_s, atI, ixN, DV.ty, kitT, sl_eq, *])
open Df
variable {μ : List MO}
noncomputable def O_body : DenS := (sCons (sSet 3 (dC .non))
  (sCons (sSet 4 (dC .non))
  (sCons I_loop
  (sCons (sIf (dOp2 oIs (dVar 3) (dC .non))
  (sCons (sSet 3 (dIf (dOp2 oIs (dVar 4) (dC .non)) (dC (.int 0)) (dNeg (dVar 4))))
  sNil)
  sNil)
  (sCons (sExp (dApp (dVar 1) (dVar 3)))
  sNil)))))
theorem obody_ok {n : Nat} {rs : List (List (Option Int))} {μ0 : List MO} (w : wR n rs) (cl : Cl n (at3 rs)) {ts : List Int} (hk : ts.length < n) (hn : n ≤ 21) (s : satPre (at3 rs) ts) {a3 a4 a5 a6 : Option DV} :
    ∃ x b3 b4 b5 b6, (∀ b t, 0 ≤ b → 0 ≤ t → mag b (at3 rs) → (∀ x ∈ ts, -t ≤ x ∧ x ≤ t) → -(t + b) ≤ x ∧ x ≤ t + b) ∧ satPre (at3 rs) (ts ++ [x]) ∧
      O_body [some (.tup (rs.map eR)), some (.mu μ0.length), some (.int (ts.length : Int)), a3, a4, a5, a6] (μ0 ++ [.lst (ts.map DV.int)]) =
        some (.nx [some (.tup (rs.map eR)), some (.mu μ0.length), some (.int (ts.length : Int)), b3, b4, b5, b6] (μ0 ++ [.lst ((ts ++ [x]).map DV.int)])) := by
  have hm : (μ0 ++ [.lst (ts.map DV.int)])[μ0.length]? = some (MO.lst (ts.map DV.int)) := by simp
  obtain ⟨h, l, b5, b6, h1, h2, e⟩ := iloop_ok (μ := μ0 ++ [.lst (ts.map DV.int)]) (m := μ0.length) (a5 := a5) (a6 := a6) w hk hm
  have hz : ts.length < 16777216 := by omega
  refine ⟨newV h l, some (.int (newV h l)), some (oi l), b5, b6, fun b t hb ht m s => newV_mag hb ht m s h1 h2, satPre_app cl hk s h1 h2, ?_⟩
  generalize DV.tup (rs.map eR) = d at *
  unfold O_body
  cases h with
  | some a =>
    rw [show oi (some a) = DV.int a from rfl] at e
    walk_at "ex"
    simp [dApp, dVar, newV, hz, oi, sNil]
  | none =>
    cases l with
    | none =>
      simp only [oi] at e
      walk_at "ex"
      simp [dApp, dVar, newV, hz, oi, sNil]
    | some b =>
      simp only [oi] at e
      walk_at "ex"
      simp [dApp, dVar, newV, hz, oi, sNil, isI]

end Lw

namespace Lw
open PySem PySem.Spec L2 Eg
local macro_rules | `(tactic| walk_at "ex") => `(tactic| simp [eFn, startD, esCons, sRet, esIf, sNil, sSet, sAsg, sExp, sPar2, sPar3, dVar, dC, dOp2, dCall, dBlt, dTup, dLst, dLstM, eIf, eAnd, eOr, eNot, eNeg, dIsi, eChain, aCons, aNil, gTu, gAnd, gNm, gSb, gEnd, dSl, runP, sFor, forL_nil, forL_cons, iSeq, iRange1, iRange2, oDiv_ok, oMod_ok, oPow_ok, oSub, oLt, oLe, oGt, oGe, oEq, oNe, oIs, oIsnt, xIx_t, xIx_l, xIx_m, xIx_s, oLen, oInt, oAbs, oMM, oTuple, oDivmod, oInN, flatL, DV.flat, dCallW, permI, oAll, blsD, oMax1, oMin1, maxI, minI, intsD, inV1, inV2, eqV, DV.isN, eqvD, eqvL, shD, shL, xItems_t, xItems_l, xItems_m, xLen_t, xLen_l, xLen_m, xLen_s, atI, ixN, DV.ty, kitT, sl_eq, *])
open Df
variable {μ : List MO}
noncomputable def O_loop : DenS := sFor (iRangeA (aCons (dC (.int 1)) (aCons (dBlt oLen (aCons (dVar 0) aNil)) aNil))) (gNm 2) O_body
theorem oloop_ok {n : Nat} {rs : List (List (Option Int))} {μ0 : List MO} (w : wR n rs) (cl : Cl n (at3 rs)) (h0 : 0 < n) (hn : n ≤ 21) {a2 a3 a4 a5 a6 : Option DV} :
    ∃ v b2 b3 b4 b5 b6, v.length + 1 = n ∧ satPre (at3 rs) (0 :: v) ∧ (∀ b, 0 ≤ b → mag b (at3 rs) → ∀ x ∈ 0 :: v, -((v.length : Int) * b) ≤ x ∧ x ≤ (v.length : Int) * b) ∧
      O_loop [some (.tup (rs.map eR)), some (.mu μ0.length), a2, a3, a4, a5, a6] (μ0 ++ [.lst [.int 0]]) =
        some (.nx [some (.tup (rs.map eR)), some (.mu μ0.length), b2, b3, b4, b5, b6] (μ0 ++ [.lst ((0 :: v).map DV.int)])) := by
  obtain ⟨ρ2, μ2, e, v, b2, b3, b4, b5, b6, h1, h2, hm, rfl, rfl⟩ := forL_inv (g := gNm 2) (body := O_body) (ρ := [some (.tup (rs.map eR)), some (.mu μ0.length), a2, a3, a4, a5, a6]) (μ := μ0 ++ [.lst [.int 0]])
    (P := fun j ρ' μ' => ∃ (v : List Int) (b2 b3 b4 b5 b6 : Option DV), v.length = j ∧ satPre (at3 rs) (0 :: v) ∧ (∀ b, 0 ≤ b → mag b (at3 rs) → ∀ x ∈ 0 :: v, -((v.length : Int) * b) ≤ x ∧ x ≤ (v.length : Int) * b) ∧ ρ' = [some (.tup (rs.map eR)), some (.mu μ0.length), b2, b3, b4, b5, b6] ∧ μ' = μ0 ++ [.lst ((0 :: v).map DV.int)])
    (rgD 1 (n - 1))
    ⟨[], a2, a3, a4, a5, a6, rfl, fun i j hi hj => by
      simp at hi hj
      subst hi hj
      rw [cl.dg 0 h0]
      exact Int.le_refl 0, fun b hb _ x hx => (by simp at hx; subst hx; simp), rfl, rfl⟩
    (by
      rintro j d ρ' μ' hd ⟨v, b2, b3, b4, b5, b6, h1, h2, hm, rfl, rfl⟩
      have hj : j < n - 1 := by
        have := (List.getElem?_eq_some_iff.mp hd).1
        simpa [rgD] using this
      have de : d = .int (((0 :: v).length : Nat) : Int) := by
        unfold rgD at hd
        rw [List.getElem?_map, List.getElem?_range hj] at hd
        simp at hd
        rw [← hd]
        simp [h1]
        omega
      subst de
      obtain ⟨x, c3, c4, c5, c6, ms, s, e⟩ := obody_ok (μ0 := μ0) (a3 := b3) (a4 := b4) (a5 := b5) (a6 := b6) w cl (ts := 0 :: v) (by simp; omega) hn h2
      exact ⟨_, _, _, _, by simp [gNm], e, v ++ [x], _, _, _, _, _, by simp [h1], s, fun b hb m y hy => by
        have old := hm b hb m
        have new := ms b ((v.length : Int) * b) hb (Int.mul_nonneg (by omega) hb) m old
        have e1 : ((v ++ [x]).length : Int) * b = (v.length : Int) * b + b := by
          rw [List.length_append, List.length_singleton, Int.natCast_add, Int.add_mul]
          simp
        rw [e1]
        have hy : y ∈ 0 :: v ∨ y = x := by
          simp at hy ⊢
          rcases hy with h | h | h
          · exact .inl (.inl h)
          · exact .inl (.inr h)
          · exact .inr h
        rcases hy with hy | hy
        · have := old y hy
          omega
        · subst hy
          exact new, rfl, rfl⟩)
  refine ⟨v, b2, b3, b4, b5, b6, ?_, h2, hm, ?_⟩
  · rw [h1]
    simp [rgD]
    omega
  · unfold O_loop sFor
    have len : oLen [.tup (rs.map eR)] (μ0 ++ [.lst [.int 0]]) = some (.int (n : Int), μ0 ++ [.lst [.int 0]]) := by simp [oLen, xLen_t, w.1]
    have it : iRangeA (aCons (dC (.int 1)) (aCons (dBlt oLen (aCons (dVar 0) aNil)) aNil)) [some (.tup (rs.map eR)), some (.mu μ0.length), a2, a3, a4, a5, a6] (μ0 ++ [.lst [.int 0]]) = some (rgD 1 (n - 1), μ0 ++ [.lst [.int 0]]) := by
      simp [iRangeA, aCons, aNil, dBlt, dVar, dC, len]
    rw [it, bnd_some]
    exact e
theorem values_eq : D_values_in = (sCons (sIf (dOp2 oIs (dVar 0) (dC .non))
  (sCons (sRet (dC .non))
  sNil)
  sNil)
  (sCons (sSet 1 (dLstM (aCons (dC (.int 0)) aNil)))
  (sCons O_loop
  (sFrz 1 (sCons (sRet (dBlt oTuple (aCons (dSl (dVar 1) (some (dC (.int 1))) none) aNil)))
  sNil))))) := rfl
theorem belL_ints (n : Nat) (v : List Int) : DV.belL n (v.map DV.int) = true := by
  induction v with
  | nil => rfl
  | cons a v ih => simp [DV.belL, DV.bel, ih]
theorem values_ok {n : Nat} {rs : List (List (Option Int))} (w : wR n rs) (cl : Cl n (at3 rs)) (h0 : 0 < n) (hn : n ≤ 21) :
    ∃ v : List Int, v.length + 1 = n ∧ satPre (at3 rs) (0 :: v) ∧ (∀ b, 0 ≤ b → mag b (at3 rs) → ∀ x ∈ 0 :: v, -((v.length : Int) * b) ≤ x ∧ x ≤ (v.length : Int) * b) ∧ V_values_in [eG (some rs)] μ = some (.tup (v.map DV.int), μ) := by
  obtain ⟨v, b2, b3, b4, b5, b6, h1, h2, hm, e⟩ := oloop_ok (μ0 := μ) (a2 := none) (a3 := none) (a4 := none) (a5 := none) (a6 := none) w cl h0 hn
  refine ⟨v, h1, h2, hm, ?_⟩
  clear hm
  show V_values_in [.tup (rs.map eR)] μ = _
  unfold V_values_in
  rw [values_eq]
  generalize rs.map eR = d at *
  walk_at "ex"
  have c1 : cutD (DV.int 0 :: List.map DV.int v) (some 1) none = v.map DV.int := by
    simp [cutD, HT.sIx]
    exact List.take_of_length_le (by simp)
  have fz : ∀ (g : DenS), sFrz 1 g [some (.tup d), some (.mu μ.length), b2, b3, b4, b5, b6] (μ ++ [.lst (DV.int 0 :: List.map DV.int v)]) = g [some (.tup d), some (.lst (DV.int 0 :: List.map DV.int v)), b2, b3, b4, b5, b6] (μ ++ [.dead]) := by
    intro g
    simp [sFrz]
  rw [fz]
  walk_at "ex"
  exact cutd_pure (by simp [DV.bel, belL_ints])
theorem values_none : V_values_in [.non] μ = some (.non, μ) := by
  unfold V_values_in
  rw [values_eq]
  walk_at "ex"

end Lw

namespace Lw
open PySem PySem.Spec L2 Eg
local macro_rules | `(tactic| walk_at "ex") => `(tactic| simp [eFn, startD, esCons, sRet, esIf, sNil, sSet, sAsg, sExp, sPar2, sPar3, dVar, dC, dOp2, dCall, dBlt, dTup, dLst, dLstM, eIf, eAnd, eOr, eNot, eNeg, dIsi, eChain, aCons, aNil, gTu, gAnd, gNm, gSb, gEnd, dSl, runP, sFor, forL_nil, forL_cons, iSeq, iRange1, iRange2, oDiv_ok, oMod_ok, oPow_ok, oSub, oLt, oLe, oGt, oGe, oEq, oNe, oIs, oIsnt, xIx_t, xIx_l, xIx_m, xIx_s, oLen, oInt, oAbs, oMM, oTuple, oDivmod, oInN, flatL, DV.flat, dCallW, permI, oAll, blsD, oMax1, oMin1, maxI, minI, intsD, inV1, inV2, eqV, DV.isN, eqvD, eqvL, shD, shL, xItems_t, xItems_l, xItems_m, xLen_t, xLen_l, xLen_m, xLen_s, atI, ixN, DV.ty, kitT, sl_eq, *])
open Df
variable {μ : List MO}
abbrev Rs := List (List (Option Int))
def loM (rs : Rs) : List MO := rs.map fun r => MO.lst (r.map oi)
theorem at_app {A L : List MO} {i : Nat} : (A ++ L)[A.length + i]? = L[i]? := by
  rw [List.getElem?_append_right (by omega)]
  congr 1
  omega
theorem set_app {A L : List MO} {i : Nat} {x : MO} : (A ++ L).set (A.length + i) x = A ++ L.set i x := by
  rw [List.set_append_right _ _ (by omega)]
  congr 2
  omega
theorem thaw_rows : ∀ (rs : Rs) (A : List MO), thawL (A ++ loM rs) ((List.range' A.length rs.length).map DV.mu) = some (rs.map fun r => DV.lst (r.map oi), A ++ List.replicate rs.length .dead)
  | [], A => by simp [loM, thawL]
  | r :: rs, A => by
    have ih := thaw_rows rs (A ++ [.dead])
    have e : (A ++ loM (r :: rs)).set A.length .dead = A ++ [MO.dead] ++ loM rs := by
      have := set_app (A := A) (L := loM (r :: rs)) (i := 0) (x := .dead)
      simp only [Nat.add_zero] at this
      rw [this]
      simp [loM]
    have f : (A ++ loM (r :: rs))[A.length]? = some (MO.lst (r.map oi)) := by
      have := at_app (A := A) (L := loM (r :: rs)) (i := 0)
      simp only [Nat.add_zero] at this
      rw [this]
      rfl
    rw [List.length_cons, List.range'_succ, List.map_cons]
    unfold thawL
    rw [f]
    dsimp only
    rw [e]
    rw [List.length_append, List.length_singleton] at ih
    rw [ih]
    simp [List.replicate_succ]
theorem musL_range (m n : Nat) : musL m n = (List.range' (m + 1) n).map DV.mu := by
  unfold musL
  rw [List.range'_eq_map_range, List.map_map]
  rfl
def setM (rs : Rs) (i j : Nat) (b : Int) : Rs := match rs[i]? with
  | some r => rs.set i (r.set j (minB ((r[j]?).getD none) (some b)))
  | none => rs
theorem wR_setM {n i j : Nat} {b : Int} {rs : Rs} (w : wR n rs) : wR n (setM rs i j b) := by
  unfold setM
  cases h : rs[i]? with
  | none => exact w
  | some r =>
    refine ⟨by simp [w.1], fun q hq => ?_⟩
    rcases List.mem_or_eq_of_mem_set hq with h1 | rfl
    · exact w.2 _ h1
    · simp [w.2 r (List.mem_of_getElem? h)]
theorem at3_setM {n i j : Nat} {b : Int} {rs : Rs} (w : wR n rs) (hi : i < n) (hj : j < n) (p q : Nat) : at3 (setM rs i j b) p q = if p = i ∧ q = j then minB (at3 rs i j) (some b) else at3 rs p q := by
  have hl : i < rs.length := by rw [w.1]; exact hi
  have hr : rs[i]? = some rs[i] := List.getElem?_eq_getElem hl
  have rl := w.2 rs[i] (List.getElem_mem hl)
  unfold setM
  rw [hr]
  simp only [at3, hr]
  by_cases hp : p = i
  · subst hp
    rw [List.getElem?_set_self hl]
    by_cases hq : q = j
    · subst hq
      simp [List.getElem?_set_self (show q < (rs[p]).length by omega)]
    · rw [if_neg (by simp [hq]), hr]
      simp only [List.getElem?_set_ne (Ne.symm hq)]
  · rw [if_neg (by simp [hp]), List.getElem?_set_ne (Ne.symm hp)]
noncomputable def U_body : DenS := (sCons (sAsg (gSb (dOp2 oIx (dVar 2) (dVar 3)) (dVar 4)) (dCall V_lesser (aCons (dOp2 oIx (dOp2 oIx (dVar 2) (dVar 3)) (dVar 4)) (aCons (dVar 5) aNil))))
  sNil)
theorem ubody_ok {n i j : Nat} {b : Int} {rs : Rs} {μ0 : List MO} (w : wR n rs) (hi : i < n) (hj : j < n) {g bs x6 : Option DV} :
    U_body [g, bs, some (.lst (musL μ0.length n)), some (.int (i : Int)), some (.int (j : Int)), some (.int b), x6] (μ0 ++ .dead :: loM rs) =
      some (.nx [g, bs, some (.lst (musL μ0.length n)), some (.int (i : Int)), some (.int (j : Int)), some (.int b), x6] (μ0 ++ .dead :: loM (setM rs i j b))) := by
  have hl : i < rs.length := by rw [w.1]; exact hi
  have hr : rs[i]? = some rs[i] := List.getElem?_eq_getElem hl
  have rl := w.2 rs[i] (List.getElem_mem hl)
  have jl : j < rs[i].length := by omega
  have e1 : atI (musL μ0.length n) (i : Int) = some (.mu (μ0.length + (1 + i))) := atI_nat (by
    unfold musL
    rw [List.getElem?_map, List.getElem?_range hi]
    simp
    omega)
  have e2 : (μ0 ++ .dead :: loM rs)[μ0.length + (1 + i)]? = some (MO.lst (rs[i].map oi)) := by
    rw [at_app, show 1 + i = i + 1 by omega, List.getElem?_cons_succ]
    unfold loM
    rw [List.getElem?_map, hr]
    rfl
  have e3 : atI (rs[i].map oi) (j : Int) = some (oi ((rs[i][j]?).getD none)) := atI_nat (by simp [jl])
  have e4 := lesser_ok (μ := μ0 ++ .dead :: loM rs) ((rs[i][j]?).getD none) (some b)
  rw [show oi (some b) = DV.int b from rfl] at e4
  have e5 : ixN (rs[i].map oi).length (j : Int) = some j := by
    unfold ixN
    simp [jl]
  have e6 : ∀ d : DV, (μ0 ++ .dead :: loM rs).set (μ0.length + (1 + i)) (.lst ((rs[i].map oi).set j d)) = μ0 ++ .dead :: (loM rs).set i (.lst ((rs[i].map oi).set j d)) := fun d => by
    rw [set_app, show 1 + i = i + 1 by omega, List.set_cons_succ]
  have e7 : loM (setM rs i j b) = (loM rs).set i (.lst ((rs[i].map oi).set j (oi (minB ((rs[i][j]?).getD none) (some b))))) := by
    unfold setM loM
    rw [hr]
    simp only [List.map_set]
  rw [e7, ← e6]
  generalize (rs[i][j]?).getD none = o at *
  generalize rs[i].map oi = xs at *
  generalize μ0 ++ .dead :: loM rs = M at *
  generalize musL μ0.length n = ms at *
  unfold U_body
  simp only [esCons, sAsg, dCall, aCons, aNil, dOp2, dVar, List.getElem?_cons_succ, List.getElem?_cons_zero, bnd_some, xIx_l, e1, Option.map_some, xIx_m, xItems_m, e2, e3, e4, gSb, e5]
  rfl

end Lw

namespace Lw
open PySem PySem.Spec L2 Eg
local macro_rules | `(tactic| walk_at "ex") => `(tactic| simp [eFn, startD, esCons, sRet, esIf, sNil, sSet, sAsg, sExp, sPar2, sPar3, dVar, dC, dOp2, dCall, dBlt, dTup, dLst, dLstM, eIf, eAnd, eOr, eNot, eNeg, dIsi, eChain, aCons, aNil, gTu, gAnd, gNm, gSb, gEnd, dSl, runP, sFor, forL_nil, forL_cons, iSeq, iRange1, iRange2, oDiv_ok, oMod_ok, oPow_ok, oSub, oLt, oLe, oGt, oGe, oEq, oNe, oIs, oIsnt, xIx_t, xIx_l, xIx_m, xIx_s, oLen, oInt, oAbs, oMM, oTuple, oDivmod, oInN, flatL, DV.flat, dCallW, permI, oAll, blsD, oMax1, oMin1, maxI, minI, intsD, inV1, inV2, eqV, DV.isN, eqvD, eqvL, shD, shL, xItems_t, xItems_l, xItems_m, xLen_t, xLen_l, xLen_m, xLen_s, atI, ixN, DV.ty, kitT, sl_eq, *])
open Df
variable {μ : List MO}
def tri3 (q : Nat × Nat × Int) : DV := .tup [.int (q.1 : Int), .int (q.2.1 : Int), .int q.2.2]
def guardM (rs : Rs) (bs : List (Nat × Nat × Int)) : Rs := bs.foldl (fun rs q => setM rs q.1 q.2.1 q.2.2) rs
theorem sat_setM {n i j : Nat} {b : Int} {rs : Rs} (w : wR n rs) (hi : i < n) (hj : j < n) {v : Nat → Int} : sat n (at3 (setM rs i j b)) v ↔ sat n (at3 rs) v ∧ v i - v j ≤ b := by
  constructor
  · intro h
    refine ⟨fun p q hp hq => ?_, ?_⟩
    · have := h p q hp hq
      rw [at3_setM w hi hj] at this
      split at this
      · rename_i e
        obtain ⟨rfl, rfl⟩ := e
        exact (upTo_min.mp this).1
      · exact this
    · have := h i j hi hj
      rw [at3_setM w hi hj, if_pos ⟨rfl, rfl⟩] at this
      exact (upTo_min.mp this).2
  · rintro ⟨h, k⟩ p q hp hq
    rw [at3_setM w hi hj]
    split
    · rename_i e
      obtain ⟨rfl, rfl⟩ := e
      exact upTo_min.mpr ⟨h p q hp hq, k⟩
    · exact h p q hp hq
theorem dgle_setM {n i j : Nat} {b : Int} {rs : Rs} (w : wR n rs) (hi : i < n) (hj : j < n) (h : dgle n (at3 rs)) : dgle n (at3 (setM rs i j b)) := by
  intro p hp
  rw [at3_setM w hi hj]
  split
  · rename_i e
    obtain ⟨rfl, rfl⟩ := e
    exact leB.trans (minB_l _ _) (h p hp)
  · exact h p hp
def okB (n : Nat) (bs : List (Nat × Nat × Int)) : Prop := ∀ q ∈ bs, q.1 < n ∧ q.2.1 < n
theorem guard_ok {n : Nat} : ∀ {bs : List (Nat × Nat × Int)} {rs : Rs}, okB n bs → wR n rs → dgle n (at3 rs) → wR n (guardM rs bs) ∧ dgle n (at3 (guardM rs bs)) ∧ ∀ v, sat n (at3 (guardM rs bs)) v ↔ sat n (at3 rs) v ∧ ∀ q ∈ bs, v q.1 - v q.2.1 ≤ q.2.2
  | [], rs, _, w, d => ⟨w, d, fun v => by simp [guardM]⟩
  | q :: bs, rs, o, w, d => by
    obtain ⟨o1, o2⟩ := o q (by simp)
    obtain ⟨h1, h2, h3⟩ := guard_ok (bs := bs) (rs := setM rs q.1 q.2.1 q.2.2) (fun p hp => o p (List.mem_cons_of_mem _ hp)) (wR_setM w) (dgle_setM w o1 o2 d)
    refine ⟨h1, h2, fun v => ?_⟩
    have := h3 v
    rw [sat_setM w o1 o2] at this
    rw [show guardM rs (q :: bs) = guardM (setM rs q.1 q.2.1 q.2.2) bs from rfl, this]
    simp [and_assoc]
theorem gloop_ok {n : Nat} {μ0 : List MO} {g bv x6 : Option DV} : ∀ (bs : List (Nat × Nat × Int)) (rs : Rs) (x3 x4 x5 : Option DV), okB n bs → wR n rs →
    ∃ y3 y4 y5, forL (gTu 3 (gAnd (gNm 3) (gAnd (gNm 4) (gAnd (gNm 5) gEnd)))) U_body (bs.map tri3) [g, bv, some (.lst (musL μ0.length n)), x3, x4, x5, x6] (μ0 ++ .dead :: loM rs) =
      some (.nx [g, bv, some (.lst (musL μ0.length n)), y3, y4, y5, x6] (μ0 ++ .dead :: loM (guardM rs bs)))
  | [], rs, x3, x4, x5, _, _ => ⟨x3, x4, x5, rfl⟩
  | q :: bs, rs, x3, x4, x5, o, w => by
    obtain ⟨o1, o2⟩ := o q (by simp)
    obtain ⟨y3, y4, y5, e⟩ := gloop_ok (μ0 := μ0) (g := g) (bv := bv) (x6 := x6) bs (setM rs q.1 q.2.1 q.2.2) (some (.int (q.1 : Int))) (some (.int (q.2.1 : Int))) (some (.int q.2.2)) (fun p hp => o p (List.mem_cons_of_mem _ hp)) (wR_setM w)
    have u := ubody_ok (μ0 := μ0) (g := g) (bs := bv) (x6 := x6) (b := q.2.2) w o1 o2
    refine ⟨y3, y4, y5, ?_⟩
    rw [List.map_cons, forL_cons]
    have t : gTu 3 (gAnd (gNm 3) (gAnd (gNm 4) (gAnd (gNm 5) gEnd))) (tri3 q) [g, bv, some (.lst (musL μ0.length n)), x3, x4, x5, x6] (μ0 ++ .dead :: loM rs) =
      some ([g, bv, some (.lst (musL μ0.length n)), some (.int (q.1 : Int)), some (.int (q.2.1 : Int)), some (.int q.2.2), x6], μ0 ++ .dead :: loM rs) := by simp [tri3, gTu, gAnd, gNm, gEnd]
    rw [t, bnd_some, u, lpO_nx, e]
    rfl
noncomputable def U_loop : DenS := sFor (iSeq (dVar 1)) (gTu 3 (gAnd (gNm 3) (gAnd (gNm 4) (gAnd (gNm 5) gEnd)))) U_body
theorem guarded_eq : D_gaps_guarded = (sCons (sIf (dOp2 oIs (dVar 0) (dC .non))
  (sCons (sRet (dC .non))
  sNil)
  sNil)
  (sCons (sRows 2 6 (iSeq (dVar 0)))
  (sCons U_loop
  (sThaw 2 (sCons (sRet (dCall V_closing (aCons (dVar 2) aNil)))
  sNil))))) := rfl
theorem rowsD_eR : ∀ (rs : Rs), rowsD (rs.map eR) = some (rs.map fun r => r.map oi)
  | [] => rfl
  | r :: rs => by
    have := rowsD_eR rs
    simp only [List.map_cons, eR, rowsD]
    rw [this]
    rfl
theorem belG (n : Nat) (g : Gp) : DV.bel n (eG g) = true := by
  cases g with
  | none => rfl
  | some rs =>
    show DV.belL n (rs.map eR) = true
    induction rs with
    | nil => rfl
    | cons r rs ih => simp [DV.belL, bel_eR, ih]
theorem rows_step {n : Nat} {rs : Rs} {bv : Option DV} (hn : n ≤ 21) (w : wR n rs) : sRows 2 6 (iSeq (dVar 0)) [some (.tup (rs.map eR)), bv, none, none, none, none, none] μ = some (.nx [some (.tup (rs.map eR)), bv, some (.lst (musL μ.length n)), none, none, none, none] (μ ++ .dead :: loM rs)) := by
  unfold sRows
  have hl : rs.length ≤ 1000 := by rw [w.1]; omega
  simp [iSeq, dVar, rowsD_eR, w.1, loM]
  omega
theorem thaw_step {n : Nat} {rs : Rs} {g bv x3 x4 x5 x6 : Option DV} (w : wR n rs) (k : DenS) : sThaw 2 k [g, bv, some (.lst (musL μ.length n)), x3, x4, x5, x6] (μ ++ .dead :: loM rs) = k [g, bv, some (.lst (rs.map fun r => .lst (r.map oi))), x3, x4, x5, x6] (μ ++ .dead :: List.replicate n .dead) := by
  have t := thaw_rows rs (μ ++ [.dead])
  rw [List.length_append, List.length_singleton, w.1, ← musL_range] at t
  simp only [List.append_assoc, List.singleton_append] at t
  unfold sThaw
  simp only [List.getElem?_cons_succ, List.getElem?_cons_zero, t]
  rfl

theorem bv_loop {n : Nat} {bs : List (Nat × Nat × Int)} {rs : Rs} {d : DV} (o : okB n bs) (w : wR n rs) : ∃ y3 y4 y5, U_loop [some d, some (.lst (bs.map tri3)), some (.lst (musL μ.length n)), none, none, none, none] (μ ++ .dead :: loM rs) =
      some (.nx [some d, some (.lst (bs.map tri3)), some (.lst (musL μ.length n)), y3, y4, y5, none] (μ ++ .dead :: loM (guardM rs bs))) := by
  obtain ⟨y3, y4, y5, e⟩ := gloop_ok (μ0 := μ) (g := some d) (bv := some (.lst (bs.map tri3))) (x6 := none) bs rs none none none o w
  refine ⟨y3, y4, y5, ?_⟩
  unfold U_loop sFor
  simp only [iSeq, dVar, List.getElem?_cons_succ, List.getElem?_cons_zero, bnd_some]
  exact e
def lstQ (rs : Rs) : Rws := rs.map fun r => (true, r)
theorem lstQ_eQ (rs : Rs) : DV.lst (rs.map fun r => .lst (r.map oi)) = eQ true (lstQ rs) := by
  simp [eQ, lstQ, eRk]
theorem lstQ_at (rs : Rs) : at2 (lstQ rs) = at3 rs := by
  rw [← at3_of]
  simp [lstQ, Function.comp_def]
theorem lstQ_w {n : Nat} {rs : Rs} (w : wR n rs) : wQ n (lstQ rs) := ⟨by simp [lstQ, w.1], fun q hq => by
  obtain ⟨r, h1, rfl⟩ := List.mem_map.mp hq
  exact w.2 r h1⟩
theorem guard_run {ds : List DV} {bv cq msd out : DV} {M1 M2 M : List MO} {y3 y4 y5 : Option DV}
    (r1 : sRows 2 6 (iSeq (dVar 0)) [some (.tup ds), some bv, none, none, none, none, none] μ = some (.nx [some (.tup ds), some bv, some msd, none, none, none, none] M1))
    (el : U_loop [some (.tup ds), some bv, some msd, none, none, none, none] M1 = some (.nx [some (.tup ds), some bv, some msd, y3, y4, y5, none] M2))
    (th : ∀ k : DenS, sThaw 2 k [some (.tup ds), some bv, some msd, y3, y4, y5, none] M2 = k [some (.tup ds), some bv, some cq, y3, y4, y5, none] M)
    (e1 : V_closing [cq] M = some (out, M)) (bel : cutd μ out M = some (out, μ)) : V_gaps_guarded [.tup ds, bv] μ = some (out, μ) := by
  have s1 : sIf (dOp2 oIs (dVar 0) (dC .non)) (sCons (sRet (dC .non)) sNil) sNil [some (.tup ds), some bv, none, none, none, none, none] μ = some (.nx [some (.tup ds), some bv, none, none, none, none, none] μ) := rfl
  have s2 : sCons (sRet (dCall V_closing (aCons (dVar 2) aNil))) sNil [some (.tup ds), some bv, some cq, y3, y4, y5, none] M = some (.rt out M) := by
    have : ∀ V : FD, V [cq] M = some (out, M) → sCons (sRet (dCall V (aCons (dVar 2) aNil))) sNil [some (.tup ds), some bv, some cq, y3, y4, y5, none] M = some (.rt out M) := by
      intro V h
      simp only [esCons, sRet, dCall, aCons, aNil, dVar, List.getElem?_cons_succ, List.getElem?_cons_zero, bnd_some, h]
      rfl
    exact this _ e1
  have st : startD ["gaps", "bounds", "rows", "i", "j", "bound", "row"] [DV.tup ds, bv] = [some (.tup ds), some bv, none, none, none, none, none] := rfl
  unfold V_gaps_guarded
  rw [guarded_eq]
  rw [eFn, if_pos (show [DV.tup ds, bv].length = 2 from rfl), st, esCons, s1, sqO_nx, esCons, r1, sqO_nx, esCons, el, sqO_nx, th, s2]
  exact bel
theorem guarded_ok {n : Nat} {rs : Rs} {bs : List (Nat × Nat × Int)} (hn : n ≤ 21) (w : wR n rs) (d : dgle n (at3 rs)) (o : okB n bs) :
    ∃ q : Option Rws, V_gaps_guarded [eG (some rs), .lst (bs.map tri3)] μ = some (eG (outG q), μ) ∧ Fw n (at3 (guardM rs bs)) n (q.map at2) ∧ ∀ qs', q = some qs' → wQ n qs' := by
  obtain ⟨w2, d2, _⟩ := guard_ok o w d
  obtain ⟨q, e1, e2, e3⟩ := closing_ok (μ := μ ++ .dead :: List.replicate n .dead) (t := true) hn (lstQ_w w2) (by rw [lstQ_at]; exact d2)
  rw [lstQ_at] at e2
  refine ⟨q, ?_, e2, e3⟩
  obtain ⟨y3, y4, y5, el⟩ := bv_loop (μ := μ) (d := .tup (rs.map eR)) o w
  have r1 := rows_step (μ := μ) (bv := some (.lst (bs.map tri3))) hn w
  have th := fun k => thaw_step (μ := μ) (rs := guardM rs bs) (g := some (.tup (rs.map eR))) (bv := some (.lst (bs.map tri3))) (x3 := y3) (x4 := y4) (x5 := y5) (x6 := none) w2 k
  rw [lstQ_eQ] at th
  exact guard_run (ds := rs.map eR) r1 el th e1 (cutd_pure (belG μ.length (outG q)))

end Lw

namespace Lw
open PySem PySem.Spec L2 Eg
local macro_rules | `(tactic| walk_at "ex") => `(tactic| simp [eFn, startD, esCons, sRet, esIf, sNil, sSet, sAsg, sExp, sPar2, sPar3, dVar, dC, dOp2, dCall, dBlt, dTup, dLst, dLstM, eIf, eAnd, eOr, eNot, eNeg, dIsi, eChain, aCons, aNil, gTu, gAnd, gNm, gSb, gEnd, dSl, runP, sFor, forL_nil, forL_cons, iSeq, iRange1, iRange2, oDiv_ok, oMod_ok, oPow_ok, oSub, oLt, oLe, oGt, oGe, oEq, oNe, oIs, oIsnt, xIx_t, xIx_l, xIx_m, xIx_s, oLen, oInt, oAbs, oMM, oTuple, oDivmod, oInN, flatL, DV.flat, dCallW, permI, oAll, blsD, oMax1, oMin1, maxI, minI, intsD, inV1, inV2, eqV, DV.isN, eqvD, eqvL, shD, shL, xItems_t, xItems_l, xItems_m, xLen_t, xLen_l, xLen_m, xLen_s, atI, ixN, DV.ty, kitT, sl_eq, *])
open Df
variable {μ : List MO}
/-! ### the law's own closing, in place -/
def putM (rs : Rs) (i j : Nat) (x : Option Int) : Rs := match rs[i]? with
  | some r => rs.set i (r.set j x)
  | none => rs
theorem wR_putM {n i j : Nat} {x : Option Int} {rs : Rs} (w : wR n rs) : wR n (putM rs i j x) := by
  unfold putM
  cases h : rs[i]? with
  | none => exact w
  | some r =>
    refine ⟨by simp [w.1], fun q hq => ?_⟩
    rcases List.mem_or_eq_of_mem_set hq with h1 | rfl
    · exact w.2 _ h1
    · simp [w.2 r (List.mem_of_getElem? h)]
theorem at3_putM {n i j : Nat} {x : Option Int} {rs : Rs} (w : wR n rs) (hi : i < n) (hj : j < n) (p q : Nat) : at3 (putM rs i j x) p q = if p = i ∧ q = j then x else at3 rs p q := by
  have hl : i < rs.length := by rw [w.1]; exact hi
  have hr : rs[i]? = some rs[i] := List.getElem?_eq_getElem hl
  have rl := w.2 rs[i] (List.getElem_mem hl)
  unfold putM
  rw [hr]
  simp only [at3]
  by_cases hp : p = i
  · subst hp
    rw [List.getElem?_set_self hl]
    by_cases hq : q = j
    · subst hq
      simp [List.getElem?_set_self (show q < (rs[p]).length by omega)]
    · rw [if_neg (by simp [hq]), hr]
      simp only [List.getElem?_set_ne (Ne.symm hq)]
  · rw [if_neg (by simp [hp]), List.getElem?_set_ne (Ne.symm hp)]
theorem putM_same {n i j : Nat} {rs : Rs} (w : wR n rs) (hi : i < n) (hj : j < n) : putM rs i j (at3 rs i j) = rs := by
  have hl : i < rs.length := by rw [w.1]; exact hi
  have hr : rs[i]? = some rs[i] := List.getElem?_eq_getElem hl
  have rl := w.2 rs[i] (List.getElem_mem hl)
  have e : at3 rs i j = rs[i][j] := by
    unfold at3
    rw [hr]
    simp [show j < rs[i].length by omega]
  unfold putM
  rw [hr, e]
  simp
theorem at3_out {n : Nat} {rs : Rs} (w : wR n rs) {p q : Nat} (h : n ≤ p ∨ n ≤ q) : at3 rs p q = none := by
  unfold at3
  cases hr : rs[p]? with
  | none => rfl
  | some r =>
    have hp := (List.getElem?_eq_some_iff.mp hr).1
    have rl := w.2 r (List.mem_of_getElem? hr)
    have : n ≤ q := by
      rcases h with h | h
      · rw [w.1] at hp; omega
      · exact h
    simp only
    rw [List.getElem?_eq_none (by omega)]
    rfl
theorem cellM_ok {n i j : Nat} {rs : Rs} {μ0 : List MO} (w : wR n rs) (hi : i < n) (hj : j < n) {ρ : RO} {a b : Nat} (h2 : ρ[2]? = some (some (.lst (musL μ0.length n)))) (ha : ρ[a]? = some (some (.int (i : Int)))) (hb : ρ[b]? = some (some (.int (j : Int)))) :
    dOp2 oIx (dOp2 oIx (dVar 2) (dVar a)) (dVar b) ρ (μ0 ++ .dead :: loM rs) = some (oi (at3 rs i j), μ0 ++ .dead :: loM rs) := by
  have hl : i < rs.length := by rw [w.1]; exact hi
  have hr : rs[i]? = some rs[i] := List.getElem?_eq_getElem hl
  have rl := w.2 rs[i] (List.getElem_mem hl)
  have jl : j < rs[i].length := by omega
  have e1 : atI (musL μ0.length n) (i : Int) = some (.mu (μ0.length + (1 + i))) := atI_nat (by
    unfold musL
    rw [List.getElem?_map, List.getElem?_range hi]
    simp
    omega)
  have e2 : (μ0 ++ .dead :: loM rs)[μ0.length + (1 + i)]? = some (MO.lst (rs[i].map oi)) := by
    rw [at_app, show 1 + i = i + 1 by omega, List.getElem?_cons_succ]
    unfold loM
    rw [List.getElem?_map, hr]
    rfl
  have e3 : atI (rs[i].map oi) (j : Int) = some (oi ((rs[i][j]?).getD none)) := atI_nat (by simp [jl])
  have e4 : at3 rs i j = (rs[i][j]?).getD none := by simp only [at3, hr]
  rw [e4]
  generalize (rs[i][j]?).getD none = o at *
  generalize rs[i].map oi = xs at *
  generalize μ0 ++ .dead :: loM rs = M at *
  generalize musL μ0.length n = ms at *
  simp only [dOp2, dVar, h2, ha, hb, bnd_some, xIx_l, e1, Option.map_some, xIx_m, xItems_m, e2, e3]
theorem setM_ok {n i j : Nat} {rs : Rs} {μ0 : List MO} (x : Option Int) (w : wR n rs) (hi : i < n) (hj : j < n) {ρ : RO} {a b : Nat} (h2 : ρ[2]? = some (some (.lst (musL μ0.length n)))) (ha : ρ[a]? = some (some (.int (i : Int)))) (hb : ρ[b]? = some (some (.int (j : Int)))) :
    gSb (dOp2 oIx (dVar 2) (dVar a)) (dVar b) (oi x) ρ (μ0 ++ .dead :: loM rs) = some (ρ, μ0 ++ .dead :: loM (putM rs i j x)) := by
  have hl : i < rs.length := by rw [w.1]; exact hi
  have hr : rs[i]? = some rs[i] := List.getElem?_eq_getElem hl
  have rl := w.2 rs[i] (List.getElem_mem hl)
  have jl : j < rs[i].length := by omega
  have e1 : atI (musL μ0.length n) (i : Int) = some (.mu (μ0.length + (1 + i))) := atI_nat (by
    unfold musL
    rw [List.getElem?_map, List.getElem?_range hi]
    simp
    omega)
  have e2 : (μ0 ++ .dead :: loM rs)[μ0.length + (1 + i)]? = some (MO.lst (rs[i].map oi)) := by
    rw [at_app, show 1 + i = i + 1 by omega, List.getElem?_cons_succ]
    unfold loM
    rw [List.getElem?_map, hr]
    rfl
  have e5 : ixN (rs[i].map oi).length (j : Int) = some j := by
    unfold ixN
    simp [jl]
  have e6 : ∀ d : DV, (μ0 ++ .dead :: loM rs).set (μ0.length + (1 + i)) (.lst ((rs[i].map oi).set j d)) = μ0 ++ .dead :: (loM rs).set i (.lst ((rs[i].map oi).set j d)) := fun d => by
    rw [set_app, show 1 + i = i + 1 by omega, List.set_cons_succ]
  have e7 : loM (putM rs i j x) = (loM rs).set i (.lst ((rs[i].map oi).set j (oi x))) := by
    unfold putM loM
    rw [hr]
    simp only [List.map_set]
  rw [e7, ← e6]
  generalize rs[i].map oi = xs at *
  generalize μ0 ++ .dead :: loM rs = M at *
  generalize musL μ0.length n = ms at *
  simp only [gSb, dOp2, dVar, h2, ha, hb, bnd_some, xIx_l, e1, Option.map_some, xIx_m, xItems_m, e2, e5]
noncomputable def cellD (a b : Nat) : Den := dOp2 oIx (dOp2 oIx (dVar 2) (dVar a)) (dVar b)
noncomputable def LI_asg : DenS := sAsg (gSb (dOp2 oIx (dVar 2) (dVar 4)) (dVar 6)) (dOp2 oAdd (dVar 5) (dVar 7))
noncomputable def LI_body : DenS := (sCons (sSet 7 (cellD 3 6))
  (sCons (sIf (dAnd (dOp2 oIsnt (dVar 5) (dC .non)) (dOp2 oIsnt (dVar 7) (dC .non)))
  (sCons (sIf (dOr (dOp2 oIs (cellD 4 6) (dC .non)) (dOp2 oLt (dOp2 oAdd (dVar 5) (dVar 7)) (cellD 4 6)))
  (sCons LI_asg
  sNil)
  sNil)
  sNil)
  sNil)
  sNil))
theorem LI_run {a b x : Option Int} {s0 s1 s2 s3 s4 s6 x7 x8 : Option DV} {M M' : List MO}
    (c1 : cellD 3 6 [s0, s1, s2, s3, s4, some (oi a), s6, x7, x8] M = some (oi b, M)) (c2 : cellD 4 6 [s0, s1, s2, s3, s4, some (oi a), s6, some (oi b), x8] M = some (oi x, M))
    (c3 : ∀ p q, a = some p → b = some q → LI_asg [s0, s1, s2, s3, s4, some (oi a), s6, some (oi b), x8] M = some (.nx [s0, s1, s2, s3, s4, some (oi a), s6, some (oi b), x8] M')) :
    LI_body [s0, s1, s2, s3, s4, some (oi a), s6, x7, x8] M = some (.nx [s0, s1, s2, s3, s4, some (oi a), s6, some (oi b), x8] (if minB x (addB a b) = x then M else M')) := by
  unfold LI_body
  cases a with
  | none =>
    rw [if_pos (by cases x <;> rfl)]
    clear c3
    simp only [oi] at *
    walk_at "ex"
  | some a =>
    cases b with
    | none =>
      rw [if_pos (by cases x <;> rfl)]
      clear c3
      simp only [oi] at *
      walk_at "ex"
    | some b =>
      have c3 := c3 a b rfl rfl
      cases x with
      | none =>
        rw [if_neg (by simp [minB, addB])]
        simp only [oi] at *
        walk_at "ex"
      | some x =>
        by_cases h : a + b < x
        · rw [if_neg (by simp [minB, addB]; omega)]
          simp only [oi] at *
          walk_at "ex"
        · rw [if_pos (by simp [minB, addB]; omega)]
          clear c3
          simp only [oi] at *
          walk_at "ex"
theorem libody_ok {n k i j : Nat} {a : Option Int} {rs : Rs} {μ0 : List MO} (w : wR n rs) (hk : k < n) (hi : i < n) (hj : j < n) {s0 s1 x7 x8 : Option DV} :
    ∃ y7, LI_body [s0, s1, some (.lst (musL μ0.length n)), some (.int (k : Int)), some (.int (i : Int)), some (oi a), some (.int (j : Int)), x7, x8] (μ0 ++ .dead :: loM rs) =
      some (.nx [s0, s1, some (.lst (musL μ0.length n)), some (.int (k : Int)), some (.int (i : Int)), some (oi a), some (.int (j : Int)), y7, x8] (μ0 ++ .dead :: loM (putM rs i j (minB (at3 rs i j) (addB a (at3 rs k j)))))) := by
  refine ⟨some (oi (at3 rs k j)), ?_⟩
  have c1 := cellM_ok (μ0 := μ0) w hk hj (ρ := [s0, s1, some (.lst (musL μ0.length n)), some (.int (k : Int)), some (.int (i : Int)), some (oi a), some (.int (j : Int)), x7, x8]) (a := 3) (b := 6) rfl rfl rfl
  have c2 := cellM_ok (μ0 := μ0) w hi hj (ρ := [s0, s1, some (.lst (musL μ0.length n)), some (.int (k : Int)), some (.int (i : Int)), some (oi a), some (.int (j : Int)), some (oi (at3 rs k j)), x8]) (a := 4) (b := 6) rfl rfl rfl
  have c3 := fun x => setM_ok (μ0 := μ0) x w hi hj (ρ := [s0, s1, some (.lst (musL μ0.length n)), some (.int (k : Int)), some (.int (i : Int)), some (oi a), some (.int (j : Int)), some (oi (at3 rs k j)), x8]) (a := 4) (b := 6) rfl rfl rfl
  rw [LI_run (a := a) (b := at3 rs k j) (x := at3 rs i j) (M' := μ0 ++ .dead :: loM (putM rs i j (addB a (at3 rs k j)))) c1 c2 (fun p q e1 e2 => by
    have c3 := c3 (addB a (at3 rs k j))
    rw [e1, e2] at c3 ⊢
    unfold LI_asg
    generalize μ0 ++ .dead :: loM rs = M at *
    generalize μ0 ++ .dead :: loM (putM rs i j (addB (some p) (some q))) = M' at *
    generalize musL μ0.length n = ms at *
    have c4 : ∀ ρ : RO, ρ = [s0, s1, some (.lst ms), some (.int (k : Int)), some (.int (i : Int)), some (oi (some p)), some (.int (j : Int)), some (oi (some q)), x8] → dOp2 oAdd (dVar 5) (dVar 7) ρ M = some (oi (addB (some p) (some q)), M) := fun ρ e => by subst e; rfl
    rw [sAsg, c4 _ rfl, bnd_some, c3, bnd_some])]
  congr 3
  split
  · rename_i h
    rw [h, putM_same w hi hj]
  · rename_i h
    have : minB (at3 rs i j) (addB a (at3 rs k j)) = addB a (at3 rs k j) := by
      revert h
      cases at3 rs i j <;> cases addB a (at3 rs k j) <;> simp [minB] <;> omega
    rw [this]
/-- a row walked -/
theorem liloop_ok {n k i : Nat} {a : Option Int} {μ0 : List MO} (hk : k < n) (hi : i < n) {s0 s1 x8 : Option DV} : ∀ (m j : Nat) (rs : Rs) (x6 x7 : Option DV), j + m = n → wR n rs →
    ∃ rs' y6 y7, wR n rs' ∧ (∀ p q, at3 rs' p q = if p = i ∧ j ≤ q then minB (at3 rs p q) (addB a (at3 rs k q)) else at3 rs p q) ∧
      forL (gNm 6) LI_body ((List.range' j m).map fun i : Nat => DV.int (i : Int)) [s0, s1, some (.lst (musL μ0.length n)), some (.int (k : Int)), some (.int (i : Int)), some (oi a), x6, x7, x8] (μ0 ++ .dead :: loM rs) =
        some (.nx [s0, s1, some (.lst (musL μ0.length n)), some (.int (k : Int)), some (.int (i : Int)), some (oi a), y6, y7, x8] (μ0 ++ .dead :: loM rs'))
  | 0, j, rs, x6, x7, hm, w => by
    refine ⟨rs, x6, x7, w, fun p q => ?_, rfl⟩
    split
    · rename_i h
      rw [at3_out w (.inr (by omega)), at3_out w (.inr (by omega))]
      cases a <;> rfl
    · rfl
  | m + 1, j, rs, x6, x7, hm, w => by
    have hj : j < n := by omega
    obtain ⟨y7, e⟩ := libody_ok (μ0 := μ0) (a := a) (s0 := s0) (s1 := s1) (x7 := x7) (x8 := x8) w hk hi hj
    obtain ⟨rs', z6, z7, w', h1, e2⟩ := liloop_ok (a := a) (μ0 := μ0) hk hi (s0 := s0) (s1 := s1) (x8 := x8) m (j + 1) (putM rs i j (minB (at3 rs i j) (addB a (at3 rs k j)))) (some (.int (j : Int))) y7 (by omega) (wR_putM w)
    refine ⟨rs', z6, z7, w', fun p q => ?_, ?_⟩
    · rw [h1, at3_putM w hi hj, at3_putM w hi hj]
      by_cases hp : p = i
      · subst hp
        by_cases hq : q = j
        · subst hq
          rw [if_neg (by omega), if_pos ⟨rfl, rfl⟩, if_pos ⟨rfl, Nat.le_refl _⟩]
        · by_cases hq2 : j + 1 ≤ q
          · rw [if_pos ⟨rfl, hq2⟩, if_neg (by omega), if_neg (by omega), if_pos (by omega)]
          · rw [if_neg (by omega), if_neg (by omega), if_neg (by omega)]
      · rw [if_neg (by omega), if_neg (by omega), if_neg (by omega)]
    · have t : gNm 6 (DV.int (j : Int)) [s0, s1, some (.lst (musL μ0.length n)), some (.int (k : Int)), some (.int (i : Int)), some (oi a), x6, x7, x8] (μ0 ++ .dead :: loM rs) = some ([s0, s1, some (.lst (musL μ0.length n)), some (.int (k : Int)), some (.int (i : Int)), some (oi a), some (.int (j : Int)), x7, x8], μ0 ++ .dead :: loM rs) := rfl
      rw [List.range'_succ, List.map_cons, forL_cons, t, bnd_some, e, lpO_nx, e2]

end Lw

namespace Lw
open PySem PySem.Spec L2 Eg
local macro_rules | `(tactic| walk_at "ex") => `(tactic| simp [eFn, startD, esCons, sRet, esIf, sNil, sSet, sAsg, sExp, sPar2, sPar3, dVar, dC, dOp2, dCall, dBlt, dTup, dLst, dLstM, eIf, eAnd, eOr, eNot, eNeg, dIsi, eChain, aCons, aNil, gTu, gAnd, gNm, gSb, gEnd, dSl, runP, sFor, forL_nil, forL_cons, iSeq, iRange1, iRange2, oDiv_ok, oMod_ok, oPow_ok, oSub, oLt, oLe, oGt, oGe, oEq, oNe, oIs, oIsnt, xIx_t, xIx_l, xIx_m, xIx_s, oLen, oInt, oAbs, oMM, oTuple, oDivmod, oInN, flatL, DV.flat, dCallW, permI, oAll, blsD, oMax1, oMin1, maxI, minI, intsD, inV1, inV2, eqV, DV.isN, eqvD, eqvL, shD, shL, xItems_t, xItems_l, xItems_m, xLen_t, xLen_l, xLen_m, xLen_s, atI, ixN, DV.ty, kitT, sl_eq, *])
open Df
variable {μ : List MO}
theorem rng_v {ni : Int} {n : Nat} {ρ : RO} (h : ρ[0]? = some (some (.int ni))) (e : (ni + 1).toNat = n) (h0 : 0 ≤ ni) (hn : ni ≤ 20) :
    iRange1 (aCons (dOp2 oAdd (dVar 0) (dC (.int 1))) aNil) ρ μ = some ((List.range' 0 n).map fun i : Nat => DV.int (i : Int), μ) := by
  have h1 : -4000000000000000000 ≤ ni + 1 := by omega
  have h2 : ni + 1 < 4000000000000000000 := by omega
  simp [iRange1, aCons, aNil, dOp2, dC, dVar, h, oAdd, h1, h2, rgD, List.range_eq_range', e]
noncomputable def LI_loop : DenS := sFor (iRange1 (aCons (dOp2 oAdd (dVar 0) (dC (.int 1))) aNil)) (gNm 6) LI_body
noncomputable def LR_body : DenS := (sCons (sSet 5 (cellD 4 3))
  (sCons LI_loop
  (sCons (sIf (dOp2 oLt (cellD 4 4) (dC (.int 0)))
  (sCons (sRet (dC .non))
  sNil)
  sNil)
  sNil)))
noncomputable def LR_loop : DenS := sFor (iRange1 (aCons (dOp2 oAdd (dVar 0) (dC (.int 1))) aNil)) (gNm 4) LR_body
noncomputable def LK_body : DenS := sCons LR_loop sNil
noncomputable def LK_loop : DenS := sFor (iRange1 (aCons (dOp2 oAdd (dVar 0) (dC (.int 1))) aNil)) (gNm 3) LK_body
noncomputable def LK_last : Den := dLc (iSeq (dVar 2)) (bd1 8) dT (dBlt oTuple (aCons (dVar 8) aNil))
theorem lclosing_eq : D_l_closing = (sCons (sIf (dOp2 oIs (dVar 1) (dC .non))
  (sCons (sRet (dC .non))
  sNil)
  sNil)
  (sCons (sRows 2 8 (iSeq (dVar 1)))
  (sCons LK_loop
  (sThaw 2 (sCons (sRet (dBlt oTuple (aCons LK_last aNil)))
  sNil))))) := rfl
theorem LR_run {s1 s2 s3 s4 s5 s6 s7 s8 y6 y7 : Option DV} {s0 : Option DV} {M M' : List MO} {a : Option Int} {x : Int}
    (c1 : cellD 4 3 [s0, s1, s2, s3, s4, s5, s6, s7, s8] M = some (oi a, M))
    (lp : LI_loop [s0, s1, s2, s3, s4, some (oi a), s6, s7, s8] M = some (.nx [s0, s1, s2, s3, s4, some (oi a), y6, y7, s8] M'))
    (c2 : cellD 4 4 [s0, s1, s2, s3, s4, some (oi a), y6, y7, s8] M' = some (.int x, M')) :
    LR_body [s0, s1, s2, s3, s4, s5, s6, s7, s8] M = if x < 0 then some (.rt .non M') else some (.nx [s0, s1, s2, s3, s4, some (oi a), y6, y7, s8] M') := by
  unfold LR_body
  generalize oi a = d at *
  by_cases h : x < 0
  · rw [if_pos h]
    walk_at "ex"
  · rw [if_neg h]
    walk_at "ex"
theorem step_k {n k : Nat} {M : Mt} (d0 : dg0 n M) (hk : k < n) (q : Nat) : Df.step k M k q = M k q := by
  unfold Df.step
  rw [d0 k hk, zero_addB]
  cases M k q <;> simp [minB]
theorem step_dg {n k i : Nat} {M : Mt} (d0 : dg0 n M) (hi : i < n) : ∃ x, Df.step k M i i = some x := by
  unfold Df.step
  rw [d0 i hi]
  cases addB (M i k) (M k i) with
  | none => exact ⟨0, rfl⟩
  | some y => exact ⟨min 0 y, rfl⟩
theorem LI_loop_at {ni : Int} {n : Nat} {s1 s2 s3 s4 s5 s6 s7 s8 : Option DV} (e : (ni + 1).toNat = n) (h0 : 0 ≤ ni) (hn : ni ≤ 20) :
    LI_loop [some (.int ni), s1, s2, s3, s4, s5, s6, s7, s8] μ = forL (gNm 6) LI_body ((List.range' 0 n).map fun i : Nat => DV.int (i : Int)) [some (.int ni), s1, s2, s3, s4, s5, s6, s7, s8] μ := by
  unfold LI_loop
  rw [sFor_at, rng_v (ni := ni) rfl e h0 hn, bnd_some]
theorem LR_loop_at {ni : Int} {n : Nat} {s1 s2 s3 s4 s5 s6 s7 s8 : Option DV} (e : (ni + 1).toNat = n) (h0 : 0 ≤ ni) (hn : ni ≤ 20) :
    LR_loop [some (.int ni), s1, s2, s3, s4, s5, s6, s7, s8] μ = forL (gNm 4) LR_body ((List.range' 0 n).map fun i : Nat => DV.int (i : Int)) [some (.int ni), s1, s2, s3, s4, s5, s6, s7, s8] μ := by
  unfold LR_loop
  rw [sFor_at, rng_v (ni := ni) rfl e h0 hn, bnd_some]
theorem LK_loop_at {ni : Int} {n : Nat} {s1 s2 s3 s4 s5 s6 s7 s8 : Option DV} (e : (ni + 1).toNat = n) (h0 : 0 ≤ ni) (hn : ni ≤ 20) :
    LK_loop [some (.int ni), s1, s2, s3, s4, s5, s6, s7, s8] μ = forL (gNm 3) LK_body ((List.range' 0 n).map fun i : Nat => DV.int (i : Int)) [some (.int ni), s1, s2, s3, s4, s5, s6, s7, s8] μ := by
  unfold LK_loop
  rw [sFor_at, rng_v (ni := ni) rfl e h0 hn, bnd_some]
/-- one row by way of k -/
theorem lrbody_ok {ni : Int} {n k i : Nat} {rs : Rs} {μ0 : List MO} (en : (ni + 1).toNat = n) (h0 : 0 ≤ ni) (hn : ni ≤ 20) (w : wR n rs) (hk : k < n) (hi : i < n) {M : Mt} (d0 : dg0 n M) (inv : ∀ p q, at3 rs p q = if p < i then Df.step k M p q else M p q) {s1 s5 s6 s7 s8 : Option DV} :
    ∃ rs' y5 y6 y7 x, wR n rs' ∧ (∀ p q, at3 rs' p q = if p < i + 1 then Df.step k M p q else M p q) ∧ Df.step k M i i = some x ∧
      LR_body [some (.int ni), s1, some (.lst (musL μ0.length n)), some (.int (k : Int)), some (.int (i : Int)), s5, s6, s7, s8] (μ0 ++ .dead :: loM rs) =
        if x < 0 then some (.rt .non (μ0 ++ .dead :: loM rs')) else some (.nx [some (.int ni), s1, some (.lst (musL μ0.length n)), some (.int (k : Int)), some (.int (i : Int)), y5, y6, y7, s8] (μ0 ++ .dead :: loM rs')) := by
  obtain ⟨x, hx⟩ := step_dg (k := k) d0 hi
  have c1 := cellM_ok (μ0 := μ0) w hi hk (ρ := [some (.int ni), s1, some (.lst (musL μ0.length n)), some (.int (k : Int)), some (.int (i : Int)), s5, s6, s7, s8]) (a := 4) (b := 3) rfl rfl rfl
  obtain ⟨rs', y6, y7, w', h1, e1⟩ := liloop_ok (a := at3 rs i k) (μ0 := μ0) hk hi (s0 := some (.int ni)) (s1 := s1) (x8 := s8) n 0 rs s6 s7 (by omega) w
  have h2 : ∀ p q, at3 rs' p q = if p < i + 1 then Df.step k M p q else M p q := fun p q => by
    rw [h1]
    have a1 : at3 rs i k = M i k := by rw [inv, if_neg (by omega)]
    have a2 : at3 rs k q = M k q := by
      rw [inv]
      split
      · exact step_k d0 hk q
      · rfl
    by_cases hp : p = i
    · subst hp
      rw [if_pos ⟨rfl, by omega⟩, if_pos (by omega), a1, a2, inv, if_neg (by omega)]
      rfl
    · rw [if_neg (by omega), inv]
      by_cases h3 : p < i
      · rw [if_pos h3, if_pos (by omega)]
      · rw [if_neg h3, if_neg (by omega)]
  have c2 := cellM_ok (μ0 := μ0) w' hi hi (ρ := [some (.int ni), s1, some (.lst (musL μ0.length n)), some (.int (k : Int)), some (.int (i : Int)), some (oi (at3 rs i k)), y6, y7, s8]) (a := 4) (b := 4) rfl rfl rfl
  rw [h2 i i, if_pos (by omega), hx] at c2
  refine ⟨rs', _, y6, y7, x, w', h2, hx, LR_run c1 ?_ c2⟩
  rw [LI_loop_at en h0 hn]
  exact e1
theorem lrloop_ok {ni : Int} {n k : Nat} {μ0 : List MO} (en : (ni + 1).toNat = n) (h0 : 0 ≤ ni) (hn : ni ≤ 20) (hk : k < n) {M : Mt} (d0 : dg0 n M) {s1 s8 : Option DV} : ∀ (m i : Nat) (rs : Rs) (x4 s5 s6 s7 : Option DV), i + m = n → wR n rs → (∀ p q, at3 rs p q = if p < i then Df.step k M p q else M p q) →
    ∃ rs' y4 y5 y6 y7, wR n rs' ∧
      (((∀ p, i ≤ p → p < n → leB (some 0) (Df.step k M p p)) ∧ (∀ p q, at3 rs' p q = if p < n then Df.step k M p q else M p q) ∧
        forL (gNm 4) LR_body ((List.range' i m).map fun i : Nat => DV.int (i : Int)) [some (.int ni), s1, some (.lst (musL μ0.length n)), some (.int (k : Int)), x4, s5, s6, s7, s8] (μ0 ++ .dead :: loM rs) =
          some (.nx [some (.int ni), s1, some (.lst (musL μ0.length n)), some (.int (k : Int)), y4, y5, y6, y7, s8] (μ0 ++ .dead :: loM rs'))) ∨
       ((∃ p, p < n ∧ ¬ leB (some 0) (Df.step k M p p)) ∧
        forL (gNm 4) LR_body ((List.range' i m).map fun i : Nat => DV.int (i : Int)) [some (.int ni), s1, some (.lst (musL μ0.length n)), some (.int (k : Int)), x4, s5, s6, s7, s8] (μ0 ++ .dead :: loM rs) = some (.rt .non (μ0 ++ .dead :: loM rs'))))
  | 0, i, rs, x4, s5, s6, s7, hm, w, inv => by
    have : i = n := by omega
    subst this
    exact ⟨rs, x4, s5, s6, s7, w, .inl ⟨fun p h1 h2 => by omega, inv, rfl⟩⟩
  | m + 1, i, rs, x4, s5, s6, s7, hm, w, inv => by
    have hi : i < n := by omega
    obtain ⟨rs', y5, y6, y7, x, w', h2, hx, e⟩ := lrbody_ok (μ0 := μ0) en h0 hn w hk hi d0 inv (s1 := s1) (s5 := s5) (s6 := s6) (s7 := s7) (s8 := s8)
    have t : gNm 4 (DV.int (i : Int)) [some (.int ni), s1, some (.lst (musL μ0.length n)), some (.int (k : Int)), x4, s5, s6, s7, s8] (μ0 ++ .dead :: loM rs) = some ([some (.int ni), s1, some (.lst (musL μ0.length n)), some (.int (k : Int)), some (.int (i : Int)), s5, s6, s7, s8], μ0 ++ .dead :: loM rs) := rfl
    by_cases hx0 : x < 0
    · refine ⟨rs', none, none, none, none, w', .inr ⟨⟨i, hi, fun h => ?_⟩, ?_⟩⟩
      · rw [hx] at h
        have h : (0 : Int) ≤ x := h
        omega
      · rw [List.range'_succ, List.map_cons, forL_cons, t, bnd_some, e, if_pos hx0]
        rfl
    · obtain ⟨rs2, z4, z5, z6, z7, w2, h3⟩ := lrloop_ok (μ0 := μ0) en h0 hn hk d0 (s1 := s1) (s8 := s8) m (i + 1) rs' (some (.int (i : Int))) y5 y6 y7 (by omega) w' h2
      have hd : forL (gNm 4) LR_body ((List.range' i (m + 1)).map fun i : Nat => DV.int (i : Int)) [some (.int ni), s1, some (.lst (musL μ0.length n)), some (.int (k : Int)), x4, s5, s6, s7, s8] (μ0 ++ .dead :: loM rs) =
          forL (gNm 4) LR_body ((List.range' (i + 1) m).map fun i : Nat => DV.int (i : Int)) [some (.int ni), s1, some (.lst (musL μ0.length n)), some (.int (k : Int)), some (.int (i : Int)), y5, y6, y7, s8] (μ0 ++ .dead :: loM rs') := by
        rw [List.range'_succ, List.map_cons, forL_cons, t, bnd_some, e, if_neg hx0]
        rfl
      rw [hd]
      refine ⟨rs2, z4, z5, z6, z7, w2, ?_⟩
      rcases h3 with ⟨a, b, c⟩ | ⟨a, c⟩
      · refine .inl ⟨fun p p1 p2 => ?_, b, c⟩
        by_cases hp : p = i
        · subst hp
          rw [hx]
          show (0 : Int) ≤ x
          omega
        · exact a p (by omega) p2
      · exact .inr ⟨a, c⟩
theorem at3_stepped {n k : Nat} {rs rs' : Rs} (w : wR n rs) (h : ∀ p q, at3 rs' p q = if p < n then Df.step k (at3 rs) p q else at3 rs p q) : at3 rs' = Df.step k (at3 rs) := by
  funext p q
  rw [h]
  split
  · rfl
  · unfold Df.step
    rw [at3_out w (.inl (by omega)), at3_out (p := p) (q := k) w (.inl (by omega))]
    rfl
theorem lkloop_ok {ni : Int} {n : Nat} {D : Mt} {μ0 : List MO} (en : (ni + 1).toNat = n) (h0 : 0 ≤ ni) (hn : ni ≤ 20) {s1 s8 : Option DV} : ∀ (m k : Nat) (rs : Rs) (x3 x4 s5 s6 s7 : Option DV), k + m = n → wR n rs → dg0 n (at3 rs) → Fw n D k (some (at3 rs)) →
    ∃ (o : Option Rs) (rs2 : Rs) (y3 y4 y5 y6 y7 : Option DV), Fw n D n (o.map at3) ∧ (∀ rs', o = some rs' → wR n rs') ∧
      forL (gNm 3) LK_body ((List.range' k m).map fun i : Nat => DV.int (i : Int)) [some (.int ni), s1, some (.lst (musL μ0.length n)), x3, x4, s5, s6, s7, s8] (μ0 ++ .dead :: loM rs) = match o with
        | none => some (.rt .non (μ0 ++ .dead :: loM rs2))
        | some rs' => some (.nx [some (.int ni), s1, some (.lst (musL μ0.length n)), y3, y4, y5, y6, y7, s8] (μ0 ++ .dead :: loM rs'))
  | 0, k, rs, x3, x4, s5, s6, s7, hm, w, d0, f => by
    have : k = n := by omega
    subst this
    exact ⟨some rs, rs, x3, x4, s5, s6, s7, f, fun rs' e => (by cases e; exact w), rfl⟩
  | m + 1, k, rs, x3, x4, s5, s6, s7, hm, w, d0, f => by
    have hk : k < n := by omega
    obtain ⟨rs', y4, y5, y6, y7, w', h⟩ := lrloop_ok (μ0 := μ0) en h0 hn hk d0 (s1 := s1) (s8 := s8) n 0 rs x4 s5 s6 s7 (by omega) w (fun p q => by rw [if_neg (by omega)])
    have t : gNm 3 (DV.int (k : Int)) [some (.int ni), s1, some (.lst (musL μ0.length n)), x3, x4, s5, s6, s7, s8] (μ0 ++ .dead :: loM rs) = some ([some (.int ni), s1, some (.lst (musL μ0.length n)), some (.int (k : Int)), x4, s5, s6, s7, s8], μ0 ++ .dead :: loM rs) := rfl
    have kb : ∀ r, forL (gNm 4) LR_body ((List.range' 0 n).map fun i : Nat => DV.int (i : Int)) [some (.int ni), s1, some (.lst (musL μ0.length n)), some (.int (k : Int)), x4, s5, s6, s7, s8] (μ0 ++ .dead :: loM rs) = some r →
        LK_body [some (.int ni), s1, some (.lst (musL μ0.length n)), some (.int (k : Int)), x4, s5, s6, s7, s8] (μ0 ++ .dead :: loM rs) = some r := fun r h => by
      unfold LK_body
      rw [esCons, LR_loop_at en h0 hn, h]
      cases r <;> rfl
    rcases h with ⟨a, b, c⟩ | ⟨⟨p, p1, p2⟩, c⟩
    · have e2 := at3_stepped w b
      have ok : okD n (Df.step k (at3 rs)) := fun p hp => a p (Nat.zero_le _) hp
      have f' : Fw n D (k + 1) (some (at3 rs')) := by rw [e2]; exact f.go ok
      have d' : dg0 n (at3 rs') := by
        rw [e2]
        exact dg0_of (dgle_step fun i hi => by rw [d0 i hi]; exact leB.refl _) ok
      obtain ⟨o, rs2, z3, z4, z5, z6, z7, g1, g2, g3⟩ := lkloop_ok (μ0 := μ0) en h0 hn (s1 := s1) (s8 := s8) m (k + 1) rs' (some (.int (k : Int))) y4 y5 y6 y7 (by omega) w' d' f'
      refine ⟨o, rs2, z3, z4, z5, z6, z7, g1, g2, ?_⟩
      rw [List.range'_succ, List.map_cons, forL_cons, t, bnd_some, kb _ c, lpO_nx, g3]
    · have f' : Fw n D (k + 1) none := f.bad fun h => p2 (h p p1)
      refine ⟨none, rs', none, none, none, none, none, Fw_nones f' (m := m) (by omega), fun _ e => (by cases e), ?_⟩
      rw [List.range'_succ, List.map_cons, forL_cons, t, bnd_some, kb _ c]
      rfl

end Lw

namespace Lw
open PySem PySem.Spec L2 Eg
local macro_rules | `(tactic| walk_at "ex") => `(tactic| simp [eFn, startD, esCons, sRet, esIf, sNil, sSet, sAsg, sExp, sPar2, sPar3, dVar, dC, dOp2, dCall, dBlt, dTup, dLst, dLstM, eIf, eAnd, eOr, eNot, eNeg, dIsi, eChain, aCons, aNil, gTu, gAnd, gNm, gSb, gEnd, dSl, runP, sFor, forL_nil, forL_cons, iSeq, iRange1, iRange2, oDiv_ok, oMod_ok, oPow_ok, oSub, oLt, oLe, oGt, oGe, oEq, oNe, oIs, oIsnt, xIx_t, xIx_l, xIx_m, xIx_s, oLen, oInt, oAbs, oMM, oTuple, oDivmod, oInN, flatL, DV.flat, dCallW, permI, oAll, blsD, oMax1, oMin1, maxI, minI, intsD, inV1, inV2, eqV, DV.isN, eqvD, eqvL, shD, shL, xItems_t, xItems_l, xItems_m, xLen_t, xLen_l, xLen_m, xLen_s, atI, ixN, DV.ty, kitT, sl_eq, *])
open Df
variable {μ : List MO}
theorem rows9 {n : Nat} {rs : Rs} {g : Option DV} (hn : n ≤ 21) (w : wR n rs) : sRows 2 8 (iSeq (dVar 1)) [g, some (.tup (rs.map eR)), none, none, none, none, none, none, none] μ = some (.nx [g, some (.tup (rs.map eR)), some (.lst (musL μ.length n)), none, none, none, none, none, none] (μ ++ .dead :: loM rs)) := by
  unfold sRows
  have hl : rs.length ≤ 1000 := by rw [w.1]; omega
  simp [iSeq, dVar, rowsD_eR, w.1, loM]
  omega
theorem thaw9 {n : Nat} {rs : Rs} {g bv x3 x4 x5 x6 x7 x8 : Option DV} (w : wR n rs) (k : DenS) : sThaw 2 k [g, bv, some (.lst (musL μ.length n)), x3, x4, x5, x6, x7, x8] (μ ++ .dead :: loM rs) = k [g, bv, some (eQ true (lstQ rs)), x3, x4, x5, x6, x7, x8] (μ ++ .dead :: List.replicate n .dead) := by
  have t := thaw_rows rs (μ ++ [.dead])
  rw [List.length_append, List.length_singleton, w.1, ← musL_range] at t
  simp only [List.append_assoc, List.singleton_append] at t
  unfold sThaw
  simp only [List.getElem?_cons_succ, List.getElem?_cons_zero, t]
  rw [← lstQ_eQ]
  rfl
theorem lklast_ok {n : Nat} {rs : Rs} {s0 s1 x3 x4 x5 x6 x7 x8 : Option DV} (hn : n ≤ 21) (w : wR n rs) : LK_last [s0, s1, some (eQ true (lstQ rs)), x3, x4, x5, x6, x7, x8] μ = some (.lst (rs.map eR), μ) := by
  have := dLc_list (μ := μ) (fi := iSeq (dVar 2)) (bd := bd1 8) (elt := dBlt oTuple (aCons (dVar 8) aNil)) (ρ := [s0, s1, some (eQ true (lstQ rs)), x3, x4, x5, x6, x7, x8]) (lstQ rs) eRk (fun q => eR q.2)
    (by simp [iSeq, dVar, eQ]) (by simp [lstQ, w.1]; omega) (fun q hq => ⟨_, rfl, fun μ' => by
      obtain ⟨b, r⟩ := q
      cases b <;> simp [dBlt, aCons, aNil, dVar, oTuple, eRk, eR, itemsD]⟩) (fun q _ => bel_eR _ _)
  unfold LK_last
  rw [this]
  simp [lstQ, Function.comp_def]
theorem lclosing_none {d : DV} : V_l_closing [d, .non] μ = some (.non, μ) := by
  unfold V_l_closing
  rw [lclosing_eq]
  walk_at "ex"
theorem lc_head {ds : List DV} {s0 msd : DV} {M1 : List MO}
    (r1 : sRows 2 8 (iSeq (dVar 1)) [some s0, some (.tup ds), none, none, none, none, none, none, none] μ = some (.nx [some s0, some (.tup ds), some msd, none, none, none, none, none, none] M1)) :
    V_l_closing [s0, .tup ds] μ = endO μ (sqO (LK_loop [some s0, some (.tup ds), some msd, none, none, none, none, none, none] M1) (sThaw 2 (sCons (sRet (dBlt oTuple (aCons LK_last aNil))) sNil))) := by
  have s1 : sIf (dOp2 oIs (dVar 1) (dC .non)) (sCons (sRet (dC .non)) sNil) sNil [some s0, some (.tup ds), none, none, none, none, none, none, none] μ = some (.nx [some s0, some (.tup ds), none, none, none, none, none, none, none] μ) := rfl
  have st : startD ["_law_size_here", "_law_wide", "_law_sums", "_law_between", "_law_here", "_law_ahead", "_law_there", "_law_behind", "_law_line"] [s0, .tup ds] = [some s0, some (.tup ds), none, none, none, none, none, none, none] := rfl
  unfold V_l_closing
  rw [lclosing_eq]
  rw [eFn, if_pos (show [s0, DV.tup ds].length = 2 from rfl), st, esCons, s1, sqO_nx, esCons, r1, sqO_nx, esCons]
theorem lc_nx {s0 s1 : Option DV} {cq : DV} {ds' : List DV} {x3 x4 x5 x6 x7 x8 : Option DV} {M : List MO} (la : LK_last [s0, s1, some cq, x3, x4, x5, x6, x7, x8] M = some (.lst ds', M)) (hb : cutd μ (.tup ds') M = some (.tup ds', μ)) :
    endO μ (sCons (sRet (dBlt oTuple (aCons LK_last aNil))) sNil [s0, s1, some cq, x3, x4, x5, x6, x7, x8] M) = some (.tup ds', μ) := by
  have : sCons (sRet (dBlt oTuple (aCons LK_last aNil))) sNil [s0, s1, some cq, x3, x4, x5, x6, x7, x8] M = some (.rt (.tup ds') M) := by
    simp only [esCons, sRet, dBlt, aCons, aNil, la, bnd_some, oTuple]
    simp [itemsD]
  rw [this]
  exact hb
/-- what all least sums are -/
def Clo (n : Nat) (rs : Rs) (o : Gp) : Prop := Fw n (at3 rs) n (o.map at3) ∧ ∀ rs', o = some rs' → wR n rs'
theorem lclosing_ok {ni : Int} {n : Nat} {rs : Rs} (en : (ni + 1).toNat = n) (h0 : 0 ≤ ni) (hn : ni ≤ 20) (w : wR n rs) (d0 : dg0 n (at3 rs)) :
    ∃ o : Gp, Clo n rs o ∧ V_l_closing [.int ni, eG (some rs)] μ = some (eG o, μ) := by
  have n21 : n ≤ 21 := by omega
  obtain ⟨o, rs2, y3, y4, y5, y6, y7, f, wo, e⟩ := lkloop_ok (μ0 := μ) en h0 hn (s1 := some (.tup (rs.map eR))) (s8 := none) n 0 rs none none none none none (by omega) w d0 .zero
  refine ⟨o, ⟨f, wo⟩, ?_⟩
  show V_l_closing [.int ni, .tup (rs.map eR)] μ = _
  rw [lc_head (rows9 n21 w), LK_loop_at en h0 hn, e]
  cases o with
  | none => exact cutd_pure (d := .non) (g := .dead :: loM rs2) rfl
  | some r =>
    have w' := wo r rfl
    dsimp only
    rw [sqO_nx, thaw9 w']
    exact lc_nx (lklast_ok n21 w') (cutd_pure (belG μ.length (some r)))
theorem fw_det {n : Nat} {D : Mt} : ∀ {k : Nat} {o1 o2 : Option Mt}, Fw n D k o1 → Fw n D k o2 → o1 = o2
  | 0, _, _, .zero, .zero => rfl
  | k + 1, _, _, .go f1 ok, h2 => by
    cases h2 with
    | go f2 ok2 => cases fw_det f1 f2; rfl
    | bad f2 nok => cases fw_det f1 f2; exact absurd ok nok
    | none f2 => cases fw_det f1 f2
  | k + 1, _, _, .bad f1 nok, h2 => by
    cases h2 with
    | go f2 ok2 => cases fw_det f1 f2; exact absurd ok2 nok
    | bad f2 nok => rfl
    | none f2 => rfl
  | k + 1, _, _, .none f1, h2 => by
    cases h2 with
    | go f2 ok2 => cases fw_det f1 f2
    | bad f2 nok => rfl
    | none f2 => rfl
theorem at3_get {n i j : Nat} {rs : Rs} (w : wR n rs) (hi : i < rs.length) (hj : j < (rs[i]).length) : at3 rs i j = (rs[i])[j] := by
  unfold at3
  rw [List.getElem?_eq_getElem hi]
  simp [hj]
theorem at3_inj {n : Nat} {rs qs : Rs} (w1 : wR n rs) (w2 : wR n qs) (h : at3 rs = at3 qs) : rs = qs := by
  refine List.ext_getElem (by rw [w1.1, w2.1]) fun i h1 h2 => ?_
  have l1 := w1.2 _ (List.getElem_mem h1)
  have l2 := w2.2 _ (List.getElem_mem h2)
  refine List.ext_getElem (by rw [l1, l2]) fun j j1 j2 => ?_
  rw [← at3_get w1 h1 j1, ← at3_get w2 h2 j2, h]
theorem Clo.det {n : Nat} {rs : Rs} {o1 o2 : Gp} (h1 : Clo n rs o1) (h2 : Clo n rs o2) : o1 = o2 := by
  have := fw_det h1.1 h2.1
  cases o1 with
  | none =>
    cases o2 with
    | none => rfl
    | some b => cases this
  | some a =>
    cases o2 with
    | none => cases this
    | some b =>
      simp at this
      rw [at3_inj (h1.2 _ rfl) (h2.2 _ rfl) this]
theorem wR_of {n : Nat} {rs : Rs} (h : wG n (some rs)) : wR (n + 1) rs := ⟨h.1, fun r hr => by
  obtain ⟨i, hi, rfl⟩ := List.mem_iff_getElem.mp hr
  exact (h.2 i _ (List.getElem?_eq_getElem hi)).1⟩
theorem dg0_of_w {n : Nat} {rs : Rs} (h : wG n (some rs)) : dg0 (n + 1) (at3 rs) := fun i hi => by
  have hl : i < rs.length := by rw [h.1]; exact hi
  have := h.2 i _ (List.getElem?_eq_getElem hl)
  unfold at3
  rw [List.getElem?_eq_getElem hl]
  simp only
  rw [this.2]
  rfl
def tupQ (rs : Rs) : Rws := rs.map fun r => (false, r)
theorem tupQ_eQ (rs : Rs) : eG (some rs) = eQ false (tupQ rs) := by
  simp [eQ, tupQ, eRk, eG]
  intro r _
  rfl
theorem tupQ_at (rs : Rs) : at2 (tupQ rs) = at3 rs := by
  rw [← at3_of]
  simp [tupQ, Function.comp_def]
theorem tupQ_w {n : Nat} {rs : Rs} (w : wR n rs) : wQ n (tupQ rs) := ⟨by simp [tupQ, w.1], fun q hq => by
  obtain ⟨r, h1, rfl⟩ := List.mem_map.mp hq
  exact w.2 r h1⟩
theorem outG_at (o : Option Rws) : (outG o).map at3 = o.map at2 := by
  cases o with
  | none => rfl
  | some qs => simp [outG, at3_of]
theorem outG_w {n : Nat} {o : Option Rws} (h : ∀ qs', o = some qs' → wQ n qs') : ∀ rs', outG o = some rs' → wR n rs' := by
  intro rs' e
  cases o with
  | none => cases e
  | some qs =>
    simp [outG] at e
    have w := h qs rfl
    rw [← e]
    exact ⟨by simp [w.1], fun r hr => by
      obtain ⟨q, h1, rfl⟩ := List.mem_map.mp hr
      exact w.2 q h1⟩
/-- the program's own -/
theorem pclosing_ok {n : Nat} {rs : Rs} (hn : n ≤ 21) (w : wR n rs) (dg : dgle n (at3 rs)) :
    ∃ o : Gp, Clo n rs o ∧ V_closing [eG (some rs)] μ = some (eG o, μ) := by
  obtain ⟨o, e1, e2, e3⟩ := closing_ok (μ := μ) (t := false) hn (tupQ_w w) (by rw [tupQ_at]; exact dg)
  rw [tupQ_at, ← outG_at] at e2
  exact ⟨outG o, ⟨e2, outG_w e3⟩, by rw [tupQ_eQ]; exact e1⟩
theorem pguarded_ok {n : Nat} {rs : Rs} {bs : List (Nat × Nat × Int)} (hn : n ≤ 21) (w : wR n rs) (d : dgle n (at3 rs)) (o : okB n bs) :
    ∃ q : Gp, Clo n (guardM rs bs) q ∧ V_gaps_guarded [eG (some rs), .lst (bs.map tri3)] μ = some (eG q, μ) := by
  obtain ⟨q, e1, e2, e3⟩ := guarded_ok (μ := μ) hn w d o
  rw [← outG_at] at e2
  exact ⟨outG q, ⟨e2, outG_w e3⟩, e1⟩
theorem guarded_none {d : DV} : V_gaps_guarded [.non, d] μ = some (.non, μ) := by
  unfold V_gaps_guarded
  rw [guarded_eq]
  walk_at "ex"
theorem dgle_of0 {n : Nat} {D : Mt} (d : dg0 n D) : dgle n D := fun i hi => by rw [d i hi]; exact leB.refl _

end Lw

namespace Lw
open PySem PySem.Spec L2 Eg
local macro_rules | `(tactic| walk_at "ex") => `(tactic| simp [eFn, startD, esCons, sRet, esIf, sNil, sSet, sAsg, sExp, sPar2, sPar3, dVar, dC, dOp2, dCall, dBlt, dTup, dLst, dLstM, eIf, eAnd, eOr, eNot, eNeg, dIsi, eChain, aCons, aNil, gTu, gAnd, gNm, gSb, gEnd, dSl, runP, sFor, forL_nil, forL_cons, iSeq, iRange1, iRange2, oDiv_ok, oMod_ok, oPow_ok, oSub, oLt, oLe, oGt, oGe, oEq, oNe, oIs, oIsnt, xIx_t, xIx_l, xIx_m, xIx_s, oLen, oInt, oAbs, oMM, oTuple, oDivmod, oInN, flatL, DV.flat, dCallW, permI, oAll, blsD, oMax1, oMin1, maxI, minI, intsD, inV1, inV2, eqV, DV.isN, eqvD, eqvL, shD, shL, xItems_t, xItems_l, xItems_m, xLen_t, xLen_l, xLen_m, xLen_s, atI, ixN, DV.ty, kitT, sl_eq, *])
open Df
variable {μ : List MO}
/-! ### draws beside objects -/
theorem Sr.app {k : Nat} {μ0 : List MO} {n : Nat} (B : List MO) (w : Sr k μ0 n μ) : Sr k (μ0 ++ B) n (μ ++ B) := by
  obtain ⟨hk, a, b, c, e, h⟩ := w
  exact ⟨by simp; omega, a, b, c, by rw [e, List.set_append_left _ _ hk], h⟩
theorem Sr.unapp {k : Nat} {μ0 : List MO} {n : Nat} {B M : List MO} (hk : k < μ0.length) (w : Sr k (μ0 ++ B) n M) : ∃ μ', M = μ' ++ B ∧ Sr k μ0 n μ' := by
  obtain ⟨_, a, b, c, e, h⟩ := w
  exact ⟨μ0.set k (.lst [.int a, .int b, .int c]), by rw [e, List.set_append_left _ _ hk], hk, a, b, c, rfl, h⟩
theorem Sr.cut {k : Nat} {μ0 μ' g : List MO} {n m : Nat} {d : DV} (w : Sr k μ0 n μ) (w' : Sr k μ0 m μ') (hb : DV.bel μ0.length d = true) : cutd μ d (μ' ++ g) = some (d, μ') := by
  obtain ⟨hk, a, b, c, rfl, _⟩ := w
  obtain ⟨_, a', b', c', rfl, _⟩ := w'
  exact cutd_beside hb rfl
theorem draw_at {k : Nat} {μ0 : List MO} {n : Nat} (B : List MO) (w : Sr k μ0 n μ) (hn : n < 1152921504606846976) {m : Int} (h0 : 0 < m) (h1 : m < 4000000000000000000) :
    ∃ r μ', V_l_draw [.mu k, .int m] (μ ++ B) = some (.int r, μ' ++ B) ∧ 0 ≤ r ∧ r < m ∧ Sr k μ0 (n + 1) μ' := by
  obtain ⟨r, M, e, r0, r1, w'⟩ := draw_ok (w.app B) hn h0 h1
  obtain ⟨μ', rfl, w2⟩ := w'.unapp w.1
  exact ⟨r, μ', e, r0, r1, w2⟩
theorem pick_at {k : Nat} {μ0 : List MO} {n : Nat} (B : List MO) (w : Sr k μ0 n μ) (hn : n < 1152921504606846976) {ds : List DV} (h0 : 0 < ds.length) (h1 : ds.length < 1073741824) :
    ∃ d μ', V_l_pick [.mu k, .tup ds] (μ ++ B) = some (d, μ' ++ B) ∧ d ∈ ds ∧ Sr k μ0 (n + 1) μ' := by
  obtain ⟨r, M, e, hd, w'⟩ := pick_ok (w.app B) hn h0 h1
  obtain ⟨μ', rfl, w2⟩ := w'.unapp w.1
  exact ⟨r, μ', e, hd, w2⟩
theorem dApp_at {A A' B : List MO} {xs : List DV} {d : DV} {fa : Den} {ρ : RO} {s : Nat} (hs : ρ[s]? = some (some (.mu A.length))) (ha : fa ρ (A ++ .lst xs :: B) = some (d, A' ++ .lst xs :: B)) (hl : A'.length = A.length) (hz : xs.length < 16777216) :
    dApp (dVar s) fa ρ (A ++ .lst xs :: B) = some (.non, A' ++ .lst (xs ++ [d]) :: B) := by
  have e1 : (A ++ .lst xs :: B)[A.length]? = some (.lst xs) := by simp
  have e2 : (A' ++ .lst xs :: B)[A.length]? = some (.lst xs) := by rw [← hl]; simp
  have e3 : (A' ++ .lst xs :: B).set A.length (.lst (xs ++ [d])) = A' ++ .lst (xs ++ [d]) :: B := by rw [← hl]; simp
  unfold dApp
  simp only [dVar, hs, bnd_some, e1, ha, e2, if_pos hz, e3]
theorem size_ok {k : Nat} {μ0 : List MO} {N : Nat} (w : Sr k μ0 N μ) (hN : N < 1000000000000000000) : ∃ (n : Nat) (μ' : List MO), V_l_size [.mu k] μ = some (.int (n : Int), μ') ∧ n ≤ 20 ∧ Sr k μ0 (N + 2) μ' := by
  obtain ⟨r, μ1, e1, r0, r1, w1⟩ := draw_ok w (by omega) (m := 24) (by omega) (by omega)
  have hl : μ1.length = μ.length := by rw [w1.len, w.len]
  by_cases h : r = 23
  · obtain ⟨q, μ2, e2, q0, q1, w2⟩ := draw_ok w1 (by omega) (m := 15) (by omega) (by omega)
    have hl : μ2.length = μ.length := by rw [w2.len, w.len]
    obtain ⟨n, rfl⟩ : ∃ n : Nat, q = n := ⟨q.toNat, by omega⟩
    refine ⟨6 + n, μ2, ?_, by omega, w2⟩
    unfold V_l_size D_l_size
    subst h
    walk_at "ex"
    exact cutd_len hl
  · obtain ⟨d, μ2, e2, hd, w2⟩ := pick_ok w1 (by omega) (ds := [.int 2, .int 3, .int 1, .int 2, .int 3, .int 0, .int 4, .int 5]) (by decide) (by decide)
    have hl : μ2.length = μ.length := by rw [w2.len, w.len]
    obtain ⟨n, hn, rfl⟩ : ∃ n : Nat, n ≤ 20 ∧ d = .int (n : Int) := by
      simp only [List.mem_cons, List.not_mem_nil, or_false] at hd
      rcases hd with rfl | rfl | rfl | rfl | rfl | rfl | rfl | rfl
      · exact ⟨2, by omega, rfl⟩
      · exact ⟨3, by omega, rfl⟩
      · exact ⟨1, by omega, rfl⟩
      · exact ⟨2, by omega, rfl⟩
      · exact ⟨3, by omega, rfl⟩
      · exact ⟨0, by omega, rfl⟩
      · exact ⟨4, by omega, rfl⟩
      · exact ⟨5, by omega, rfl⟩
    refine ⟨n, μ2, ?_, hn, w2⟩
    unfold V_l_size D_l_size
    walk_at "ex"
    exact cutd_len hl
/-! ### spots -/
def smalls (b : Int) (v : List Int) : Prop := ∀ x ∈ v, -b ≤ x ∧ x ≤ b
noncomputable def S_body : DenS := (sCons (sSet 4 (dOp2 oEq (dCall V_l_draw (aCons (dVar 0) (aCons (dC (.int 16)) aNil))) (dC (.int 15))))
  (sCons (sExp (dApp (dVar 2) (dIf (dVar 4) (dOp2 oSub (dCall V_l_draw (aCons (dVar 0) (aCons (dC (.int 2000003)) aNil))) (dC (.int 1000001))) (dOp2 oSub (dCall V_l_draw (aCons (dVar 0) (aCons (dC (.int 9)) aNil))) (dC (.int 3))))))
  sNil))
theorem sbody_ok {k : Nat} {μ0 M : List MO} {N : Nat} (w : Sr k μ0 N M) (hN : N < 1000000000000000000) {v : List Int} (hz : v.length < 16777216) {s1 x3 x4 : Option DV} :
    ∃ x M' y4, -1000001 ≤ x ∧ x ≤ 1000001 ∧ Sr k μ0 (N + 2) M' ∧
      S_body [some (.mu k), s1, some (.mu M.length), x3, x4] (M ++ [.lst (v.map DV.int)]) = some (.nx [some (.mu k), s1, some (.mu M'.length), x3, y4] (M' ++ [.lst ((v ++ [x]).map DV.int)])) := by
  obtain ⟨r, M1, e1, r0, r1, w1⟩ := draw_at [.lst (v.map DV.int)] w (by omega) (m := 16) (by omega) (by omega)
  have l1 : M1.length = M.length := by rw [w1.len, w.len]
  by_cases h : r = 15
  · obtain ⟨q, M2, e2, q0, q1, w2⟩ := draw_at [.lst (v.map DV.int)] w1 (by omega) (m := 2000003) (by omega) (by omega)
    have l2 : M2.length = M1.length := by rw [w2.len, w1.len]
    have ap := dApp_at (A := M1) (A' := M2) (B := []) (xs := v.map DV.int) (d := .int (q - 1000001)) (s := 2) (ρ := [some (.mu k), s1, some (.mu M1.length), x3, some (.bl true)]) (fa := dIf (dVar 4) (dOp2 oSub (dCall V_l_draw (aCons (dVar 0) (aCons (dC (.int 2000003)) aNil))) (dC (.int 1000001))) (dOp2 oSub (dCall V_l_draw (aCons (dVar 0) (aCons (dC (.int 9)) aNil))) (dC (.int 3)))) rfl (by walk_at "ex") l2 (by simpa using hz)
    refine ⟨q - 1000001, M2, some (.bl true), by omega, by omega, w2, ?_⟩
    rw [l1] at ap
    rw [l2, l1]
    unfold S_body
    walk_at "ex"
  · obtain ⟨q, M2, e2, q0, q1, w2⟩ := draw_at [.lst (v.map DV.int)] w1 (by omega) (m := 9) (by omega) (by omega)
    have l2 : M2.length = M1.length := by rw [w2.len, w1.len]
    have ap := dApp_at (A := M1) (A' := M2) (B := []) (xs := v.map DV.int) (d := .int (q - 3)) (s := 2) (ρ := [some (.mu k), s1, some (.mu M1.length), x3, some (.bl false)]) (fa := dIf (dVar 4) (dOp2 oSub (dCall V_l_draw (aCons (dVar 0) (aCons (dC (.int 2000003)) aNil))) (dC (.int 1000001))) (dOp2 oSub (dCall V_l_draw (aCons (dVar 0) (aCons (dC (.int 9)) aNil))) (dC (.int 3)))) rfl (by walk_at "ex") l2 (by simpa using hz)
    refine ⟨q - 3, M2, some (.bl false), by omega, by omega, w2, ?_⟩
    rw [l1] at ap
    rw [l2, l1]
    unfold S_body
    walk_at "ex"
theorem sloop_ok {k : Nat} {μ0 : List MO} {s1 : Option DV} : ∀ (m j N : Nat) (v : List Int) (M : List MO) (x3 x4 : Option DV), Sr k μ0 N M → N + 2 * m < 1000000000000000000 → v.length + m < 16777216 → smalls 1000001 v →
    ∃ v' M' y3 y4, v'.length = v.length + m ∧ smalls 1000001 v' ∧ Sr k μ0 (N + 2 * m) M' ∧
      forL (gNm 3) S_body ((List.range' j m).map fun i : Nat => DV.int (i : Int)) [some (.mu k), s1, some (.mu M.length), x3, x4] (M ++ [.lst (v.map DV.int)]) = some (.nx [some (.mu k), s1, some (.mu M'.length), y3, y4] (M' ++ [.lst (v'.map DV.int)]))
  | 0, j, N, v, M, x3, x4, w, hN, hz, hv => ⟨v, M, x3, x4, rfl, hv, w, rfl⟩
  | m + 1, j, N, v, M, x3, x4, w, hN, hz, hv => by
    obtain ⟨x, M1, y4, h1, h2, w1, e⟩ := sbody_ok w (by omega) (v := v) (by omega) (s1 := s1) (x3 := some (.int (j : Int))) (x4 := x4)
    obtain ⟨v', M', z3, z4, g1, g2, g3, g4⟩ := sloop_ok (s1 := s1) m (j + 1) (N + 2) (v ++ [x]) M1 (some (.int (j : Int))) y4 w1 (by omega) (by simp; omega) (fun y hy => by
      rcases List.mem_append.mp hy with hy | hy
      · exact hv y hy
      · simp at hy; subst hy; exact ⟨h1, h2⟩)
    refine ⟨v', M', z3, z4, by rw [g1]; simp; omega, g2, by rw [show N + 2 * (m + 1) = N + 2 + 2 * m by omega]; exact g3, ?_⟩
    have t : gNm 3 (DV.int (j : Int)) [some (.mu k), s1, some (.mu M.length), x3, x4] (M ++ [.lst (v.map DV.int)]) = some ([some (.mu k), s1, some (.mu M.length), some (.int (j : Int)), x4], M ++ [.lst (v.map DV.int)]) := rfl
    rw [List.range'_succ, List.map_cons, forL_cons, t, bnd_some, e, lpO_nx, g4]
noncomputable def S_loop : DenS := sFor (iRange1 (aCons (dVar 1) aNil)) (gNm 3) S_body
theorem spots_eq : D_l_spots = (sCons (sSet 2 (dLstM aNil))
  (sCons S_loop
  (sCons (sRet (dBlt oTuple (aCons (dVar 2) aNil)))
  sNil))) := rfl
theorem S_loop_at {ni : Int} {n : Nat} {s0 s2 s3 s4 : Option DV} (e : ni.toNat = n) (h0 : 0 ≤ ni) (hn : ni ≤ 20) :
    S_loop [s0, some (.int ni), s2, s3, s4] μ = forL (gNm 3) S_body ((List.range' 0 n).map fun i : Nat => DV.int (i : Int)) [s0, some (.int ni), s2, s3, s4] μ := by
  have h1 : -4000000000000000000 ≤ ni := by omega
  have h2 : ni < 4000000000000000000 := by omega
  have it : iRange1 (aCons (dVar 1) aNil) [s0, some (.int ni), s2, s3, s4] μ = some ((List.range' 0 n).map fun i : Nat => DV.int (i : Int), μ) := by
    simp [iRange1, aCons, aNil, dVar, h1, h2, rgD, List.range_eq_range', e]
  unfold S_loop
  rw [sFor_at, it, bnd_some]
theorem spots_ok {k : Nat} {μ0 : List MO} {N : Nat} {ni : Int} {n : Nat} (w : Sr k μ0 N μ) (hN : N < 100000000000000000) (e : ni.toNat = n) (h0 : 0 ≤ ni) (hn : ni ≤ 20) :
    ∃ v μ', V_l_spots [.mu k, .int ni] μ = some (.tup (v.map DV.int), μ') ∧ v.length = n ∧ smalls 1000001 v ∧ Sr k μ0 (N + 2 * n) μ' := by
  obtain ⟨v, M', y3, y4, g1, g2, g3, g4⟩ := sloop_ok (s1 := some (.int ni)) n 0 N [] μ none none w (by omega) (by simp; omega) (fun _ h => by simp at h)
  rw [← S_loop_at e h0 hn] at g4
  refine ⟨v, M', ?_, by simpa using g1, g2, g3⟩
  have cut := w.cut g3 (d := .tup (v.map DV.int)) (g := [.lst (v.map DV.int)]) (by simp [DV.bel, belL_ints])
  have tl : oTuple [.mu M'.length] (M' ++ [.lst (v.map DV.int)]) = some (.tup (v.map DV.int), M' ++ [.lst (v.map DV.int)]) := by simp [oTuple, itemsD]
  generalize v.map DV.int = ds at *
  rw [List.map_nil] at g4
  unfold V_l_spots
  rw [spots_eq]
  walk_at "ex"

end Lw

namespace Lw
open PySem PySem.Spec L2 Eg
local macro_rules | `(tactic| walk_at "ex") => `(tactic| simp [eFn, startD, esCons, sRet, esIf, sNil, sSet, sAsg, sExp, sPar2, sPar3, dVar, dC, dOp2, dCall, dBlt, dTup, dLst, dLstM, eIf, eAnd, eOr, eNot, eNeg, dIsi, eChain, aCons, aNil, gTu, gAnd, gNm, gSb, gEnd, dSl, runP, sFor, forL_nil, forL_cons, iSeq, iRange1, iRange2, oDiv_ok, oMod_ok, oPow_ok, oSub, oLt, oLe, oGt, oGe, oEq, oNe, oIs, oIsnt, xIx_t, xIx_l, xIx_m, xIx_s, oLen, oInt, oAbs, oMM, oTuple, oDivmod, oInN, flatL, DV.flat, dCallW, permI, oAll, blsD, oMax1, oMin1, maxI, minI, intsD, inV1, inV2, eqV, DV.isN, eqvD, eqvL, shD, shL, xItems_t, xItems_l, xItems_m, xLen_t, xLen_l, xLen_m, xLen_s, atI, ixN, DV.ty, kitT, sl_eq, *])
open Df
variable {μ : List MO}
theorem mem8 {xs : List DV} {d : DV} (hd : d ∈ xs) (h : ∀ y ∈ xs, ∃ x : Int, -6 ≤ x ∧ x ≤ 6 ∧ y = .int x) : ∃ x : Int, -6 ≤ x ∧ x ≤ 6 ∧ d = .int x := h d hd
theorem bound_ok {k : Nat} {μ0 : List MO} {N : Nat} (B : List MO) (w : Sr k μ0 N μ) (hN : N < 100000000000000000) (way share gap : Int) :
    ∃ (o : Option Int) (μ' : List MO), V_l_bound [.mu k, .int way, .int share, .int gap] (μ ++ B) = some (oi o, μ' ++ B) ∧ (∀ x, o = some x → ∃ y, -6 ≤ y ∧ y ≤ 6 ∧ (x = gap + y ∨ x = y)) ∧ Sr k μ0 (N + 2) μ' := by
  obtain ⟨r, μ1, e1, r0, r1, w1⟩ := draw_at B w (by omega) (m := 4) (by omega) (by omega)
  have l1 : (μ1 ++ B).length = (μ ++ B).length := by rw [List.length_append, List.length_append, w1.len, w.len]
  by_cases h1 : r < share
  · refine ⟨none, μ1, ?_, fun x e => (by cases e), w1.mono (by omega)⟩
    unfold V_l_bound D_l_bound
    walk_at "ex"
    simp only [oi]
    exact cutd_len l1
  · by_cases h2 : way < 8
    · obtain ⟨d, μ2, e2, hd, w2⟩ := pick_at B w1 (by omega) (ds := [.int 0, .int 1, .int 0, .int 2, .int 5, .int 0, .int 3, .int 1]) (by decide) (by decide)
      have l2 : (μ2 ++ B).length = (μ ++ B).length := by rw [List.length_append, List.length_append, w2.len, w.len]
      obtain ⟨x, x0, x1, rfl⟩ := mem8 hd (by
        intro y hy
        simp only [List.mem_cons, List.not_mem_nil, or_false] at hy
        rcases hy with rfl | rfl | rfl | rfl | rfl | rfl | rfl | rfl <;> exact ⟨_, by decide, by decide, rfl⟩)
      refine ⟨some (gap + x), μ2, ?_, fun y e => ⟨x, x0, x1, .inl (by cases e; rfl)⟩, w2⟩
      unfold V_l_bound D_l_bound
      walk_at "ex"
      simp only [oi]
      exact cutd_len l2
    · by_cases h3 : way < 11
      · obtain ⟨d, μ2, e2, hd, w2⟩ := pick_at B w1 (by omega) (ds := [.int 0, .int 1, .int 3, .int 0, .int (-1), .int 2, .int 0, .int 1]) (by decide) (by decide)
        have l2 : (μ2 ++ B).length = (μ ++ B).length := by rw [List.length_append, List.length_append, w2.len, w.len]
        obtain ⟨x, x0, x1, rfl⟩ := mem8 hd (by
          intro y hy
          simp only [List.mem_cons, List.not_mem_nil, or_false] at hy
          rcases hy with rfl | rfl | rfl | rfl | rfl | rfl | rfl | rfl <;> exact ⟨_, by decide, by decide, rfl⟩)
        refine ⟨some (gap + x), μ2, ?_, fun y e => ⟨x, x0, x1, .inl (by cases e; rfl)⟩, w2⟩
        unfold V_l_bound D_l_bound
        walk_at "ex"
        simp only [oi]
        exact cutd_len l2
      · obtain ⟨q, μ2, e2, q0, q1, w2⟩ := draw_at B w1 (by omega) (m := 11) (by omega) (by omega)
        have l2 : (μ2 ++ B).length = (μ ++ B).length := by rw [List.length_append, List.length_append, w2.len, w.len]
        refine ⟨some (q - 4), μ2, ?_, fun y e => ⟨q - 4, by omega, by omega, .inr (by cases e; rfl)⟩, w2⟩
        unfold V_l_bound D_l_bound
        walk_at "ex"
        simp only [oi]
        exact cutd_len l2
/-! ### drawn differences -/
noncomputable def A_gap : Den := dOp2 oSub (dOp2 oIx (dVar 5) (dVar 7)) (dOp2 oIx (dVar 5) (dVar 9))
noncomputable def A_elt : Den := dIf (dOp2 oEq (dVar 7) (dVar 9)) (dC (.int 0)) (dCall V_l_bound (aCons (dVar 0) (aCons (dVar 3) (aCons (dVar 4) (aCons A_gap aNil)))))
noncomputable def A_body : DenS := (sCons (sExp (dApp (dVar 8) A_elt))
  sNil)
def smO (b : Int) (r : List (Option Int)) : Prop := ∀ x, some x ∈ r → -b ≤ x ∧ x ≤ b
theorem aelt_ok {k : Nat} {μ0 M : List MO} {N : Nat} (B : List MO) (w : Sr k μ0 N M) (hN : N < 100000000000000000) {f : List Int} (hf : smalls 1000001 f) {h t : Nat} (hh : h < f.length) (ht : t < f.length) {way share : Int} {s1 s2 s6 s8 : Option DV} :
    ∃ (o : Option Int) (M' : List MO), A_elt [some (.mu k), s1, s2, some (.int way), some (.int share), some (.tup (f.map DV.int)), s6, some (.int (h : Int)), s8, some (.int (t : Int))] (M ++ B) = some (oi o, M' ++ B) ∧ (h = t → o = some 0) ∧ (∀ x, o = some x → -2000008 ≤ x ∧ x ≤ 2000008) ∧ Sr k μ0 (N + 2) M' := by
  have a1 : atI (f.map DV.int) (h : Int) = some (.int f[h]) := atI_nat (by simp [hh])
  have a2 : atI (f.map DV.int) (t : Int) = some (.int f[t]) := atI_nat (by simp [ht])
  have b1 := hf _ (List.getElem_mem hh)
  have b2 := hf _ (List.getElem_mem ht)
  by_cases e : h = t
  · subst e
    refine ⟨some 0, M, ?_, fun _ => rfl, fun x e => (by cases e; omega), w.mono (by omega)⟩
    generalize f.map DV.int = fs at *
    unfold A_elt
    walk_at "ex"
    rfl
  · obtain ⟨o, M', e1, e2, e3⟩ := bound_ok B w hN way share (f[h] - f[t])
    have ne : ¬ ((h : Int) = (t : Int)) := by omega
    refine ⟨o, M', ?_, fun c => absurd c e, fun x c => ?_, e3⟩
    · have eg : ∀ ρ : RO, ρ = [some (.mu k), s1, s2, some (.int way), some (.int share), some (.tup (f.map DV.int)), s6, some (.int (h : Int)), s8, some (.int (t : Int))] → A_gap ρ (M ++ B) = some (.int (f[h] - f[t]), M ++ B) := fun ρ er => by
        subst er
        unfold A_gap
        simp only [dOp2, dVar, List.getElem?_cons_succ, List.getElem?_cons_zero, bnd_some, xIx_t, a1, a2, Option.map_some, oSub]
      have eg := eg _ rfl
      clear a1 a2
      generalize f.map DV.int = fs at *
      unfold A_elt
      walk_at "ex"
    · obtain ⟨y, y0, y1, c | c⟩ := e2 x c <;> omega
theorem aloop_ok {k : Nat} {μ0 C : List MO} {f : List Int} (hf : smalls 1000001 f) {h : Nat} (hh : h < f.length) {way share : Int} {s1 s2 s6 : Option DV} : ∀ (m t N : Nat) (r : List (Option Int)) (M : List MO) (x9 : Option DV), Sr k μ0 N M → N + 2 * m < 100000000000000000 → t + m = f.length → r.length = t → f.length ≤ 21 → smO 2000008 r → (h < t → r[h]? = some (some 0)) →
    ∃ (r' : List (Option Int)) (M' : List MO) (y9 : Option DV), r'.length = f.length ∧ smO 2000008 r' ∧ r'[h]? = some (some 0) ∧ Sr k μ0 (N + 2 * m) M' ∧
      forL (gNm 9) A_body ((List.range' t m).map fun i : Nat => DV.int (i : Int)) [some (.mu k), s1, s2, some (.int way), some (.int share), some (.tup (f.map DV.int)), s6, some (.int (h : Int)), some (.mu (M ++ C).length), x9] ((M ++ C) ++ [.lst (r.map oi)]) =
        some (.nx [some (.mu k), s1, s2, some (.int way), some (.int share), some (.tup (f.map DV.int)), s6, some (.int (h : Int)), some (.mu (M' ++ C).length), y9] ((M' ++ C) ++ [.lst (r'.map oi)]))
  | 0, t, N, r, M, x9, w, hN, ht, hr, hz, hs, hd => ⟨r, M, x9, by omega, hs, hd (by omega), w, rfl⟩
  | m + 1, t, N, r, M, x9, w, hN, ht, hr, hz, hs, hd => by
    obtain ⟨o, M1, e, o1, o2, w1⟩ := aelt_ok (s1 := s1) (s2 := s2) (s6 := s6) (s8 := some (.mu (M ++ C).length)) (way := way) (share := share) (C ++ [.lst (r.map oi)]) w (by omega) hf hh (t := t) (by omega)
    have l1 : (M1 ++ C).length = (M ++ C).length := by rw [List.length_append, List.length_append, w1.len, w.len]
    have ap := dApp_at (A := M ++ C) (A' := M1 ++ C) (B := []) (xs := r.map oi) (d := oi o) (s := 8) (ρ := [some (.mu k), s1, s2, some (.int way), some (.int share), some (.tup (f.map DV.int)), s6, some (.int (h : Int)), some (.mu (M ++ C).length), some (.int (t : Int))]) (fa := A_elt) rfl (by simpa [List.append_assoc] using e) l1 (by simp; omega)
    obtain ⟨r', M', y9, g1, g2, g3, g4, g5⟩ := aloop_ok (C := C) hf hh (way := way) (share := share) (s1 := s1) (s2 := s2) (s6 := s6) m (t + 1) (N + 2) (r ++ [o]) M1 (some (.int (t : Int))) w1 (by omega) (by omega) (by simp; omega) hz (fun x hx => by
      rcases List.mem_append.mp hx with hx | hx
      · exact hs x hx
      · simp at hx; exact o2 x hx.symm) (fun c => by
      by_cases e : h < t
      · rw [List.getElem?_append_left (by omega)]
        exact hd e
      · have : h = t := by omega
        rw [o1 this, this, ← hr]
        simp)
    refine ⟨r', M', y9, g1, g2, g3, by rw [show N + 2 * (m + 1) = N + 2 + 2 * m by omega]; exact g4, ?_⟩
    have t9 : gNm 9 (DV.int (t : Int)) [some (.mu k), s1, s2, some (.int way), some (.int share), some (.tup (f.map DV.int)), s6, some (.int (h : Int)), some (.mu (M ++ C).length), x9] ((M ++ C) ++ [.lst (r.map oi)]) = some ([some (.mu k), s1, s2, some (.int way), some (.int share), some (.tup (f.map DV.int)), s6, some (.int (h : Int)), some (.mu (M ++ C).length), some (.int (t : Int))], (M ++ C) ++ [.lst (r.map oi)]) := rfl
    have bd : A_body [some (.mu k), s1, s2, some (.int way), some (.int share), some (.tup (f.map DV.int)), s6, some (.int (h : Int)), some (.mu (M ++ C).length), some (.int (t : Int))] ((M ++ C) ++ [.lst (r.map oi)]) =
        some (.nx [some (.mu k), s1, s2, some (.int way), some (.int share), some (.tup (f.map DV.int)), s6, some (.int (h : Int)), some (.mu (M1 ++ C).length), some (.int (t : Int))] ((M1 ++ C) ++ [.lst ((r ++ [o]).map oi)])) := by
      unfold A_body
      rw [esCons, sExp, ap, bnd_some, sqO_nx, l1, List.map_append]
      rfl
    rw [List.range'_succ, List.map_cons, forL_cons, t9, bnd_some, bd, lpO_nx, g5]
noncomputable def A_loop : DenS := sFor (iRange1 (aCons (dOp2 oAdd (dVar 1) (dC (.int 1))) aNil)) (gNm 9) A_body
noncomputable def B_body : DenS := (sCons (sSet 8 (dLstM aNil))
  (sCons A_loop
  (sCons (sExp (dApp (dVar 6) (dBlt oTuple (aCons (dVar 8) aNil))))
  sNil)))
noncomputable def B_loop : DenS := sFor (iRange1 (aCons (dOp2 oAdd (dVar 1) (dC (.int 1))) aNil)) (gNm 7) B_body
theorem about_eq : D_l_about = (sCons (sAsg (gTu 4 (gAnd (gNm 3) (gAnd (gNm 4) (gAnd (gNm 5) (gAnd (gNm 6) gEnd))))) (dTup (aCons (dCall V_l_draw (aCons (dVar 0) (aCons (dC (.int 13)) aNil))) (aCons (dCall V_l_draw (aCons (dVar 0) (aCons (dC (.int 4)) aNil))) (aCons (dOp2 oAdd (dTup (aCons (dC (.int 0)) aNil)) (dVar 2)) (aCons (dLstM aNil) aNil))))))
  (sCons (sIf (dOp2 oEq (dVar 3) (dC (.int 12)))
  (sCons (sRet (dC .non))
  sNil)
  sNil)
  (sCons B_loop
  (sCons (sRet (dBlt oTuple (aCons (dVar 6) aNil)))
  sNil)))) := rfl
theorem rng_1 {ni : Int} {n : Nat} {ρ : RO} (h : ρ[1]? = some (some (.int ni))) (e : (ni + 1).toNat = n) (h0 : 0 ≤ ni) (hn : ni ≤ 20) :
    iRange1 (aCons (dOp2 oAdd (dVar 1) (dC (.int 1))) aNil) ρ μ = some ((List.range' 0 n).map fun i : Nat => DV.int (i : Int), μ) := by
  have h1 : -4000000000000000000 ≤ ni + 1 := by omega
  have h2 : ni + 1 < 4000000000000000000 := by omega
  simp [iRange1, aCons, aNil, dOp2, dC, dVar, h, oAdd, h1, h2, rgD, List.range_eq_range', e]
theorem A_loop_at {ni : Int} {n : Nat} {s0 s2 s3 s4 s5 s6 s7 s8 s9 : Option DV} (e : (ni + 1).toNat = n) (h0 : 0 ≤ ni) (hn : ni ≤ 20) :
    A_loop [s0, some (.int ni), s2, s3, s4, s5, s6, s7, s8, s9] μ = forL (gNm 9) A_body ((List.range' 0 n).map fun i : Nat => DV.int (i : Int)) [s0, some (.int ni), s2, s3, s4, s5, s6, s7, s8, s9] μ := by
  unfold A_loop
  rw [sFor_at, rng_1 (ni := ni) rfl e h0 hn, bnd_some]
theorem B_loop_at {ni : Int} {n : Nat} {s0 s2 s3 s4 s5 s6 s7 s8 s9 : Option DV} (e : (ni + 1).toNat = n) (h0 : 0 ≤ ni) (hn : ni ≤ 20) :
    B_loop [s0, some (.int ni), s2, s3, s4, s5, s6, s7, s8, s9] μ = forL (gNm 7) B_body ((List.range' 0 n).map fun i : Nat => DV.int (i : Int)) [s0, some (.int ni), s2, s3, s4, s5, s6, s7, s8, s9] μ := by
  unfold B_loop
  rw [sFor_at, rng_1 (ni := ni) rfl e h0 hn, bnd_some]
theorem bbody_ok {k : Nat} {μ0 M B : List MO} {N : Nat} {ni : Int} {f : List Int} (w : Sr k μ0 N M) (hN : N < 10000000000000000) (hf : smalls 1000001 f) (en : (ni + 1).toNat = f.length) (h0 : 0 ≤ ni) (hn : ni ≤ 20) {h : Nat} (hh : h < f.length) {rs : Rs} (hz : rs.length < 16777216) {way share : Int} {s2 x8 x9 : Option DV} :
    ∃ (r : List (Option Int)) (M' B' : List MO) (y8 y9 : Option DV), r.length = f.length ∧ smO 2000008 r ∧ r[h]? = some (some 0) ∧ Sr k μ0 (N + 42) M' ∧
      B_body [some (.mu k), some (.int ni), s2, some (.int way), some (.int share), some (.tup (f.map DV.int)), some (.mu M.length), some (.int (h : Int)), x8, x9] (M ++ .lst (rs.map eR) :: B) =
        some (.nx [some (.mu k), some (.int ni), s2, some (.int way), some (.int share), some (.tup (f.map DV.int)), some (.mu M'.length), some (.int (h : Int)), y8, y9] (M' ++ .lst ((rs ++ [r]).map eR) :: B')) := by
  obtain ⟨r, M', y9, g1, g2, g3, g4, g5⟩ := aloop_ok (C := .lst (rs.map eR) :: B) hf hh (way := way) (share := share) (s1 := some (.int ni)) (s2 := s2) (s6 := some (.mu M.length)) f.length 0 N [] M x9 w (by omega) (by omega) rfl (by omega) (fun x hx => by simp at hx) (fun c => by omega)
  rw [← A_loop_at en h0 hn] at g5
  have l1 : M'.length = M.length := by rw [g4.len, w.len]
  have ap := dApp_at (A := M') (A' := M') (B := B ++ [.lst (r.map oi)]) (xs := rs.map eR) (d := eR r) (s := 6) (ρ := [some (.mu k), some (.int ni), s2, some (.int way), some (.int share), some (.tup (f.map DV.int)), some (.mu M.length), some (.int (h : Int)), some (.mu (M' ++ .lst (rs.map eR) :: B).length), y9]) (fa := dBlt oTuple (aCons (dVar 8) aNil)) (by rw [l1]; rfl) (by
    have : (M' ++ .lst (rs.map eR) :: (B ++ [.lst (r.map oi)]))[(M' ++ .lst (rs.map eR) :: B).length]? = some (.lst (r.map oi)) := by
      rw [show M' ++ .lst (rs.map eR) :: (B ++ [.lst (r.map oi)]) = (M' ++ .lst (rs.map eR) :: B) ++ [.lst (r.map oi)] by simp]
      simp
    generalize (M' ++ .lst (rs.map eR) :: B).length = q at *
    generalize M' ++ .lst (rs.map eR) :: (B ++ [.lst (r.map oi)]) = Q at *
    simp only [dBlt, aCons, aNil, dVar, List.getElem?_cons_succ, List.getElem?_cons_zero, bnd_some, oTuple, itemsD, this]
    rfl) rfl (by simpa using hz)
  refine ⟨r, M', B ++ [.lst (r.map oi)], some (.mu (M' ++ .lst (rs.map eR) :: B).length), y9, g1, g2, g3, g4.mono (by omega), ?_⟩
  have st : sSet 8 (dLstM aNil) [some (.mu k), some (.int ni), s2, some (.int way), some (.int share), some (.tup (f.map DV.int)), some (.mu M.length), some (.int (h : Int)), x8, x9] (M ++ .lst (rs.map eR) :: B) =
      some (.nx [some (.mu k), some (.int ni), s2, some (.int way), some (.int share), some (.tup (f.map DV.int)), some (.mu M.length), some (.int (h : Int)), some (.mu (M ++ .lst (rs.map eR) :: B).length), x9] ((M ++ .lst (rs.map eR) :: B) ++ [.lst []])) := rfl
  unfold B_body
  rw [List.map_nil] at g5
  rw [esCons, st, sqO_nx, esCons, g5, sqO_nx, esCons, sExp, show (M' ++ .lst (rs.map eR) :: B) ++ [.lst (r.map oi)] = M' ++ .lst (rs.map eR) :: (B ++ [.lst (r.map oi)]) by simp, ap, bnd_some, sqO_nx, l1, List.map_append]
  rfl
theorem bloop_ok {k : Nat} {μ0 : List MO} {ni : Int} {f : List Int} (hf : smalls 1000001 f) (en : (ni + 1).toNat = f.length) (h0 : 0 ≤ ni) (hn : ni ≤ 20) {way share : Int} {s2 : Option DV} : ∀ (m h N : Nat) (rs : Rs) (M B : List MO) (x7 x8 x9 : Option DV), Sr k μ0 N M → N + 42 * m < 10000000000000000 → h + m = f.length → rs.length = h → (∀ (i : Nat) (r : List (Option Int)), rs[i]? = some r → r.length = f.length ∧ smO 2000008 r ∧ r[i]? = some (some 0)) →
    ∃ (rs' : Rs) (M' B' : List MO) (y7 y8 y9 : Option DV), rs'.length = f.length ∧ (∀ (i : Nat) (r : List (Option Int)), rs'[i]? = some r → r.length = f.length ∧ smO 2000008 r ∧ r[i]? = some (some 0)) ∧ Sr k μ0 (N + 42 * m) M' ∧
      forL (gNm 7) B_body ((List.range' h m).map fun i : Nat => DV.int (i : Int)) [some (.mu k), some (.int ni), s2, some (.int way), some (.int share), some (.tup (f.map DV.int)), some (.mu M.length), x7, x8, x9] (M ++ .lst (rs.map eR) :: B) =
        some (.nx [some (.mu k), some (.int ni), s2, some (.int way), some (.int share), some (.tup (f.map DV.int)), some (.mu M'.length), y7, y8, y9] (M' ++ .lst (rs'.map eR) :: B'))
  | 0, h, N, rs, M, B, x7, x8, x9, w, hN, hh, hr, hs => ⟨rs, M, B, x7, x8, x9, by omega, hs, w, rfl⟩
  | m + 1, h, N, rs, M, B, x7, x8, x9, w, hN, hh, hr, hs => by
    obtain ⟨r, M1, B1, y8, y9, a1, a2, a3, a4, a5⟩ := bbody_ok (B := B) (way := way) (share := share) (s2 := s2) (x8 := x8) (x9 := x9) w (by omega) hf en h0 hn (h := h) (by omega) (rs := rs) (by omega)
    obtain ⟨rs', M', B', z7, z8, z9, g1, g2, g3, g4⟩ := bloop_ok (k := k) (μ0 := μ0) hf en h0 hn (way := way) (share := share) (s2 := s2) m (h + 1) (N + 42) (rs ++ [r]) M1 B1 (some (.int (h : Int))) y8 y9 a4 (by omega) (by omega) (by simp; omega) (fun i q hq => by
      by_cases c : i < rs.length
      · rw [List.getElem?_append_left c] at hq
        exact hs i q hq
      · have : i = rs.length := by
          have := (List.getElem?_eq_some_iff.mp hq).1
          simp at this
          omega
        subst this
        simp at hq
        subst hq
        rw [hr]
        exact ⟨a1, a2, a3⟩)
    refine ⟨rs', M', B', z7, z8, z9, g1, g2, by rw [show N + 42 * (m + 1) = N + 42 + 42 * m by omega]; exact g3, ?_⟩
    have t7 : gNm 7 (DV.int (h : Int)) [some (.mu k), some (.int ni), s2, some (.int way), some (.int share), some (.tup (f.map DV.int)), some (.mu M.length), x7, x8, x9] (M ++ .lst (rs.map eR) :: B) = some ([some (.mu k), some (.int ni), s2, some (.int way), some (.int share), some (.tup (f.map DV.int)), some (.mu M.length), some (.int (h : Int)), x8, x9], M ++ .lst (rs.map eR) :: B) := rfl
    rw [List.range'_succ, List.map_cons, forL_cons, t7, bnd_some, a5, lpO_nx, g4]
theorem mag_of {b : Int} {n : Nat} {rs : Rs} (h : ∀ (i : Nat) (r : List (Option Int)), rs[i]? = some r → r.length = n ∧ smO b r ∧ r[i]? = some (some 0)) : mag b (at3 rs) := fun i j x e => by
  unfold at3 at e
  cases hr : rs[i]? with
  | none => rw [hr] at e; cases e
  | some r =>
    rw [hr] at e
    obtain ⟨_, h2, _⟩ := h i r hr
    simp only at e
    cases hj : r[j]? with
    | none => rw [hj] at e; cases e
    | some o =>
      rw [hj] at e
      simp at e
      subst e
      exact h2 x (List.mem_of_getElem? hj)
/-- what is drawn: differences with small bounds -/
def wGm (b : Int) (n : Nat) (g : Gp) : Prop := wG n g ∧ ∀ rs, g = some rs → mag b (at3 rs)
theorem smalls0 {v : List Int} (h : smalls 1000001 v) : smalls 1000001 (0 :: v) := fun x hx => by
  rcases List.mem_cons.mp hx with rfl | hx
  · omega
  · exact h x hx
theorem about_ok {k : Nat} {μ0 : List MO} {N n : Nat} {ni : Int} {v : List Int} (w : Sr k μ0 N μ) (hN : N < 1000000000000000) (hv : smalls 1000001 v) (hl : v.length = n) (en : ni.toNat = n) (h0 : 0 ≤ ni) (hn : ni ≤ 20) :
    ∃ g μ', V_l_about [.mu k, .int ni, .tup (v.map DV.int)] μ = some (eG g, μ') ∧ wGm 2000008 n g ∧ Sr k μ0 (N + 1000) μ' := by
  obtain ⟨way, M1, e1, _, _, w1⟩ := draw_ok w (by omega) (m := 13) (by omega) (by omega)
  obtain ⟨share, M2, e2, _, _, w2⟩ := draw_ok w1 (by omega) (m := 4) (by omega) (by omega)
  have l2 : M2.length = μ.length := by rw [w2.len, w.len]
  have as : sAsg (gTu 4 (gAnd (gNm 3) (gAnd (gNm 4) (gAnd (gNm 5) (gAnd (gNm 6) gEnd))))) (dTup (aCons (dCall V_l_draw (aCons (dVar 0) (aCons (dC (.int 13)) aNil))) (aCons (dCall V_l_draw (aCons (dVar 0) (aCons (dC (.int 4)) aNil))) (aCons (dOp2 oAdd (dTup (aCons (dC (.int 0)) aNil)) (dVar 2)) (aCons (dLstM aNil) aNil))))) [some (.mu k), some (.int ni), some (.tup (v.map DV.int)), none, none, none, none, none, none, none] μ =
      some (.nx [some (.mu k), some (.int ni), some (.tup (v.map DV.int)), some (.int way), some (.int share), some (.tup ((0 :: v).map DV.int)), some (.mu M2.length), none, none, none] (M2 ++ [.lst []])) := by
    rw [List.map_cons]
    have hz : (v.map DV.int).length ≤ 20 := by rw [List.length_map]; omega
    generalize v.map DV.int = vs at *
    (walk_at "ex") <;> omega
  have st : startD ["_law_spring_here", "_law_size_here", "_law_base", "_law_way", "_law_share", "_law_full", "_law_lines", "_law_here", "_law_line", "_law_there"] [DV.mu k, .int ni, .tup (v.map DV.int)] = [some (.mu k), some (.int ni), some (.tup (v.map DV.int)), none, none, none, none, none, none, none] := rfl
  unfold V_l_about
  rw [about_eq, eFn, if_pos (show [DV.mu k, .int ni, .tup (v.map DV.int)].length = 3 from rfl), st, esCons, as, sqO_nx, esCons]
  by_cases h12 : way = 12
  · refine ⟨none, M2, ?_, ⟨trivial, fun rs e => (by cases e)⟩, w2.mono (by omega)⟩
    subst h12
    have : sIf (dOp2 oEq (dVar 3) (dC (.int 12))) (sCons (sRet (dC .non)) sNil) sNil [some (.mu k), some (.int ni), some (.tup (v.map DV.int)), some (.int 12), some (.int share), some (.tup ((0 :: v).map DV.int)), some (.mu M2.length), none, none, none] (M2 ++ [.lst []]) = some (.rt .non (M2 ++ [.lst []])) := rfl
    rw [this, sqO_rt, endO_rt]
    exact w.cut w2 rfl
  · have : sIf (dOp2 oEq (dVar 3) (dC (.int 12))) (sCons (sRet (dC .non)) sNil) sNil [some (.mu k), some (.int ni), some (.tup (v.map DV.int)), some (.int way), some (.int share), some (.tup ((0 :: v).map DV.int)), some (.mu M2.length), none, none, none] (M2 ++ [.lst []]) = some (.nx [some (.mu k), some (.int ni), some (.tup (v.map DV.int)), some (.int way), some (.int share), some (.tup ((0 :: v).map DV.int)), some (.mu M2.length), none, none, none] (M2 ++ [.lst []])) := by
      generalize v.map DV.int = vs at *
      walk_at "ex"
    obtain ⟨rs', M', B', z7, z8, z9, g1, g2, g3, g4⟩ := bloop_ok (k := k) (μ0 := μ0) (ni := ni) (f := 0 :: v) (way := way) (share := share) (s2 := some (.tup (v.map DV.int))) (smalls0 hv) (by simp; omega) h0 hn (0 :: v).length 0 (N + 1 + 1) [] M2 [] none none none w2 (by simp; omega) (by omega) rfl (fun i r e => by simp at e)
    rw [← B_loop_at (by simp; omega) h0 hn, List.map_nil] at g4
    have ln : (0 :: v).length = n + 1 := by simp [hl]
    rw [ln] at g1 g2 g3
    refine ⟨some rs', M', ?_, ⟨⟨g1, fun i r hr => ⟨(g2 i r hr).1, (g2 i r hr).2.2⟩⟩, fun rs e => (by cases e; exact mag_of g2)⟩, g3.mono (by omega)⟩
    rw [this, sqO_nx, esCons, g4, sqO_nx]
    have cut := w.cut g3 (d := eG (some rs')) (g := .lst (rs'.map eR) :: B') (belG _ _)
    have la : sCons (sRet (dBlt oTuple (aCons (dVar 6) aNil))) sNil [some (.mu k), some (.int ni), some (.tup (v.map DV.int)), some (.int way), some (.int share), some (.tup ((0 :: v).map DV.int)), some (.mu M'.length), z7, z8, z9] (M' ++ .lst (rs'.map eR) :: B') = some (.rt (eG (some rs')) (M' ++ .lst (rs'.map eR) :: B')) := by
      simp [esCons, sRet, dBlt, aCons, aNil, dVar, oTuple, itemsD, eG]
    rw [la]
    exact cut

end Lw

namespace Lw
open PySem PySem.Spec L2 Eg
local macro_rules | `(tactic| walk_at "ex") => `(tactic| simp [eFn, startD, esCons, sRet, esIf, sNil, sSet, sAsg, sExp, sPar2, sPar3, dVar, dC, dOp2, dCall, dBlt, dTup, dLst, dLstM, eIf, eAnd, eOr, eNot, eNeg, dIsi, eChain, aCons, aNil, gTu, gAnd, gNm, gSb, gEnd, dSl, runP, sFor, forL_nil, forL_cons, iSeq, iRange1, iRange2, oDiv_ok, oMod_ok, oPow_ok, oSub, oLt, oLe, oGt, oGe, oEq, oNe, oIs, oIsnt, xIx_t, xIx_l, xIx_m, xIx_s, oLen, oInt, oAbs, oMM, oTuple, oDivmod, oInN, flatL, DV.flat, dCallW, permI, oAll, blsD, oMax1, oMin1, maxI, minI, intsD, inV1, inV2, eqV, DV.isN, eqvD, eqvL, shD, shL, xItems_t, xItems_l, xItems_m, xLen_t, xLen_l, xLen_m, xLen_s, atI, ixN, DV.ty, kitT, sl_eq, *])
open Df
variable {μ : List MO}
/-! ### how great, of all -/
theorem mag_le {a b : Int} {D : Mt} (h : a ≤ b) (m : mag a D) : mag b D := fun i j x e => by
  have := m i j x e
  omega
theorem pow21 {n : Nat} (h : n ≤ 21) : (2 : Int) ^ n ≤ 2097152 := by
  have : 2 ^ n ≤ 2 ^ 21 := Nat.pow_le_pow_right (by decide) h
  have e : ((2 ^ n : Nat) : Int) = (2 : Int) ^ n := by simp
  rw [← e]
  omega
theorem Clo.mag {n : Nat} {rs cs : Rs} {b : Int} (c : Clo n rs (some cs)) (hn : n ≤ 21) (hb : 0 ≤ b) (m : Lw.mag b (at3 rs)) : Lw.mag (2097152 * b) (at3 cs) := by
  have := mag_fw hb m c.1
  refine mag_le ?_ this
  exact Int.mul_le_mul_of_nonneg_right (pow21 hn) hb
theorem mag_set {n i j : Nat} {b x : Int} {rs : Rs} (w : wR n rs) (hi : i < n) (hj : j < n) (m : mag b (at3 rs)) (h0 : -b ≤ x) (h1 : x ≤ b) : mag b (at3 (setM rs i j x)) := by
  intro p q y e
  rw [at3_setM w hi hj] at e
  split at e
  · cases e2 : at3 rs i j with
    | none => rw [e2] at e; simp [minB] at e; omega
    | some z =>
      rw [e2] at e
      have := m _ _ _ e2
      simp [minB] at e
      omega
  · exact m _ _ _ e
theorem mag_guard {n : Nat} {b : Int} : ∀ {bs : List (Nat × Nat × Int)} {rs : Rs}, okB n bs → wR n rs → mag b (at3 rs) → (∀ q ∈ bs, -b ≤ q.2.2 ∧ q.2.2 ≤ b) → mag b (at3 (guardM rs bs))
  | [], rs, _, w, m, _ => m
  | q :: bs, rs, o, w, m, h => by
    obtain ⟨o1, o2⟩ := o q (by simp)
    have hq := h q (by simp)
    exact mag_guard (bs := bs) (rs := setM rs q.1 q.2.1 q.2.2) (fun p hp => o p (List.mem_cons_of_mem _ hp)) (wR_setM w) (mag_set w o1 o2 m hq.1 hq.2) fun p hp => h p (List.mem_cons_of_mem _ hp)
theorem Clo.sat {n : Nat} {rs cs : Rs} (c : Clo n rs (some cs)) (v : Nat → Int) : Df.sat n (at3 cs) v ↔ Df.sat n (at3 rs) v := (c.1.sat_iff (Nat.le_refl _)).1 _ rfl v
theorem Clo.unsat {n : Nat} {rs : Rs} (c : Clo n rs none) (v : Nat → Int) : ¬ Df.sat n (at3 rs) v := (c.1.sat_iff (Nat.le_refl _)).2 rfl v
theorem Clo.cl {n : Nat} {rs cs : Rs} (c : Clo n rs (some cs)) (hn : 0 < n) (d : dgle n (at3 rs)) : Cl n (at3 cs) := Fw.cl hn d c.1
/-! ### values that are told -/
def eV : Option (List Int) → DV
  | none => .non
  | some v => .tup (v.map DV.int)
theorem pvalues_ok {n : Nat} {o : Gp} (hn : n ≤ 20) (w : ∀ cs, o = some cs → wR (n + 1) cs ∧ Cl (n + 1) (at3 cs)) :
    ∃ ov : Option (List Int), V_values_in [eG o] μ = some (eV ov, μ) ∧ (o = none → ov = none) ∧ ∀ cs, o = some cs → ∃ v, ov = some v ∧ v.length = n ∧ sat (n + 1) (at3 cs) (T (0 :: v)) ∧ ∀ b, 0 ≤ b → mag b (at3 cs) → smalls (20 * b) v := by
  cases o with
  | none => exact ⟨none, values_none, fun _ => rfl, fun cs e => (by cases e)⟩
  | some cs =>
    obtain ⟨w1, c1⟩ := w cs rfl
    obtain ⟨v, h1, h2, h3, e⟩ := values_ok (μ := μ) w1 c1 (by omega) (by omega)
    refine ⟨some v, e, fun e => (by cases e), fun cs' e => ?_⟩
    cases e
    refine ⟨v, rfl, by omega, fun i j hi hj => h2 i j (by simp; omega) (by simp; omega), fun b hb m x hx => ?_⟩
    have := h3 b hb m x (List.mem_cons_of_mem _ hx)
    have l : (v.length : Int) * b ≤ 20 * b := Int.mul_le_mul_of_nonneg_right (by omega) hb
    omega
theorem apart_in {n i j : Nat} {b : Int} {g : Gp} (hn : n ≤ 20) (w : wG n g) (hi : i ≤ n) (hj : j ≤ n) :
    ∃ q : Gp, V_gaps_guarded [eG g, .lst [.tup [.int (i : Int), .int (j : Int), .int b], .tup [.int (j : Int), .int (i : Int), .int (-b)]]] μ = some (eG q, μ) ∧ (g = none → q = none) ∧ ∀ rs, g = some rs → Clo (n + 1) (guardM rs [(i, j, b), (j, i, -b)]) q := by
  cases g with
  | none => exact ⟨none, guarded_none, fun _ => rfl, fun rs e => (by cases e)⟩
  | some rs =>
    obtain ⟨q, h1, h2⟩ := pguarded_ok (μ := μ) (n := n + 1) (bs := [(i, j, b), (j, i, -b)]) (by omega) (wR_of w) (dgle_of0 (dg0_of_w w)) (by
      intro p hp
      simp at hp
      rcases hp with rfl | rfl <;> exact ⟨by simp only; omega, by simp only; omega⟩)
    exact ⟨q, h2, fun e => (by cases e), fun rs' e => (by cases e; exact h1)⟩
theorem values_apart_ok {n i j : Nat} {b m : Int} {g : Gp} (hn : n ≤ 20) (w : wGm m n g) (hm : 0 ≤ m) (b0 : -m ≤ b) (b1 : b ≤ m) (hi : i ≤ n) (hj : j ≤ n) :
    ∃ ov : Option (List Int), V_values_apart [.int (n : Int), eG g, .int (i : Int), .int (j : Int), .int b] μ = some (eV ov, μ) ∧ (ov = none → ∀ rs, g = some rs → ∀ v, sat (n + 1) (at3 rs) v → v i - v j ≠ b) ∧
      ∀ v, ov = some v → v.length = n ∧ smalls (20 * (2097152 * m)) v ∧ ∃ rs, g = some rs ∧ sat (n + 1) (at3 rs) (T (0 :: v)) ∧ T (0 :: v) i - T (0 :: v) j = b := by
  obtain ⟨q, e1, q0, q1⟩ := apart_in (μ := μ) (b := b) hn w.1 hi hj
  have ok : ∀ rs, g = some rs → wR (n + 1) rs ∧ dgle (n + 1) (at3 rs) ∧ okB (n + 1) [(i, j, b), (j, i, -b)] := fun rs e => by
    subst e
    refine ⟨wR_of w.1, dgle_of0 (dg0_of_w w.1), fun p hp => ?_⟩
    simp at hp
    rcases hp with rfl | rfl <;> exact ⟨by simp only; omega, by simp only; omega⟩
  have sg : ∀ rs, g = some rs → ∀ v, sat (n + 1) (at3 (guardM rs [(i, j, b), (j, i, -b)])) v ↔ sat (n + 1) (at3 rs) v ∧ v i - v j = b := fun rs e v => by
    obtain ⟨a1, a2, a3⟩ := ok rs e
    rw [(guard_ok a3 a1 a2).2.2 v]
    simp only [List.mem_cons, List.not_mem_nil, or_false, forall_eq_or_imp, forall_eq]
    constructor
    · rintro ⟨s, h1, h2⟩
      exact ⟨s, by omega⟩
    · rintro ⟨s, h⟩
      exact ⟨s, by omega, by omega⟩
  obtain ⟨ov, e2, v0, v1⟩ := pvalues_ok (μ := μ) (o := q) hn (fun cs e => by
    cases g with
    | none => rw [q0 rfl] at e; cases e
    | some rs =>
      have c := q1 rs rfl
      subst e
      obtain ⟨a1, a2, a3⟩ := ok rs rfl
      exact ⟨c.2 _ rfl, c.cl (by omega) (guard_ok a3 a1 a2).2.1⟩)
  have rf := refuse_wrong_pair_ok (μ := μ) (b := b) (i := (i : Int)) (j := (j : Int)) hn w.1 (by omega) (by omega) (by omega) (by omega)
  refine ⟨ov, ?_, ?_, ?_⟩
  · generalize eG g = dg at *
    generalize eG q = dq at *
    generalize eV ov = dv at *
    unfold V_values_apart D_values_apart
    walk_at "ex"
  · rintro rfl rs e v s c
    have cl := q1 rs e
    cases q with
    | none => exact cl.unsat v ((sg rs e v).mpr ⟨s, c⟩)
    | some cs =>
      obtain ⟨v', e', _⟩ := v1 cs rfl
      cases e'
  · rintro v rfl
    cases q with
    | none => cases v0 rfl
    | some cs =>
      obtain ⟨v', e', l, s, mm⟩ := v1 cs rfl
      cases e'
      cases g with
      | none => cases q0 rfl
      | some rs =>
        have cl := q1 rs rfl
        obtain ⟨a1, a2, a3⟩ := ok rs rfl
        have mg := mag_guard (b := m) a3 a1 (w.2 rs rfl) (by
          intro p hp
          simp at hp
          rcases hp with rfl | rfl <;> exact ⟨by simp only; omega, by simp only; omega⟩)
        have sv := (sg rs rfl _).mp ((cl.sat _).mp s)
        exact ⟨l, mm _ (by omega) (cl.mag (by omega) hm mg), rs, rfl, sv.1, sv.2⟩
/-! ### the law's own look whether values are held -/
theorem rngL_ok {ρ : RO} {s n : Nat} {ds : List DV} (hs : ρ[s]? = some (some (.tup ds))) (hl : ds.length = n) (hn : n ≤ 21) :
    iRange1 (aCons (dBlt oLen (aCons (dVar s) aNil)) aNil) ρ μ = some ((List.range' 0 n).map fun i : Nat => DV.int (i : Int), μ) := by
  have len : oLen [.tup ds] μ = some (.int (n : Int), μ) := by simp [oLen, xLen_t, hl]
  obtain ⟨ni, e⟩ : ∃ ni : Int, ni = (n : Int) := ⟨_, rfl⟩
  rw [← e] at len
  have h1 : -4000000000000000000 ≤ ni := by omega
  have h2 : ni < 4000000000000000000 := by omega
  have h3 : ni.toNat = n := by omega
  simp [iRange1, aCons, aNil, dBlt, dVar, hs, len, h1, h2, rgD, List.range_eq_range', h3]
noncomputable def cell0 (a b : Nat) : Den := dOp2 oIx (dOp2 oIx (dVar 0) (dVar a)) (dVar b)
noncomputable def H_gap : Den := dOp2 oSub (dOp2 oIx (dVar 2) (dVar 3)) (dOp2 oIx (dVar 2) (dVar 4))
noncomputable def H_body : DenS := (sCons (sSet 5 (cell0 3 4))
  (sCons (sIf (dAnd (dOp2 oIsnt (dVar 5) (dC .non)) (dOp2 oGt H_gap (dVar 5)))
  (sCons (sRet (dC (.bl false)))
  sNil)
  sNil)
  sNil))
noncomputable def H_loop : DenS := sFor (iRange1 (aCons (dBlt oLen (aCons (dVar 2) aNil)) aNil)) (gNm 4) H_body
noncomputable def H2_body : DenS := sCons H_loop sNil
noncomputable def H2_loop : DenS := sFor (iRange1 (aCons (dBlt oLen (aCons (dVar 2) aNil)) aNil)) (gNm 3) H2_body
theorem holds_eq : D_l_holds = (sCons (sIf (dOp2 oIs (dVar 0) (dC .non))
  (sCons (sRet (dC (.bl false)))
  sNil)
  sNil)
  (sCons (sSet 2 (dOp2 oAdd (dTup (aCons (dC (.int 0)) aNil)) (dVar 1)))
  (sCons H2_loop
  (sCons (sRet (dC (.bl true)))
  sNil)))) := rfl
theorem hbody_run {d0 x1 : Option DV} {fs : List DV} {i j p q : Int} {b : Option Int} {x5 : Option DV}
    (c : cell0 3 4 [d0, x1, some (.tup fs), some (.int i), some (.int j), x5] μ = some (oi b, μ)) (hi : atI fs i = some (.int p)) (hj : atI fs j = some (.int q)) :
    (upTo (p - q) b → H_body [d0, x1, some (.tup fs), some (.int i), some (.int j), x5] μ = some (.nx [d0, x1, some (.tup fs), some (.int i), some (.int j), some (oi b)] μ)) ∧
    (¬ upTo (p - q) b → H_body [d0, x1, some (.tup fs), some (.int i), some (.int j), x5] μ = some (.rt (.bl false) μ)) := by
  cases b with
  | none =>
    simp only [oi] at *
    refine ⟨fun _ => ?_, fun h => (h trivial).elim⟩
    unfold H_body
    walk_at "ex"
  | some b =>
    simp only [oi] at *
    have eg : ∀ ρ : RO, ρ = [d0, x1, some (.tup fs), some (.int i), some (.int j), some (.int b)] → H_gap ρ μ = some (.int (p - q), μ) := fun ρ er => by
      subst er
      unfold H_gap
      simp only [dOp2, dVar, List.getElem?_cons_succ, List.getElem?_cons_zero, bnd_some, xIx_t, hi, hj, Option.map_some, oSub]
    have eg := eg _ rfl
    clear hi hj
    constructor
    · intro h
      have h : p - q ≤ b := h
      have h : ¬ b < p - q := by omega
      unfold H_body
      walk_at "ex"
    · intro h
      have h : ¬ p - q ≤ b := h
      have h : b < p - q := by omega
      unfold H_body
      walk_at "ex"
theorem hloop_ok {n : Nat} {rs : Rs} {ts : List Int} (w : wR n rs) (hl : ts.length = n) {x1 : Option DV} {i : Nat} (hi : i < n) : ∀ (m j : Nat) (x4 x5 : Option DV), j + m = n →
    ((∀ t, j ≤ t → t < n → upTo (T ts i - T ts t) (at3 rs i t)) ∧ ∃ y4 y5, forL (gNm 4) H_body ((List.range' j m).map fun i : Nat => DV.int (i : Int)) [some (.tup (rs.map eR)), x1, some (.tup (ts.map DV.int)), some (.int (i : Int)), x4, x5] μ = some (.nx [some (.tup (rs.map eR)), x1, some (.tup (ts.map DV.int)), some (.int (i : Int)), y4, y5] μ)) ∨
    ((∃ t, t < n ∧ ¬ upTo (T ts i - T ts t) (at3 rs i t)) ∧ forL (gNm 4) H_body ((List.range' j m).map fun i : Nat => DV.int (i : Int)) [some (.tup (rs.map eR)), x1, some (.tup (ts.map DV.int)), some (.int (i : Int)), x4, x5] μ = some (.rt (.bl false) μ))
  | 0, j, x4, x5, hm => .inl ⟨fun t h1 h2 => by omega, x4, x5, rfl⟩
  | m + 1, j, x4, x5, hm => by
    have hj : j < n := by omega
    have c := cell_ok (μ := μ) w hi hj (ρ := [some (.tup (rs.map eR)), x1, some (.tup (ts.map DV.int)), some (.int (i : Int)), some (.int (j : Int)), x5]) (a := 3) (b := 4) rfl rfl rfl
    have ti : ∀ t, t < n → atI (ts.map DV.int) (t : Int) = some (.int (T ts t)) := fun t ht => atI_nat (by simp [T, List.getElem?_eq_getElem (show t < ts.length by omega)])
    obtain ⟨r1, r2⟩ := hbody_run (x5 := x5) c (ti i hi) (ti j hj)
    have t4 : gNm 4 (DV.int (j : Int)) [some (.tup (rs.map eR)), x1, some (.tup (ts.map DV.int)), some (.int (i : Int)), x4, x5] μ = some ([some (.tup (rs.map eR)), x1, some (.tup (ts.map DV.int)), some (.int (i : Int)), some (.int (j : Int)), x5], μ) := rfl
    rw [List.range'_succ, List.map_cons, forL_cons, t4, bnd_some]
    by_cases h : upTo (T ts i - T ts j) (at3 rs i j)
    · rw [r1 h, lpO_nx]
      rcases hloop_ok w hl (x1 := x1) hi m (j + 1) (some (.int (j : Int))) (some (oi (at3 rs i j))) (by omega) with ⟨a, y4, y5, b⟩ | ⟨a, b⟩
      · refine .inl ⟨fun t h1 h2 => ?_, y4, y5, b⟩
        by_cases e : t = j
        · subst e; exact h
        · exact a t (by omega) h2
      · exact .inr ⟨a, b⟩
    · rw [r2 h]
      exact .inr ⟨⟨j, hj, h⟩, rfl⟩
theorem h2loop_ok {n : Nat} {rs : Rs} {ts : List Int} (w : wR n rs) (hl : ts.length = n) (hn : n ≤ 21) {x1 : Option DV} : ∀ (m i : Nat) (x3 x4 x5 : Option DV), i + m = n →
    ((∀ p q, i ≤ p → p < n → q < n → upTo (T ts p - T ts q) (at3 rs p q)) ∧ ∃ y3 y4 y5, forL (gNm 3) H2_body ((List.range' i m).map fun i : Nat => DV.int (i : Int)) [some (.tup (rs.map eR)), x1, some (.tup (ts.map DV.int)), x3, x4, x5] μ = some (.nx [some (.tup (rs.map eR)), x1, some (.tup (ts.map DV.int)), y3, y4, y5] μ)) ∨
    ((∃ p q, p < n ∧ q < n ∧ ¬ upTo (T ts p - T ts q) (at3 rs p q)) ∧ forL (gNm 3) H2_body ((List.range' i m).map fun i : Nat => DV.int (i : Int)) [some (.tup (rs.map eR)), x1, some (.tup (ts.map DV.int)), x3, x4, x5] μ = some (.rt (.bl false) μ))
  | 0, i, x3, x4, x5, hm => .inl ⟨fun p q h1 h2 => by omega, x3, x4, x5, rfl⟩
  | m + 1, i, x3, x4, x5, hm => by
    have hi : i < n := by omega
    have t3 : gNm 3 (DV.int (i : Int)) [some (.tup (rs.map eR)), x1, some (.tup (ts.map DV.int)), x3, x4, x5] μ = some ([some (.tup (rs.map eR)), x1, some (.tup (ts.map DV.int)), some (.int (i : Int)), x4, x5], μ) := rfl
    have at_ : H_loop [some (.tup (rs.map eR)), x1, some (.tup (ts.map DV.int)), some (.int (i : Int)), x4, x5] μ = forL (gNm 4) H_body ((List.range' 0 n).map fun i : Nat => DV.int (i : Int)) [some (.tup (rs.map eR)), x1, some (.tup (ts.map DV.int)), some (.int (i : Int)), x4, x5] μ := by
      unfold H_loop
      rw [sFor_at, rngL_ok (ds := ts.map DV.int) (n := n) rfl (by simpa using hl) hn, bnd_some]
    rw [List.range'_succ, List.map_cons, forL_cons, t3, bnd_some]
    have hb : ∀ r, H_loop [some (.tup (rs.map eR)), x1, some (.tup (ts.map DV.int)), some (.int (i : Int)), x4, x5] μ = some r → H2_body [some (.tup (rs.map eR)), x1, some (.tup (ts.map DV.int)), some (.int (i : Int)), x4, x5] μ = some r := fun r h => by
      unfold H2_body
      rw [esCons, h]
      cases r <;> rfl
    rcases hloop_ok (μ := μ) w hl (x1 := x1) hi n 0 x4 x5 (by omega) with ⟨a, y4, y5, b⟩ | ⟨⟨t, t1, t2⟩, b⟩
    · rw [hb _ (at_.trans b), lpO_nx]
      rcases h2loop_ok w hl hn (x1 := x1) m (i + 1) (some (.int (i : Int))) y4 y5 (by omega) with ⟨c, z3, z4, z5, d⟩ | ⟨c, d⟩
      · refine .inl ⟨fun p q h1 h2 h3 => ?_, z3, z4, z5, d⟩
        by_cases e : p = i
        · subst e; exact a q (by omega) h3
        · exact c p q (by omega) h2 h3
      · exact .inr ⟨c, d⟩
    · rw [hb _ (at_.trans b)]
      exact .inr ⟨⟨i, t, hi, t1, t2⟩, rfl⟩
theorem lholds_none {d : DV} : V_l_holds [.non, d] μ = some (.bl false, μ) := by
  unfold V_l_holds
  rw [holds_eq]
  walk_at "ex"
theorem lholds_ok {n : Nat} {rs : Rs} {v : List Int} (w : wR (n + 1) rs) (hl : v.length = n) (hn : n ≤ 20) :
    ∃ t : Bool, V_l_holds [eG (some rs), .tup (v.map DV.int)] μ = some (.bl t, μ) ∧ (t = true ↔ sat (n + 1) (at3 rs) (T (0 :: v))) := by
  have at_ : H2_loop [some (.tup (rs.map eR)), some (.tup (v.map DV.int)), some (.tup ((0 :: v).map DV.int)), none, none, none] μ = forL (gNm 3) H2_body ((List.range' 0 (n + 1)).map fun i : Nat => DV.int (i : Int)) [some (.tup (rs.map eR)), some (.tup (v.map DV.int)), some (.tup ((0 :: v).map DV.int)), none, none, none] μ := by
    unfold H2_loop
    rw [sFor_at, rngL_ok (ds := (0 :: v).map DV.int) (n := n + 1) rfl (by simp [hl]) (by omega), bnd_some]
  have run : ∀ (r : Option Out), H2_loop [some (.tup (rs.map eR)), some (.tup (v.map DV.int)), some (.tup ((0 :: v).map DV.int)), none, none, none] μ = r → V_l_holds [.tup (rs.map eR), .tup (v.map DV.int)] μ = endO μ (sqO r (sCons (sRet (dC (.bl true))) sNil)) := fun r h => by
    rw [List.map_cons] at h
    have hz : (v.map DV.int).length ≤ 20 := by rw [List.length_map]; omega
    clear at_
    generalize v.map DV.int = vs at *
    generalize rs.map eR = rr at *
    unfold V_l_holds
    rw [holds_eq]
    have st : startD ["_law_wide", "_law_spots_here", "_law_full", "_law_here", "_law_there", "_law_bound_here"] [DV.tup rr, .tup vs] = [some (.tup rr), some (.tup vs), none, none, none, none] := rfl
    have s1 : sIf (dOp2 oIs (dVar 0) (dC .non)) (sCons (sRet (dC (.bl false))) sNil) sNil [some (.tup rr), some (.tup vs), none, none, none, none] μ = some (.nx [some (.tup rr), some (.tup vs), none, none, none, none] μ) := rfl
    have s2 : sSet 2 (dOp2 oAdd (dTup (aCons (dC (.int 0)) aNil)) (dVar 1)) [some (.tup rr), some (.tup vs), none, none, none, none] μ = some (.nx [some (.tup rr), some (.tup vs), some (.tup (.int 0 :: vs)), none, none, none] μ) := by
      (walk_at "ex") <;> omega
    rw [eFn, if_pos (show [DV.tup rr, .tup vs].length = 2 from rfl), st, esCons, s1, sqO_nx, esCons, s2, sqO_nx, esCons, h]
  rcases h2loop_ok (μ := μ) (ts := 0 :: v) w (by simp [hl]) (by omega) (x1 := some (.tup (v.map DV.int))) (n + 1) 0 none none none (by omega) with ⟨a, y3, y4, y5, b⟩ | ⟨⟨p, q, p1, p2, p3⟩, b⟩
  · refine ⟨true, (run _ (at_.trans b)).trans ?_, fun _ i j hi hj => a i j (by omega) hi hj, fun _ => rfl⟩
    rw [sqO_nx]
    have : sCons (sRet (dC (.bl true))) sNil [some (.tup (rs.map eR)), some (.tup (v.map DV.int)), some (.tup ((0 :: v).map DV.int)), y3, y4, y5] μ = some (.rt (.bl true) μ) := rfl
    rw [this, endO_rt, cutd_self]
  · refine ⟨false, (run _ (at_.trans b)).trans ?_, fun h => (by cases h), fun h => (p3 (h p q p1 p2)).elim⟩
    rw [sqO_rt, endO_rt, cutd_self]
@[simp] theorem lspots_ok {n : Nat} {v : List Int} (hl : v.length = n) (hn : n ≤ 16777216) : V_l_is_spots [.int (n : Int), .tup (v.map DV.int)] μ = some (.bl true, μ) := by
  have k : ∀ ρ : RO, ρ = [some (.int (n : Int)), some (.tup (v.map DV.int)), none] → dLc (iSeq (dVar 1)) (bd1 2) dT (dCall V_l_is_whole (aCons (dVar 2) aNil)) ρ μ = some (.lst (v.map fun _ => DV.bl true), μ) := by
    rintro ρ rfl
    exact dLc_list v DV.int (fun _ => DV.bl true) (by simp [iSeq, dVar, xItems_t]) (by omega) (fun x _ => ⟨_, rfl, fun μ' => by walk_at "ex"⟩) fun _ _ => rfl
  have k' := k _ rfl
  unfold V_l_is_spots D_l_is_spots
  walk_at "ex"

end Lw

namespace Lw
open PySem PySem.Spec L2 Eg
local macro_rules | `(tactic| walk_at "ex") => `(tactic| simp [eFn, startD, esCons, sRet, esIf, sNil, sSet, sAsg, sExp, sPar2, sPar3, dVar, dC, dOp2, dCall, dBlt, dTup, dLst, dLstM, eIf, eAnd, eOr, eNot, eNeg, dIsi, eChain, aCons, aNil, gTu, gAnd, gNm, gSb, gEnd, dSl, runP, sFor, forL_nil, forL_cons, iSeq, iRange1, iRange2, oDiv_ok, oMod_ok, oPow_ok, oSub, oLt, oLe, oGt, oGe, oEq, oNe, oIs, oIsnt, xIx_t, xIx_l, xIx_m, xIx_s, oLen, oInt, oAbs, oMM, oTuple, oDivmod, oInN, flatL, DV.flat, dCallW, permI, oAll, blsD, oMax1, oMin1, maxI, minI, intsD, inV1, inV2, eqV, DV.isN, eqvD, eqvL, shD, shL, xItems_t, xItems_l, xItems_m, xLen_t, xLen_l, xLen_m, xLen_s, atI, ixN, DV.ty, kitT, sl_eq, *])
open Df
variable {μ : List MO}
/-! ### a comprehension whose elements draw -/
theorem lcLoop_sr {k : Nat} {μ0 : List MO} {bd : Bd} {elt : Den} {ρ : RO} {c top : Nat} : ∀ (ds acc : List DV) (N : Nat) (μ : List MO), Sr k μ0 N μ → N + c * ds.length ≤ top →
    (∀ d ∈ ds, ∃ ρ', bd d ρ = some ρ' ∧ ∀ (N' : Nat) (M B : List MO), Sr k μ0 N' M → N' + c ≤ top → ∃ M', elt ρ' (M ++ B) = some (.bl true, M' ++ B) ∧ Sr k μ0 (N' + c) M') →
    ∃ μ', lcLoop bd dT elt ρ μ.length ds acc μ = some (acc ++ ds.map fun _ => DV.bl true, μ') ∧ Sr k μ0 (N + c * ds.length) μ'
  | [], acc, N, μ, w, hN, h => ⟨μ, by simp [lcLoop], w⟩
  | d :: ds, acc, N, μ, w, hN, h => by
    rw [List.length_cons, Nat.mul_succ] at hN
    obtain ⟨ρ', e1, e2⟩ := h d (by simp)
    obtain ⟨M', e3, w'⟩ := e2 N μ [.lst acc] w (by omega)
    have l : M'.length = μ.length := by rw [w'.len, w.len]
    obtain ⟨μ', e4, w4⟩ := lcLoop_sr (c := c) (top := top) ds (acc ++ [.bl true]) (N + c) M' w' (by omega) fun d hd => h d (List.mem_cons_of_mem _ hd)
    refine ⟨μ', ?_, by rw [List.length_cons, Nat.mul_succ, show N + (c * ds.length + c) = N + c + c * ds.length by omega]; exact w4⟩
    unfold lcLoop
    rw [e1]
    dsimp only
    have t : dT ρ' (μ ++ [.lst acc]) = some (.bl true, μ ++ [.lst acc]) := rfl
    rw [t, bnd_some]
    dsimp only
    rw [e3, bnd_some, dropL_app l]
    dsimp only
    rw [l] at e4
    rw [e4]
    simp
theorem belL_true (n : Nat) {α : Type} (ds : List α) : DV.belL n (ds.map fun _ => DV.bl true) = true := by
  induction ds with
  | nil => rfl
  | cons d ds ih => simp [DV.belL, DV.bel, ih]
theorem dLc_sr {k : Nat} {μ0 : List MO} {fi : DenA} {bd : Bd} {elt : Den} {ρ : RO} {c top N : Nat} {ds : List DV} (hi : fi ρ μ = some (ds, μ)) (hz : ds.length ≤ 16777216) (w : Sr k μ0 N μ) (ht : N + c * ds.length ≤ top)
    (h : ∀ d ∈ ds, ∃ ρ', bd d ρ = some ρ' ∧ ∀ (N' : Nat) (M B : List MO), Sr k μ0 N' M → N' + c ≤ top → ∃ M', elt ρ' (M ++ B) = some (.bl true, M' ++ B) ∧ Sr k μ0 (N' + c) M') :
    ∃ μ', dLc fi bd dT elt ρ μ = some (.lst (ds.map fun _ => DV.bl true), μ') ∧ Sr k μ0 (N + c * ds.length) μ' := by
  obtain ⟨μ', e, w'⟩ := lcLoop_sr ds [] N μ w ht h
  refine ⟨μ', ?_, w'⟩
  unfold dLc
  rw [hi, bnd_some, if_pos hz, e, bnd_some, List.nil_append]
  exact w.cut w' (by simp [DV.bel, belL_true])
/-! ### closings of anything -/
def ClG (n : Nat) (g o : Gp) : Prop := (g = none → o = none) ∧ ∀ rs, g = some rs → Clo (n + 1) rs o
theorem ClG.det {n : Nat} {g o1 o2 : Gp} (h1 : ClG n g o1) (h2 : ClG n g o2) : o1 = o2 := by
  cases g with
  | none => rw [h1.1 rfl, h2.1 rfl]
  | some rs => exact (h1.2 rs rfl).det (h2.2 rs rfl)
theorem ClG.get {n : Nat} {g : Gp} {cs : Rs} (h : ClG n g (some cs)) : ∃ rs, g = some rs ∧ Clo (n + 1) rs (some cs) := by
  cases g with
  | none => cases h.1 rfl
  | some rs => exact ⟨rs, rfl, h.2 rs rfl⟩
theorem ClG.w {n : Nat} {g : Gp} {cs : Rs} (h : ClG n g (some cs)) : wR (n + 1) cs := by
  obtain ⟨rs, rfl, c⟩ := h.get
  exact c.2 _ rfl
theorem ClG.cl {n : Nat} {g : Gp} {cs : Rs} (h : ClG n g (some cs)) (w : wG n g) : Cl (n + 1) (at3 cs) := by
  obtain ⟨rs, rfl, c⟩ := h.get
  exact c.cl (by omega) (dgle_of0 (dg0_of_w w))
theorem ClG.sat {n : Nat} {rs cs : Rs} (h : ClG n (some rs) (some cs)) (v : Nat → Int) : Df.sat (n + 1) (at3 cs) v ↔ Df.sat (n + 1) (at3 rs) v := (h.2 rs rfl).sat v
theorem ClG.mag {n : Nat} {g : Gp} {cs : Rs} {m : Int} (h : ClG n g (some cs)) (hn : n ≤ 20) (w : wGm m n g) (hm : 0 ≤ m) : Lw.mag (2097152 * m) (at3 cs) := by
  obtain ⟨rs, rfl, c⟩ := h.get
  exact c.mag (by omega) hm (w.2 rs rfl)
theorem pclosing_at {n : Nat} {g o : Gp} (hn : n ≤ 20) (w : wG n g) (c : ClG n g o) : V_closing [eG g] μ = some (eG o, μ) := by
  cases g with
  | none => rw [c.1 rfl]; exact closing_none
  | some rs =>
    obtain ⟨o', c', e⟩ := pclosing_ok (μ := μ) (n := n + 1) (by omega) (wR_of w) (dgle_of0 (dg0_of_w w))
    rw [e, (c.2 rs rfl).det c']
theorem lclosing_g {ni : Int} {n : Nat} {g : Gp} (en : ni.toNat = n) (h0 : 0 ≤ ni) (hn : ni ≤ 20) (w : wG n g) : ∃ o, ClG n g o ∧ V_l_closing [.int ni, eG g] μ = some (eG o, μ) := by
  cases g with
  | none => exact ⟨none, ⟨fun _ => rfl, fun rs e => (by cases e)⟩, lclosing_none⟩
  | some rs =>
    obtain ⟨o, c, e⟩ := lclosing_ok (μ := μ) (n := n + 1) (ni := ni) (by omega) h0 hn (wR_of w) (dg0_of_w w)
    exact ⟨o, ⟨fun e => (by cases e), fun rs' e => (by cases e; exact c)⟩, e⟩
theorem lclosing_at {ni : Int} {n : Nat} {g o : Gp} (en : ni.toNat = n) (h0 : 0 ≤ ni) (hn : ni ≤ 20) (w : wG n g) (c : ClG n g o) : V_l_closing [.int ni, eG g] μ = some (eG o, μ) := by
  obtain ⟨o', c', e⟩ := lclosing_g (μ := μ) en h0 hn w
  rw [e, c.det c']
/-! ### the spring -/
theorem cut_ints (ns : List Int) (l u : Option Int) : ∀ d ∈ cutD (ns.map DV.int) l u, ∃ x : Int, d = .int x := by
  intro d hd
  unfold cutD at hd
  obtain ⟨x, _, rfl⟩ := List.mem_map.mp (List.mem_of_mem_drop (List.mem_of_mem_take hd))
  exact ⟨x, rfl⟩

end Lw

namespace Lw
open PySem PySem.Spec L2 Eg
local macro_rules | `(tactic| walk_at "ex") => `(tactic| simp [eFn, startD, esCons, sRet, esIf, sNil, sSet, sAsg, sExp, sPar2, sPar3, dVar, dC, dOp2, dCall, dBlt, dTup, dLst, dLstM, eIf, eAnd, eOr, eNot, eNeg, dIsi, eChain, aCons, aNil, gTu, gAnd, gNm, gSb, gEnd, dSl, runP, sFor, forL_nil, forL_cons, iSeq, iRange1, iRange2, oDiv_ok, oMod_ok, oPow_ok, oSub, oLt, oLe, oGt, oGe, oEq, oNe, oIs, oIsnt, xIx_t, xIx_l, xIx_m, xIx_s, oLen, oInt, oAbs, oMM, oTuple, oDivmod, oInN, flatL, DV.flat, dCallW, permI, oAll, blsD, oMax1, oMin1, maxI, minI, intsD, inV1, inV2, eqV, DV.isN, eqvD, eqvL, shD, shL, xItems_t, xItems_l, xItems_m, xLen_t, xLen_l, xLen_m, xLen_s, atI, ixN, DV.ty, kitT, sl_eq, *])
/-! ### what is shown is short -/
theorem int_len {i : Int} (h : i.natAbs ≤ 10 ^ 40) : (Str.ofString (toString i)).length ≤ 60 := by
  rw [ofString_length]
  have nat : ∀ n : Nat, n ≤ 10 ^ 40 → (n.repr).length ≤ 42 := fun n hn => (Nat.length_repr_le_iff (by decide)).mpr (Nat.lt_of_le_of_lt hn (by decide))
  cases i with
  | ofNat n =>
    have : (toString (Int.ofNat n)) = n.repr := rfl
    rw [this]
    exact Nat.le_trans (nat n h) (by decide)
  | negSucc n =>
    have e : (toString (Int.negSucc n)) = "-" ++ (n + 1).repr := rfl
    have l1 : ("-" : String).length = 1 := by decide
    have h' := nat (n + 1) h
    rw [e, String.length_append, l1]
    omega
theorem Shw.int {i : Int} (h : i.natAbs ≤ 10 ^ 40) : Shw 1 60 (.int i) := by
  refine ⟨_, rfl, ?_, by simp [PyData.depth], ?_⟩
  · rw [PyData.showable]
    refine decide_eq_true ?_
    by_cases z : i.natAbs = 0
    · rw [z]
      decide
    · exact (Nat.log2_lt z).mpr (Nat.lt_of_le_of_lt h (by decide +kernel : 10 ^ 40 < 2 ^ 1920))
  · rw [PyData.shown]
    exact int_len h
theorem Shw.non : Shw 1 60 .non := ⟨_, rfl, rfl, by simp [PyData.depth], by rw [PyData.shown]; decide⟩
theorem shw_list {n L : Nat} : ∀ {ds : List DV}, (∀ d ∈ ds, Shw n L d) → ∃ pds, toPyL ds = some pds ∧ PyData.showableAll pds = true ∧ PyData.depthAll pds ≤ n ∧ ((PyData.shownAll pds).map (fun x => x.length)).sum ≤ ds.length * L ∧ (PyData.shownAll pds).length = ds.length
  | [], _ => ⟨[], rfl, rfl, by simp [PyData.depthAll], by simp [PyData.shownAll], by simp [PyData.shownAll]⟩
  | x :: r, h => by
    obtain ⟨pd, e1, s1, d1, l1⟩ := h x List.mem_cons_self
    obtain ⟨pds, e2, s2, d2, l2, n2⟩ := shw_list (ds := r) fun d hd => h d (List.mem_cons_of_mem _ hd)
    refine ⟨pd :: pds, by show (toPy x).bind _ = _; rw [e1]; show (toPyL r).map _ = _; rw [e2]; rfl, ?_, ?_, ?_, ?_⟩
    · simp [PyData.showableAll, s1, s2]
    · simp [PyData.depthAll]
      omega
    · simp only [PyData.shownAll, List.map_cons, List.sum_cons, List.length_cons]
      rw [Nat.add_mul]
      omega
    · simp [PyData.shownAll, n2]
theorem Shw.tup {n L : Nat} {ds : List DV} (h : ∀ d ∈ ds, Shw n L d) : Shw (n + 1) (ds.length * L + 2 * ds.length + 3) (.tup ds) := by
  obtain ⟨pds, e, s, dp, sh, sl⟩ := shw_list h
  refine ⟨.tuple pds, by show (toPyL ds).map PyData.tuple = _; rw [e]; rfl, by rw [PyData.showable]; exact s, by rw [PyData.depth]; omega, ?_⟩
  rw [PyData.shown]
  have z := tupleText_len_le (PyData.shownAll pds)
  rw [sl] at z
  omega
theorem Shw.lst {n L : Nat} {ds : List DV} (h : ∀ d ∈ ds, Shw n L d) : Shw (n + 1) (ds.length * L + 2 * ds.length + 3) (.lst ds) := by
  obtain ⟨pds, e, s, dp, sh, sl⟩ := shw_list h
  refine ⟨.list pds, by show (toPyL ds).map PyData.list = _; rw [e]; rfl, by rw [PyData.showable]; exact s, by rw [PyData.depth]; omega, ?_⟩
  rw [PyData.shown]
  have z := listText_len_le (PyData.shownAll pds)
  rw [sl] at z
  omega
theorem Shw.up {n m L M : Nat} {d : DV} (h : Shw n L d) (e1 : n ≤ m) (e2 : L ≤ M) : Shw m M d := by
  obtain ⟨pd, a, b, c, e⟩ := h
  exact ⟨pd, a, b, by omega, by omega⟩

end Lw

namespace Lw
open PySem PySem.Spec L2 Eg
local macro_rules | `(tactic| walk_at "ex") => `(tactic| simp [eFn, startD, esCons, sRet, esIf, sNil, sSet, sAsg, sExp, sPar2, sPar3, dVar, dC, dOp2, dCall, dBlt, dTup, dLst, dLstM, eIf, eAnd, eOr, eNot, eNeg, dIsi, eChain, aCons, aNil, gTu, gAnd, gNm, gSb, gEnd, dSl, runP, sFor, forL_nil, forL_cons, iSeq, iRange1, iRange2, oDiv_ok, oMod_ok, oPow_ok, oSub, oLt, oLe, oGt, oGe, oEq, oNe, oIs, oIsnt, xIx_t, xIx_l, xIx_m, xIx_s, oLen, oInt, oAbs, oMM, oTuple, oDivmod, oInN, flatL, DV.flat, dCallW, permI, oAll, blsD, oMax1, oMin1, maxI, minI, intsD, inV1, inV2, eqV, DV.isN, eqvD, eqvL, shD, shL, xItems_t, xItems_l, xItems_m, xLen_t, xLen_l, xLen_m, xLen_s, atI, ixN, DV.ty, kitT, sl_eq, *])
open Df
variable {μ : List MO}
/-! ### whether values are held, by the program -/
def cellOk (ts : List Int) (i : Nat) (q : Option Int × Nat) : Bool := match q.1 with
  | none => true
  | some x => decide (T ts i - T ts q.2 ≤ x)
def rowOk (ts : List Int) (i : Nat) (r : List (Option Int)) : Bool := (r.zipIdx 0).all (cellOk ts i)
noncomputable def W_gap : Den := dOp2 oSub (dOp2 oIx (dVar 2) (dVar 3)) (dOp2 oIx (dVar 2) (dVar 5))
noncomputable def W_lc : Den := dLc (iEnm (aCons (dVar 4) aNil)) (bd2 5 6) dT (dOr (dOp2 oIs (dVar 6) (dC .non)) (dOp2 oLe W_gap (dVar 6)))
noncomputable def W_body : DenS := (sCons (sIf (dNot (dBlt oAll (aCons W_lc aNil)))
  (sCons (sRet (dC (.bl false)))
  sNil)
  sNil)
  sNil)
noncomputable def W_loop : DenS := sForE (aCons (dVar 0) aNil) (gTu 2 (gAnd (gNm 3) (gAnd (gNm 4) gEnd))) W_body
theorem ghold_eq : D_gaps_hold = (sCons (sIf (dOp2 oIs (dVar 0) (dC .non))
  (sCons (sRet (dC (.bl false)))
  sNil)
  sNil)
  (sCons (sSet 2 (dOp2 oAdd (dTup (aCons (dC (.int 0)) aNil)) (dVar 1)))
  (sCons W_loop
  (sCons (sRet (dC (.bl true)))
  sNil)))) := rfl
theorem T_at {ts : List Int} {t : Nat} (h : t < ts.length) : atI (ts.map DV.int) (t : Int) = some (.int (T ts t)) := atI_nat (by simp [T, List.getElem?_eq_getElem h])
theorem wlc_ok {ts : List Int} {i : Nat} {r : List (Option Int)} (hi : i < ts.length) (hr : r.length ≤ ts.length) (hn : ts.length ≤ 1000) {s0 s1 s5 s6 : Option DV} :
    W_lc [s0, s1, some (.tup (ts.map DV.int)), some (.int (i : Int)), some (eR r), s5, s6] μ = some (.lst ((r.zipIdx 0).map fun q => .bl (cellOk ts i q)), μ) := by
  unfold W_lc
  refine dLc_list (r.zipIdx 0) (fun q => DV.tup [.int (q.2 : Int), oi q.1]) _ ?_ (by simp; omega) (fun q hq => ⟨_, rfl, fun μ' => ?_⟩) fun _ _ => rfl
  · have := cntD_map oi r 0
    simp only [iEnm, aCons, aNil, dVar, eR]
    simp
    exact this
  · obtain ⟨o, j⟩ := q
    have hj : j < ts.length := by
      have := List.mem_zipIdx_iff_getElem?.mp hq
      have h2 : r[j]? = some o := by simpa using this
      have := (List.getElem?_eq_some_iff.mp h2).1
      omega
    have a1 := T_at hi
    have a2 := T_at hj
    have eg : ∀ ρ : RO, ρ = [s0, s1, some (.tup (ts.map DV.int)), some (.int (i : Int)), some (eR r), some (.int (j : Int)), some (oi o)] → W_gap ρ μ' = some (.int (T ts i - T ts j), μ') := fun ρ er => by
      subst er
      unfold W_gap
      simp only [dOp2, dVar, List.getElem?_cons_succ, List.getElem?_cons_zero, bnd_some, xIx_t, a1, a2, Option.map_some, oSub]
    have eg := eg _ rfl
    clear a1 a2
    cases o with
    | none =>
      simp only [oi, cellOk] at *
      simp only [List.set_cons_succ, List.set_cons_zero]
      walk_at "ex"
    | some y =>
      simp only [oi, cellOk] at *
      simp only [List.set_cons_succ, List.set_cons_zero]
      walk_at "ex"
theorem wbody_ok {ts : List Int} {i : Nat} {r : List (Option Int)} (hi : i < ts.length) (hr : r.length ≤ ts.length) (hn : ts.length ≤ 1000) {s0 s1 s5 s6 : Option DV} :
    W_body [s0, s1, some (.tup (ts.map DV.int)), some (.int (i : Int)), some (eR r), s5, s6] μ = if rowOk ts i r = true then some (.nx [s0, s1, some (.tup (ts.map DV.int)), some (.int (i : Int)), some (eR r), s5, s6] μ) else some (.rt (.bl false) μ) := by
  have e := wlc_ok (μ := μ) hi hr hn (s0 := s0) (s1 := s1) (s5 := s5) (s6 := s6)
  have b := blsD_map (r.zipIdx 0) (cellOk ts i)
  have al : oAll [.lst ((r.zipIdx 0).map fun q => .bl (cellOk ts i q))] μ = some (.bl (rowOk ts i r), μ) := by
    unfold oAll
    simp only [b]
    unfold rowOk
    rw [List.all_map]
    rfl
  generalize ts.map DV.int = tv at *
  generalize eR r = er at *
  generalize rowOk ts i r = t at *
  unfold W_body
  cases t
  · rw [if_neg (by simp)]
    simp only [esCons, esIf, dNot, dBlt, aCons, aNil, e, bnd_some, al]
    rfl
  · rw [if_pos rfl]
    simp only [esCons, esIf, dNot, dBlt, aCons, aNil, e, bnd_some, al]
    rfl
theorem wloop_ok {ts : List Int} {n : Nat} (hl : ts.length = n) (hn : n ≤ 21) {s0 s1 s5 s6 : Option DV} : ∀ (rs : Rs) (k : Nat) (x3 x4 : Option DV), k + rs.length ≤ n → (∀ r ∈ rs, r.length = n) →
    ∃ y3 y4, forL (gTu 2 (gAnd (gNm 3) (gAnd (gNm 4) gEnd))) W_body (cntD (k : Int) (rs.map eR)) [s0, s1, some (.tup (ts.map DV.int)), x3, x4, s5, s6] μ =
      if ((rs.zipIdx k).all fun q => rowOk ts q.2 q.1) = true then some (.nx [s0, s1, some (.tup (ts.map DV.int)), y3, y4, s5, s6] μ) else some (.rt (.bl false) μ)
  | [], k, x3, x4, hk, hr => ⟨x3, x4, rfl⟩
  | r :: rs, k, x3, x4, hk, hr => by
    rw [List.length_cons] at hk
    have rl := hr r (by simp)
    obtain ⟨y3, y4, e⟩ := wloop_ok hl hn (s0 := s0) (s1 := s1) (s5 := s5) (s6 := s6) rs (k + 1) (some (.int (k : Int))) (some (eR r)) (by omega) fun q hq => hr q (List.mem_cons_of_mem _ hq)
    have b := wbody_ok (μ := μ) (ts := ts) (i := k) (r := r) (by omega) (by omega) (by omega) (s0 := s0) (s1 := s1) (s5 := s5) (s6 := s6)
    refine ⟨y3, y4, ?_⟩
    have t : gTu 2 (gAnd (gNm 3) (gAnd (gNm 4) gEnd)) (DV.tup [.int (k : Int), eR r]) [s0, s1, some (.tup (ts.map DV.int)), x3, x4, s5, s6] μ = some ([s0, s1, some (.tup (ts.map DV.int)), some (.int (k : Int)), some (eR r), s5, s6], μ) := by simp [gTu, gAnd, gNm, gEnd]
    rw [List.map_cons, cntD, forL_cons, t, bnd_some, b, List.zipIdx_cons, List.all_cons]
    rw [show ((k : Int) + 1) = ((k + 1 : Nat) : Int) by omega]
    by_cases h : rowOk ts k r = true
    · rw [if_pos h, lpO_nx, e, h, Bool.true_and]
    · have h2 : rowOk ts k r = false := by simpa using h
      rw [if_neg h, if_neg (by simp [h2])]
      rfl
theorem all_sat {n : Nat} {rs : Rs} {ts : List Int} (w : wR n rs) : ((rs.zipIdx 0).all fun q => rowOk ts q.2 q.1) = true ↔ sat n (at3 rs) (T ts) := by
  rw [List.all_eq_true]
  constructor
  · intro h i j hi hj
    have il : i < rs.length := by rw [w.1]; exact hi
    have jl : j < (rs[i]).length := by rw [w.2 _ (List.getElem_mem il)]; exact hj
    have r := h (rs[i], i) (by rw [List.mem_zipIdx_iff_getElem?]; simp [il])
    have r : rowOk ts i rs[i] = true := r
    unfold rowOk at r
    rw [List.all_eq_true] at r
    have c := r (rs[i][j], j) (by rw [List.mem_zipIdx_iff_getElem?]; simp [jl])
    rw [at3_get w il jl]
    cases e : rs[i][j] with
    | none => trivial
    | some x =>
      rw [e] at c
      have c : decide (T ts i - T ts j ≤ x) = true := c
      show T ts i - T ts j ≤ x
      exact of_decide_eq_true c
  · rintro h ⟨r, i⟩ hq
    rw [List.mem_zipIdx_iff_getElem?] at hq
    have hq : rs[i]? = some r := by simpa using hq
    obtain ⟨il, rfl⟩ := List.getElem?_eq_some_iff.mp hq
    show rowOk ts i rs[i] = true
    unfold rowOk
    rw [List.all_eq_true]
    rintro ⟨o, j⟩ hp
    rw [List.mem_zipIdx_iff_getElem?] at hp
    have hp : (rs[i])[j]? = some o := by simpa using hp
    obtain ⟨jl, rfl⟩ := List.getElem?_eq_some_iff.mp hp
    have s := h i j (by rw [← w.1]; exact il) (by rw [← w.2 _ (List.getElem_mem il)]; exact jl)
    rw [at3_get w il jl] at s
    unfold cellOk
    cases e : rs[i][j] with
    | none => simp [e]
    | some x =>
      rw [e] at s
      have s : T ts i - T ts j ≤ x := s
      simp [e, s]
theorem ghold_none {d : DV} : V_gaps_hold [.non, d] μ = some (.bl false, μ) := by
  unfold V_gaps_hold
  rw [ghold_eq]
  walk_at "ex"
def holds (n : Nat) (g : Gp) (v : List Int) : Prop := ∃ rs, g = some rs ∧ sat (n + 1) (at3 rs) (T (0 :: v))
theorem ghold_ok {n : Nat} {g : Gp} {v : List Int} (w : ∀ rs, g = some rs → wR (n + 1) rs) (hl : v.length = n) (hn : n ≤ 20) :
    ∃ t : Bool, V_gaps_hold [eG g, .tup (v.map DV.int)] μ = some (.bl t, μ) ∧ (t = true ↔ holds n g v) := by
  cases g with
  | none => exact ⟨false, ghold_none, by simp [holds]⟩
  | some rs =>
    have w := w rs rfl
    obtain ⟨y3, y4, e⟩ := wloop_ok (μ := μ) (ts := 0 :: v) (n := n + 1) (by simp [hl]) (by omega) (s0 := some (eG (some rs))) (s1 := some (.tup (v.map DV.int))) (s5 := none) (s6 := none) rs 0 none none (by rw [w.1]; omega) w.2
    refine ⟨(rs.zipIdx 0).all fun q => rowOk (0 :: v) q.2 q.1, ?_, (all_sat w).trans ⟨fun s => ⟨rs, rfl, s⟩, fun ⟨rs', e, s⟩ => (by cases e; exact s)⟩⟩
    generalize ((rs.zipIdx 0).all fun q => rowOk (0 :: v) q.2 q.1) = t at *
    have at_ : W_loop [some (eG (some rs)), some (.tup (v.map DV.int)), some (.tup ((0 :: v).map DV.int)), none, none, none, none] μ = if t = true then some (.nx [some (eG (some rs)), some (.tup (v.map DV.int)), some (.tup ((0 :: v).map DV.int)), y3, y4, none, none] μ) else some (.rt (.bl false) μ) := by
      rw [← e]
      rfl
    have st : startD ["gaps", "numbers", "told", "i", "row", "j", "bound"] [eG (some rs), .tup (v.map DV.int)] = [some (eG (some rs)), some (.tup (v.map DV.int)), none, none, none, none, none] := rfl
    have s1 : sIf (dOp2 oIs (dVar 0) (dC .non)) (sCons (sRet (dC (.bl false))) sNil) sNil [some (eG (some rs)), some (.tup (v.map DV.int)), none, none, none, none, none] μ = some (.nx [some (eG (some rs)), some (.tup (v.map DV.int)), none, none, none, none, none] μ) := rfl
    have s2 : sSet 2 (dOp2 oAdd (dTup (aCons (dC (.int 0)) aNil)) (dVar 1)) [some (eG (some rs)), some (.tup (v.map DV.int)), none, none, none, none, none] μ = some (.nx [some (eG (some rs)), some (.tup (v.map DV.int)), some (.tup ((0 :: v).map DV.int)), none, none, none, none] μ) := by
      rw [List.map_cons]
      have hz : (v.map DV.int).length ≤ 20 := by rw [List.length_map]; omega
      clear at_ e
      generalize v.map DV.int = vs at *
      generalize eG (some rs) = dg at *
      (walk_at "ex") <;> omega
    unfold V_gaps_hold
    rw [ghold_eq, eFn, if_pos (show [eG (some rs), DV.tup (v.map DV.int)].length = 2 from rfl), st, esCons, s1, sqO_nx, esCons, s2, sqO_nx, esCons, at_]
    cases t
    · rw [if_neg (by simp), sqO_rt, endO_rt, cutd_self]
    · rw [if_pos rfl, sqO_nx]
      have : ∀ ρ : RO, sCons (sRet (dC (.bl true))) sNil ρ μ = some (.rt (.bl true) μ) := fun _ => rfl
      rw [this, endO_rt, cutd_self]
noncomputable def V2_body : DenS := (sCons (sIf (dNot (dCall V_is_whole (aCons (dVar 3) aNil)))
  (sCons sNo
  sNil)
  sNil)
  sNil)
theorem v2loop_ok {s0 s1 : Option DV} : ∀ (v : List Int) (k : Int) (x2 x3 : Option DV), ∃ y2 y3, forL (gTu 2 (gAnd (gNm 2) (gAnd (gNm 3) gEnd))) V2_body (cntD k (v.map DV.int)) [s0, s1, x2, x3] μ = some (.nx [s0, s1, y2, y3] μ)
  | [], k, x2, x3 => ⟨x2, x3, rfl⟩
  | x :: v, k, x2, x3 => by
    obtain ⟨y2, y3, e⟩ := v2loop_ok v (k + 1) (some (.int k)) (some (.int x))
    refine ⟨y2, y3, ?_⟩
    have t : gTu 2 (gAnd (gNm 2) (gAnd (gNm 3) gEnd)) (DV.tup [.int k, .int x]) [s0, s1, x2, x3] μ = some ([s0, s1, some (.int k), some (.int x)], μ) := by simp [gTu, gAnd, gNm, gEnd]
    have b : V2_body [s0, s1, some (.int k), some (.int x)] μ = some (.nx [s0, s1, some (.int k), some (.int x)] μ) := by
      unfold V2_body
      walk_at "ex"
    rw [List.map_cons, cntD, forL_cons, t, bnd_some, b, lpO_nx, e]
theorem refuse_wrong_values_ok {n : Nat} {v : List Int} (hl : v.length = n) : V_refuse_wrong_values [.int (n : Int), .tup (v.map DV.int)] μ = some (.non, μ) := by
  obtain ⟨y2, y3, e⟩ := v2loop_ok (μ := μ) (s0 := some (.int (n : Int))) (s1 := some (.tup (v.map DV.int))) v 0 none none
  have le : (v.map DV.int).length = n := by simpa using hl
  have lp : sForE (aCons (dVar 1) aNil) (gTu 2 (gAnd (gNm 2) (gAnd (gNm 3) gEnd))) V2_body [some (.int (n : Int)), some (.tup (v.map DV.int)), none, none] μ = some (.nx [some (.int (n : Int)), some (.tup (v.map DV.int)), y2, y3] μ) := by
    rw [← e]
    rfl
  clear e
  have de : D_refuse_wrong_values = (sCons (sIf (dOr (dNot (dIsi "tuple" (dVar 1))) (dOp2 oNe (dBlt oLen (aCons (dVar 1) aNil)) (dVar 0)))
  (sCons sNo
  sNil)
  sNil)
  (sCons (sForE (aCons (dVar 1) aNil) (gTu 2 (gAnd (gNm 2) (gAnd (gNm 3) gEnd))) V2_body)
  sNil)) := rfl
  generalize v.map DV.int = vs at *
  subst le
  unfold V_refuse_wrong_values
  rw [de]
  generalize sForE (aCons (dVar 1) aNil) (gTu 2 (gAnd (gNm 2) (gAnd (gNm 3) gEnd))) V2_body = L at *
  walk_at "ex"
theorem dhold_ok {n : Nat} {g : Gp} {v : List Int} (w : wG n g) (hl : v.length = n) (hn : n ≤ 20) :
    ∃ t : Bool, V_differences_hold [.int (n : Int), eG g, .tup (v.map DV.int)] μ = some (.bl t, μ) ∧ (t = true ↔ holds n g v) := by
  obtain ⟨t, e, h⟩ := ghold_ok (μ := μ) (g := g) (fun rs e => by subst e; exact wR_of w) hl hn
  refine ⟨t, ?_, h⟩
  have r1 := refuse_wrong_differences_ok (μ := μ) hn w
  have r2 := refuse_wrong_values_ok (μ := μ) hl
  generalize eG g = dg at *
  generalize v.map DV.int = vs at *
  unfold V_differences_hold D_differences_hold
  walk_at "ex"
theorem lholds_any {n : Nat} {g : Gp} {v : List Int} (w : wG n g) (hl : v.length = n) (hn : n ≤ 20) :
    ∃ t : Bool, V_l_holds [eG g, .tup (v.map DV.int)] μ = some (.bl t, μ) ∧ (t = true ↔ holds n g v) := by
  cases g with
  | none => exact ⟨false, lholds_none, by simp [holds]⟩
  | some rs =>
    obtain ⟨t, e, h⟩ := lholds_ok (μ := μ) (wR_of w) hl hn
    exact ⟨t, e, h.trans ⟨fun s => ⟨rs, rfl, s⟩, fun ⟨rs', e, s⟩ => (by cases e; exact s)⟩⟩

end Lw

namespace Lw
open PySem PySem.Spec L2 Eg
local macro_rules | `(tactic| walk_at "ex") => `(tactic| simp [eFn, startD, esCons, sRet, esIf, sNil, sSet, sAsg, sExp, sPar2, sPar3, dVar, dC, dOp2, dCall, dBlt, dTup, dLst, dLstM, eIf, eAnd, eOr, eNot, eNeg, dIsi, eChain, aCons, aNil, gTu, gAnd, gNm, gSb, gEnd, dSl, runP, sFor, forL_nil, forL_cons, iSeq, iRange1, iRange2, oDiv_ok, oMod_ok, oPow_ok, oSub, oLt, oLe, oGt, oGe, oEq, oNe, oIs, oIsnt, xIx_t, xIx_l, xIx_m, xIx_s, oLen, oInt, oAbs, oMM, oTuple, oDivmod, oInN, flatL, DV.flat, dCallW, permI, oAll, blsD, oMax1, oMin1, maxI, minI, intsD, inV1, inV2, eqV, DV.isN, eqvD, eqvL, shD, shL, xItems_t, xItems_l, xItems_m, xLen_t, xLen_l, xLen_m, xLen_s, atI, ixN, DV.ty, kitT, sl_eq, *])
open Df
variable {μ : List MO}
/-! ### parts of tuples -/
theorem cut_lo {xs : List DV} {j : Nat} (h : j ≤ xs.length) : cutD xs none (some (j : Int)) = xs.take j := by
  unfold cutD
  rw [HT.sIx_none, HT.sIx_nat, Nat.min_eq_left h]
  simp
theorem cut_hi {xs : List DV} {j : Nat} (h : j ≤ xs.length) : cutD xs (some (j : Int)) none = xs.drop j := by
  unfold cutD
  rw [HT.sIx_none, HT.sIx_nat, Nat.min_eq_left h]
  exact List.take_of_length_le (by simp)
theorem put_eq {α : Type} {xs : List α} {j : Nat} {x : α} (h : j < xs.length) : xs.take j ++ [x] ++ xs.drop (j + 1) = xs.set j x := by
  rw [List.set_eq_take_append_cons_drop, if_pos h]
  simp
theorem dPut_at {fa fx : Den} {ρ : RO} {s : Nat} {xs : List DV} {d : DV} {j : Nat} {μ2 : List MO} (ha : fa ρ μ = some (.tup xs, μ)) (ha2 : fa ρ μ2 = some (.tup xs, μ2)) (hs : ρ[s]? = some (some (.int (j : Int)))) (hx : fx ρ μ = some (d, μ2)) (hj : j < xs.length) (hz : xs.length ≤ 1000) :
    dOp2 oAdd (dOp2 oAdd (dSl fa none (some (dVar s))) (dTup (aCons fx aNil))) (dSl fa (some (dOp2 oAdd (dVar s) (dC (.int 1)))) none) ρ μ = some (.tup (xs.set j d), μ2) := by
  have e1 : dSl fa none (some (dVar s)) ρ μ = some (.tup (xs.take j), μ) := by
    simp only [dSl, ha, bnd_some, runP, dVar, hs]
    simp [cut_lo (Nat.le_of_lt hj)]
  have e2 : dTup (aCons fx aNil) ρ μ = some (.tup [d], μ2) := by
    simp only [dTup, aCons, hx, aNil, bnd_some]
    simp
  have e3 : dSl fa (some (dOp2 oAdd (dVar s) (dC (.int 1)))) none ρ μ2 = some (.tup (xs.drop (j + 1)), μ2) := by
    have := cut_hi (xs := xs) (j := j + 1) (by omega)
    rw [Int.natCast_add] at this
    simp only [dSl, ha2, bnd_some, runP, dVar, hs, dOp2, dC, oAdd]
    simpa using this
  have l1 : (xs.take j).length + [d].length ≤ sizeLine := by
    rw [sl_eq, List.length_take]
    simp
    omega
  have l2 : (xs.take j ++ [d]).length + (xs.drop (j + 1)).length ≤ sizeLine := by
    rw [sl_eq, List.length_append, List.length_take, List.length_drop]
    simp
    omega
  have o1 : oAdd (.tup (xs.take j)) (.tup [d]) μ2 = some (.tup (xs.take j ++ [d]), μ2) := by
    show (if _ then _ else _) = _
    rw [if_pos l1]
  have o2 : oAdd (.tup (xs.take j ++ [d])) (.tup (xs.drop (j + 1))) μ2 = some (.tup (xs.take j ++ [d] ++ xs.drop (j + 1)), μ2) := by
    show (if _ then _ else _) = _
    rw [if_pos l2]
  have d1 : dOp2 oAdd (dSl fa none (some (dVar s))) (dTup (aCons fx aNil)) ρ μ = some (.tup (xs.take j ++ [d]), μ2) := by
    simp only [dOp2, e1, e2, bnd_some, o1]
  have d2 : ∀ (f g : Den), f ρ μ = some (.tup (xs.take j ++ [d]), μ2) → g ρ μ2 = some (.tup (xs.drop (j + 1)), μ2) → dOp2 oAdd f g ρ μ = some (.tup (xs.take j ++ [d] ++ xs.drop (j + 1)), μ2) := fun f g hf hg => by
    simp only [dOp2, hf, hg, bnd_some, o2]
  rw [d2 _ _ d1 e3, put_eq hj]
theorem dPut_ok {fa fx : Den} {ρ : RO} {s : Nat} {xs : List DV} {d : DV} {j : Nat} (ha : fa ρ μ = some (.tup xs, μ)) (hs : ρ[s]? = some (some (.int (j : Int)))) (hx : fx ρ μ = some (d, μ)) (hj : j < xs.length) (hz : xs.length ≤ 1000) :
    dOp2 oAdd (dOp2 oAdd (dSl fa none (some (dVar s))) (dTup (aCons fx aNil))) (dSl fa (some (dOp2 oAdd (dVar s) (dC (.int 1)))) none) ρ μ = some (.tup (xs.set j d), μ) := dPut_at ha ha hs hx hj hz
theorem lwith_ok {n i j : Nat} {rs : Rs} {x : Option Int} (w : wR n rs) (hn : n ≤ 100) (hi : i < n) (hj : j < n) : V_l_with [eG (some rs), .int (i : Int), .int (j : Int), oi x] μ = some (eG (some (putM rs i j x)), μ) := by
  have hl : i < rs.length := by rw [w.1]; exact hi
  have hr : rs[i]? = some rs[i] := List.getElem?_eq_getElem hl
  have rl := w.2 rs[i] (List.getElem_mem hl)
  have a1 : atI (rs.map eR) (i : Int) = some (.tup (rs[i].map oi)) := atI_nat (by rw [List.getElem?_map, hr]; rfl)
  have st : startD ["_law_grid", "_law_here", "_law_there", "_law_bound_here", "_law_line"] [eG (some rs), .int (i : Int), .int (j : Int), oi x] = [some (.tup (rs.map eR)), some (.int (i : Int)), some (.int (j : Int)), some (oi x), none] := rfl
  have p1 := dPut_ok (μ := μ) (fa := dOp2 oIx (dVar 0) (dVar 1)) (fx := dVar 3) (s := 2) (ρ := [some (.tup (rs.map eR)), some (.int (i : Int)), some (.int (j : Int)), some (oi x), none]) (xs := rs[i].map oi) (d := oi x) (j := j) (by
    simp only [dOp2, dVar, List.getElem?_cons_succ, List.getElem?_cons_zero, bnd_some, xIx_t, a1, Option.map_some]) rfl rfl (by simp; omega) (by simp; omega)
  have p2 := dPut_ok (μ := μ) (fa := dVar 0) (fx := dVar 4) (s := 1) (ρ := [some (.tup (rs.map eR)), some (.int (i : Int)), some (.int (j : Int)), some (oi x), some (.tup ((rs[i].map oi).set j (oi x)))]) (xs := rs.map eR) (d := .tup ((rs[i].map oi).set j (oi x))) (j := i) rfl rfl rfl (by simp; omega) (by rw [List.length_map, w.1]; omega)
  have fin : DV.tup ((rs.map eR).set i (.tup ((rs[i].map oi).set j (oi x)))) = eG (some (putM rs i j x)) := by
    unfold putM
    rw [hr]
    simp only [eG]
    congr 1
    rw [List.map_set]
    congr 1
    show _ = DV.tup ((rs[i].set j x).map oi)
    rw [List.map_set]
  rw [fin] at p2
  unfold V_l_with D_l_with
  rw [eFn, if_pos (show [eG (some rs), DV.int (i : Int), .int (j : Int), oi x].length = 4 from rfl), st, esCons, sSet, p1, bnd_some]
  show endO μ (sqO (some (.nx _ μ)) _) = _
  rw [sqO_nx]
  show endO μ (sCons (sRet _) sNil [some (.tup (rs.map eR)), some (.int (i : Int)), some (.int (j : Int)), some (oi x), some (.tup ((rs[i].map oi).set j (oi x)))] μ) = _
  rw [esCons, sRet, p2, bnd_some, sqO_rt, endO_rt, cutd_self]
/-! ### bounds -/
def maxB : Option Int → Option Int → Option Int
  | some a, some b => some (max a b)
  | _, _ => none
@[simp] theorem llesser_ok (a b : Option Int) : V_l_lesser [oi a, oi b] μ = some (oi (minB a b), μ) := by
  unfold V_l_lesser D_l_lesser
  cases a <;> cases b <;> (simp only [oi]; walk_at "ex") <;> simp [minB, oi]
  try (first | (split <;> (simp; try omega)) | omega)
@[simp] theorem lgreater_ok (a b : Option Int) : V_l_greater [oi a, oi b] μ = some (oi (maxB a b), μ) := by
  unfold V_l_greater D_l_greater
  cases a <;> cases b <;> (simp only [oi]; walk_at "ex") <;> simp [maxB, oi]
  try (first | (split <;> (simp; try omega)) | omega)
@[simp] theorem greater_ok (a b : Option Int) : V_greater [oi a, oi b] μ = some (oi (maxB a b), μ) := by
  have k : V_is_above [oi a, oi b] μ = some (.bl (match a, b with | _, none => false | none, some _ => true | some x, some y => decide (y < x)), μ) := by
    unfold V_is_above D_is_above
    cases a <;> cases b <;> (simp only [oi]; walk_at "ex")
  unfold V_greater D_greater
  cases a <;> cases b <;> (simp only [oi] at k ⊢; walk_at "ex") <;> simp [maxB, oi]
  try (first | (split <;> (simp; try omega)) | omega)
/-! ### joined -/
def joinR (a b : Rs) : Rs := (a.zip b).map fun p => (p.1.zip p.2).map fun q => maxB q.1 q.2
def joinG : Gp → Gp → Gp
  | none, q => q
  | some a, none => some a
  | some a, some b => some (joinR a b)
theorem jrow_ok {fi : DenA} {p q : Nat} {ρ : RO} {V : FD} (hV : ∀ (a b : Option Int) (μ' : List MO), V [oi a, oi b] μ' = some (oi (maxB a b), μ')) {r s : List (Option Int)} (hz : r.length ≤ 1000) (hi : fi ρ μ = some ((r.zip s).map fun q => DV.tup [oi q.1, oi q.2], μ)) (hp : p < q) (hq : q < ρ.length) :
    dBlt oTuple (aCons (dLc fi (bd2 p q) dT (dCall V (aCons (dVar p) (aCons (dVar q) aNil)))) aNil) ρ μ = some (eR ((r.zip s).map fun q => maxB q.1 q.2), μ) := by
  have e := dLc_list (μ := μ) (fi := fi) (bd := bd2 p q) (elt := dCall V (aCons (dVar p) (aCons (dVar q) aNil))) (ρ := ρ) (r.zip s) (fun q => DV.tup [oi q.1, oi q.2]) (fun q => oi (maxB q.1 q.2)) hi (by simp; omega) (fun x hx => ⟨_, rfl, fun μ' => by
    have g1 : ((ρ.set p (some (oi x.1))).set q (some (oi x.2)))[p]? = some (some (oi x.1)) := by
      rw [List.getElem?_set_ne (by omega), List.getElem?_set_self (by omega)]
    have g2 : ((ρ.set p (some (oi x.1))).set q (some (oi x.2)))[q]? = some (some (oi x.2)) := by
      rw [List.getElem?_set_self (by simp; omega)]
    simp only [dCall, aCons, aNil, dVar, g1, g2, bnd_some, hV]⟩) fun _ _ => bel_oi _ _
  simp only [dBlt, aCons, aNil, e, bnd_some, oTuple]
  simp [itemsD, eR]
theorem jall_ok {fi gi : DenA} {p q u v : Nat} {ρ : RO} {V : FD} (hV : ∀ (a b : Option Int) (μ' : List MO), V [oi a, oi b] μ' = some (oi (maxB a b), μ')) {a b : Rs} {n : Nat} (wa : wR n a) (hz : n ≤ 1000)
    (hi : fi ρ μ = some ((a.zip b).map fun q => DV.tup [eR q.1, eR q.2], μ)) (hg : ∀ (r s : List (Option Int)) (μ' : List MO), gi ((ρ.set u (some (eR r))).set v (some (eR s))) μ' = some ((r.zip s).map fun q => DV.tup [oi q.1, oi q.2], μ')) (hp : p < q) (hq : q < ρ.length) :
    dBlt oTuple (aCons (dLc fi (bd2 u v) dT (dBlt oTuple (aCons (dLc gi (bd2 p q) dT (dCall V (aCons (dVar p) (aCons (dVar q) aNil)))) aNil))) aNil) ρ μ = some (eG (some (joinR a b)), μ) := by
  have e := dLc_list (μ := μ) (fi := fi) (bd := bd2 u v) (elt := dBlt oTuple (aCons (dLc gi (bd2 p q) dT (dCall V (aCons (dVar p) (aCons (dVar q) aNil)))) aNil)) (ρ := ρ) (a.zip b) (fun q => DV.tup [eR q.1, eR q.2]) (fun x => eR ((x.1.zip x.2).map fun q => maxB q.1 q.2)) hi (by simp [wa.1]; omega) (fun x hx => ⟨_, rfl, fun μ' => by
    have l := wa.2 x.1 (List.of_mem_zip (a := x.1) (b := x.2) hx).1
    exact jrow_ok hV (by omega) (hg x.1 x.2 μ') hp (by simpa using hq)⟩) fun _ _ => bel_eR _ _
  simp only [dBlt, aCons, aNil, e, bnd_some, oTuple]
  simp [itemsD, eG, joinR]
theorem zipX_ok {α β : Type} {f : α → DV} {g : β → DV} {xs : List α} {ys : List β} {ρ : RO} {u v : Nat} (h1 : ρ[u]? = some (some (.tup (xs.map f)))) (h2 : ρ[v]? = some (some (.tup (ys.map g)))) : iZipX (aCons (dVar u) (aCons (dVar v) aNil)) ρ μ = some ((xs.zip ys).map fun q => DV.tup [f q.1, g q.2], μ) := by
  simp only [iZipX, aCons, aNil, dVar, h1, h2, bnd_some, sqD, zipD_map]
noncomputable def J_expr : Den := dBlt oTuple (aCons (dLc (iZipX (aCons (dVar 0) (aCons (dVar 1) aNil))) (bd2 4 5) dT (dBlt oTuple (aCons (dLc (iZipX (aCons (dVar 4) (aCons (dVar 5) aNil))) (bd2 2 3) dT (dCall V_l_greater (aCons (dVar 2) (aCons (dVar 3) aNil)))) aNil))) aNil)
noncomputable def Jp_expr : Den := dBlt oTuple (aCons (dLc (iZipX (aCons (dVar 2) (aCons (dVar 3) aNil))) (bd2 6 7) dT (dBlt oTuple (aCons (dLc (iZipX (aCons (dVar 6) (aCons (dVar 7) aNil))) (bd2 4 5) dT (dCall V_greater (aCons (dVar 4) (aCons (dVar 5) aNil)))) aNil))) aNil)
theorem ljoined_ok {n : Nat} {p q : Gp} (wp : ∀ rs, p = some rs → wR n rs) (hz : n ≤ 1000) : V_l_joined [eG p, eG q] μ = some (eG (joinG p q), μ) := by
  have de : D_l_joined = (sCons (sIf (dOr (dOp2 oIs (dVar 0) (dC .non)) (dOp2 oIs (dVar 1) (dC .non)))
  (sCons (sRet (dIf (dOp2 oIs (dVar 0) (dC .non)) (dVar 1) (dVar 0)))
  sNil)
  sNil)
  (sCons (sRet J_expr)
  sNil)) := rfl
  unfold V_l_joined
  rw [de]
  cases p with
  | none =>
    simp only [eG, joinG]
    generalize eG q = d
    walk_at "ex"
  | some a =>
    cases q with
    | none =>
      simp only [eG, joinG]
      walk_at "ex"
    | some b =>
      have e := jall_ok (μ := μ) (fi := iZipX (aCons (dVar 0) (aCons (dVar 1) aNil))) (gi := iZipX (aCons (dVar 4) (aCons (dVar 5) aNil))) (p := 2) (q := 3) (u := 4) (v := 5) (ρ := [some (.tup (a.map eR)), some (.tup (b.map eR)), none, none, none, none]) (V := V_l_greater) (fun a b μ' => lgreater_ok a b) (a := a) (b := b) (wp a rfl) hz (zipX_ok rfl rfl) (fun r s μ' => zipX_ok (f := oi) (g := oi) rfl rfl) (by omega) (by simp)
      have e : J_expr [some (.tup (a.map eR)), some (.tup (b.map eR)), none, none, none, none] μ = some (eG (some (joinR a b)), μ) := e
      simp only [joinG]
      generalize eG (some (joinR a b)) = d at *
      show mkFn 2 _ _ [.tup (a.map eR), .tup (b.map eR)] μ = _
      generalize a.map eR = x at *
      generalize b.map eR = y at *
      walk_at "ex"
theorem pj_eq : D_gaps_joined = (sCons (sPar2 2 3 (aCons (dCall V_closing (aCons (dVar 0) aNil)) (aCons (dCall V_closing (aCons (dVar 1) aNil)) aNil)))
  (sCons (sIf (dOr (dOp2 oIs (dVar 2) (dC .non)) (dOp2 oIs (dVar 3) (dC .non)))
  (sCons (sRet (dIf (dOp2 oIs (dVar 2) (dC .non)) (dVar 3) (dVar 2)))
  sNil)
  sNil)
  (sCons (sRet Jp_expr)
  sNil))) := rfl
theorem pj_none {d : DV} (c1 : V_closing [.non] μ = some (.non, μ)) (c2 : V_closing [d] μ = some (d, μ)) : V_gaps_joined [.non, d] μ = some (d, μ) := by
  unfold V_gaps_joined
  rw [pj_eq]
  generalize V_closing = F at *
  walk_at "ex"
theorem pj_par {F : FD} {a b p q : DV} {s2 s3 s4 s5 s6 s7 : Option DV} (c1 : F [a] μ = some (p, μ)) (c2 : F [b] μ = some (q, μ)) : sPar2 2 3 (aCons (dCall F (aCons (dVar 0) aNil)) (aCons (dCall F (aCons (dVar 1) aNil)) aNil)) [some a, some b, s2, s3, s4, s5, s6, s7] μ = some (.nx [some a, some b, some p, some q, s4, s5, s6, s7] μ) := by
  simp only [sPar2, dCall, aCons, aNil, dVar, List.getElem?_cons_succ, List.getElem?_cons_zero, bnd_some, c1, c2]
  rfl
theorem pj_head {a b p q : DV} (c1 : V_closing [a] μ = some (p, μ)) (c2 : V_closing [b] μ = some (q, μ)) : V_gaps_joined [a, b] μ = endO μ (sCons (sIf (dOr (dOp2 oIs (dVar 2) (dC .non)) (dOp2 oIs (dVar 3) (dC .non)))
  (sCons (sRet (dIf (dOp2 oIs (dVar 2) (dC .non)) (dVar 3) (dVar 2)))
  sNil)
  sNil)
  (sCons (sRet Jp_expr)
  sNil) [some a, some b, some p, some q, none, none, none, none] μ) := by
  have st : startD ["gaps", "other", "closed", "beside", "one", "two", "row", "rest"] [a, b] = [some a, some b, none, none, none, none, none, none] := rfl
  unfold V_gaps_joined
  rw [pj_eq, eFn, if_pos (show [a, b].length = 2 from rfl), st, esCons, pj_par c1 c2, sqO_nx]
theorem pj_none2 {x : List DV} (c1 : V_closing [.tup x] μ = some (.tup x, μ)) (c2 : V_closing [.non] μ = some (.non, μ)) : V_gaps_joined [.tup x, .non] μ = some (.tup x, μ) := by
  have s1 : sIf (dOr (dOp2 oIs (dVar 2) (dC .non)) (dOp2 oIs (dVar 3) (dC .non))) (sCons (sRet (dIf (dOp2 oIs (dVar 2) (dC .non)) (dVar 3) (dVar 2))) sNil) sNil [some (.tup x), some .non, some (.tup x), some .non, none, none, none, none] μ = some (.rt (.tup x) μ) := rfl
  rw [pj_head c1 c2, esCons, s1, sqO_rt, endO_rt, cutd_self]
theorem pj_run {x y : List DV} {d : DV} (c1 : V_closing [.tup x] μ = some (.tup x, μ)) (c2 : V_closing [.tup y] μ = some (.tup y, μ)) (e : Jp_expr [some (.tup x), some (.tup y), some (.tup x), some (.tup y), none, none, none, none] μ = some (d, μ)) : V_gaps_joined [.tup x, .tup y] μ = some (d, μ) := by
  have s1 : sIf (dOr (dOp2 oIs (dVar 2) (dC .non)) (dOp2 oIs (dVar 3) (dC .non))) (sCons (sRet (dIf (dOp2 oIs (dVar 2) (dC .non)) (dVar 3) (dVar 2))) sNil) sNil [some (.tup x), some (.tup y), some (.tup x), some (.tup y), none, none, none, none] μ = some (.nx [some (.tup x), some (.tup y), some (.tup x), some (.tup y), none, none, none, none] μ) := rfl
  rw [pj_head c1 c2, esCons, s1, sqO_nx, esCons, sRet, e, bnd_some, sqO_rt, endO_rt, cutd_self]
theorem eG_some (a : Rs) : eG (some a) = .tup (a.map eR) := rfl
theorem pjoined_ok {n : Nat} {p q : Gp} (wp : ∀ rs, p = some rs → wR n rs) (hz : n ≤ 1000) (c1 : V_closing [eG p] μ = some (eG p, μ)) (c2 : V_closing [eG q] μ = some (eG q, μ)) : V_gaps_joined [eG p, eG q] μ = some (eG (joinG p q), μ) := by
  cases p with
  | none => exact pj_none c1 c2
  | some a =>
    rw [eG_some] at c1 ⊢
    cases q with
    | none => exact pj_none2 c1 c2
    | some b =>
      rw [eG_some] at c2 ⊢
      exact pj_run c1 c2 (jall_ok (μ := μ) (fi := iZipX (aCons (dVar 2) (aCons (dVar 3) aNil))) (gi := iZipX (aCons (dVar 6) (aCons (dVar 7) aNil))) (p := 4) (q := 5) (u := 6) (v := 7) (ρ := [some (.tup (a.map eR)), some (.tup (b.map eR)), some (.tup (a.map eR)), some (.tup (b.map eR)), none, none, none, none]) (V := V_greater) (fun a b μ' => greater_ok a b) (a := a) (b := b) (wp a rfl) hz (zipX_ok rfl rfl) (fun r s μ' => zipX_ok (f := oi) (g := oi) rfl rfl) (by omega) (by simp))
theorem at3_join {n : Nat} {a b : Rs} (wa : wR n a) (wb : wR n b) (i j : Nat) : at3 (joinR a b) i j = maxB (at3 a i j) (at3 b i j) := by
  by_cases hi : i < n
  · have ia : i < a.length := by rw [wa.1]; exact hi
    have ib : i < b.length := by rw [wb.1]; exact hi
    have ra := wa.2 _ (List.getElem_mem ia)
    have rb := wb.2 _ (List.getElem_mem ib)
    have e : (joinR a b)[i]? = some ((a[i].zip b[i]).map fun q => maxB q.1 q.2) := by
      unfold joinR
      rw [List.getElem?_map, List.getElem?_eq_getElem (by simp; omega), List.getElem_zip]
      rfl
    by_cases hj : j < n
    · rw [at3_get wa ia (by omega), at3_get wb ib (by omega)]
      unfold at3
      rw [e]
      simp only
      rw [List.getElem?_map, List.getElem?_eq_getElem (by simp; omega), List.getElem_zip]
      rfl
    · rw [at3_out wa (.inr (by omega)), at3_out wb (.inr (by omega))]
      unfold at3
      rw [e]
      simp only
      rw [List.getElem?_eq_none (by simp; omega)]
      rfl
  · rw [at3_out wa (.inl (by omega)), at3_out wb (.inl (by omega))]
    unfold at3
    rw [List.getElem?_eq_none (by unfold joinR; simp [wa.1, wb.1]; omega)]
    rfl
theorem maxB_l {x : Int} {a b : Option Int} (h : upTo x a) : upTo x (maxB a b) := by
  cases a <;> cases b <;> simp_all [Df.upTo, maxB]
  omega
theorem maxB_r {x : Int} {a b : Option Int} (h : upTo x b) : upTo x (maxB a b) := by
  cases a <;> cases b <;> simp_all [Df.upTo, maxB]
  omega
theorem wR_join {n : Nat} {a b : Rs} (wa : wR n a) (wb : wR n b) : wR n (joinR a b) := by
  refine ⟨by simp [joinR, wa.1, wb.1], fun r hr => ?_⟩
  unfold joinR at hr
  obtain ⟨p, hp, rfl⟩ := List.mem_map.mp hr
  have := List.of_mem_zip (a := p.1) (b := p.2) hp
  simp [wa.2 _ this.1, wb.2 _ this.2]
theorem wG_of {n : Nat} {rs : Rs} (w : wR (n + 1) rs) (d : dg0 (n + 1) (at3 rs)) : wG n (some rs) := by
  refine ⟨w.1, fun i r hr => ?_⟩
  obtain ⟨il, rfl⟩ := List.getElem?_eq_some_iff.mp hr
  have rl := w.2 _ (List.getElem_mem il)
  have hi : i < n + 1 := by rw [← w.1]; exact il
  refine ⟨rl, ?_⟩
  have := d i hi
  rw [at3_get w il (by omega)] at this
  rw [List.getElem?_eq_getElem (by omega), this]
theorem wG_join {n : Nat} {p q : Gp} (hp : wG n p) (hq : wG n q) : wG n (joinG p q) := by
  cases p with
  | none => exact hq
  | some a =>
    cases q with
    | none => exact hp
    | some b =>
      refine wG_of (wR_join (wR_of hp) (wR_of hq)) fun i hi => ?_
      rw [at3_join (wR_of hp) (wR_of hq), dg0_of_w hp i hi, dg0_of_w hq i hi]
      rfl
theorem ClG.wG {n : Nat} {g o : Gp} (c : ClG n g o) (w : Lw.wG n g) : Lw.wG n o := by
  cases o with
  | none => trivial
  | some cs => exact wG_of c.w fun i hi => (c.cl w).dg i hi
/-- closed once more: the same -/
theorem step_self {n k : Nat} {C : Mt} {rs : Rs} (w : wR n rs) (e : C = at3 rs) (cl : Cl n C) (hk : k < n) : Df.step k C = C := by
  funext i j
  unfold Df.step
  by_cases h : i < n ∧ j < n
  · have t := cl.tr i j k h.1 h.2 hk
    revert t
    cases C i j <;> cases addB (C i k) (C k j) <;> simp [leB, minB] <;> omega
  · have e1 : C i j = none := by rw [e]; exact at3_out w (by omega)
    have e2 : addB (C i k) (C k j) = none := by
      by_cases hi : i < n
      · have : C k j = none := by rw [e]; exact at3_out w (by omega)
        rw [this]
        cases C i k <;> rfl
      · have : C i k = none := by rw [e]; exact at3_out w (by omega)
        rw [this]
        rfl
    rw [e1, e2]
    rfl
theorem fw_self {n : Nat} {rs : Rs} (w : wR n rs) (cl : Cl n (at3 rs)) : ∀ k, k ≤ n → Fw n (at3 rs) k (some (at3 rs))
  | 0, _ => .zero
  | k + 1, h => by
    have f := fw_self w cl k (by omega)
    have e := step_self w rfl cl (k := k) (by omega)
    have g := f.go (k := k) (by rw [e]; exact fun i hi => by rw [cl.dg i hi]; exact leB.refl _)
    rwa [e] at g
theorem ClG.self {n : Nat} {g o : Gp} (c : ClG n g o) (w : Lw.wG n g) : ClG n o o := by
  refine ⟨id, fun rs e => ?_⟩
  subst e
  exact ⟨fw_self c.w (c.cl w) _ (Nat.le_refl _), fun rs' e => (by cases e; exact c.w)⟩

end Lw

namespace Lw
open PySem PySem.Spec L2 Eg
local macro_rules | `(tactic| walk_at "ex") => `(tactic| simp [eFn, startD, esCons, sRet, esIf, sNil, sSet, sAsg, sExp, sPar2, sPar3, dVar, dC, dOp2, dCall, dBlt, dTup, dLst, dLstM, eIf, eAnd, eOr, eNot, eNeg, dIsi, eChain, aCons, aNil, gTu, gAnd, gNm, gSb, gEnd, dSl, runP, sFor, forL_nil, forL_cons, iSeq, iRange1, iRange2, oDiv_ok, oMod_ok, oPow_ok, oSub, oLt, oLe, oGt, oGe, oEq, oNe, oIs, oIsnt, xIx_t, xIx_l, xIx_m, xIx_s, oLen, oInt, oAbs, oMM, oTuple, oDivmod, oInN, flatL, DV.flat, dCallW, permI, oAll, blsD, oMax1, oMin1, maxI, minI, intsD, inV1, inV2, eqV, DV.isN, eqvD, eqvL, shD, shL, xItems_t, xItems_l, xItems_m, xLen_t, xLen_l, xLen_m, xLen_s, atI, ixN, DV.ty, kitT, sl_eq, *])
open Df
variable {μ : List MO}
/-! ### values beside others -/
theorem shL_ints (n : Nat) (v : List Int) : shL n (v.map DV.int) = true := by
  induction v with
  | nil => rfl
  | cons a v ih => simp [shL, shD, ih]
theorem near_ok {k : Nat} {μ0 : List MO} {N : Nat} {v : List Int} {b : Int} (w : Sr k μ0 N μ) (hN : N < 100000000000000000) (hz : v.length ≤ 1000) (hv : smalls b v) :
    ∃ v' μ', V_l_near_spots [.mu k, .tup (v.map DV.int)] μ = some (.tup (v'.map DV.int), μ') ∧ v'.length = v.length ∧ smalls (b + 7) v' ∧ Sr k μ0 (N + 2) μ' := by
  cases v with
  | nil =>
    refine ⟨[], μ, ?_, rfl, fun x hx => by simp at hx, w.mono (by omega)⟩
    unfold V_l_near_spots D_l_near_spots
    walk_at "ex"
  | cons y ys =>
    have hl : (y :: ys).length = (y :: ys).length := rfl
    generalize hvv : y :: ys = v at *
    have ne : 0 < v.length := by rw [← hvv]; simp
    clear hvv
    obtain ⟨r, M1, e1, r0, r1, w1⟩ := draw_ok w (by omega) (m := (v.length : Int)) (by omega) (by omega)
    obtain ⟨d, M2, e2, hd, w2⟩ := pick_ok w1 (by omega) (ds := [.int 1, .int (-1), .int 2, .int (-2), .int 0, .int 7]) (by decide) (by decide)
    obtain ⟨x, x0, x1, rfl⟩ : ∃ x : Int, -7 ≤ x ∧ x ≤ 7 ∧ d = .int x := by
      simp only [List.mem_cons, List.not_mem_nil, or_false] at hd
      rcases hd with rfl | rfl | rfl | rfl | rfl | rfl <;> exact ⟨_, by decide, by decide, rfl⟩
    obtain ⟨t, rfl⟩ : ∃ t : Nat, r = t := ⟨r.toNat, by omega⟩
    have ht : t < v.length := by omega
    have a1 : atI (v.map DV.int) (t : Int) = some (.int v[t]) := atI_nat (by simp [List.getElem?_eq_getElem ht])
    refine ⟨v.set t (v[t] + x), M2, ?_, by simp, fun y hy => ?_, w2⟩
    · have l2 : M2.length = μ.length := by rw [w2.len, w.len]
      have ln : oLen [.tup (v.map DV.int)] M1 = some (.int (v.length : Int), M1) := by simp [oLen, xLen_t]
      have ln0 : oLen [.tup (v.map DV.int)] μ = some (.int (v.length : Int), μ) := by simp [oLen, xLen_t]
      have nt : oEq (.tup (v.map DV.int)) (.tup []) μ = some (.bl false, μ) := by
        obtain ⟨z, zs, hz⟩ : ∃ z zs, v = z :: zs := by
          cases v with
          | nil => simp at ne
          | cons z zs => exact ⟨_, _, rfl⟩
        have s3 := shL_ints 59 zs
        subst hz
        simp [oEq, eqvD, eqvL, shD, shL, s3]
      have fx : (dOp2 oAdd (dOp2 oIx (dVar 1) (dVar 2)) (dCall V_l_pick (aCons (dVar 0) (aCons (dTup (aCons (dC (.int 1)) (aCons (dNeg (dC (.int 1))) (aCons (dC (.int 2)) (aCons (dNeg (dC (.int 2))) (aCons (dC (.int 0)) (aCons (dC (.int 7)) aNil))))))) aNil)))) [some (.mu k), some (.tup (v.map DV.int)), some (.int (t : Int))] M1 = some (.int (v[t] + x), M2) := by
        have ix : dOp2 oIx (dVar 1) (dVar 2) [some (.mu k), some (.tup (v.map DV.int)), some (.int (t : Int))] M1 = some (.int v[t], M1) := by
          simp only [dOp2, dVar, List.getElem?_cons_succ, List.getElem?_cons_zero, bnd_some, xIx_t, a1, Option.map_some]
        clear a1 nt
        generalize dOp2 oIx (dVar 1) (dVar 2) = f at *
        generalize v.map DV.int = vs at *
        generalize v[t] = y at *
        generalize V_l_pick = F at *
        walk_at "ex"
      have put := dPut_at (μ := M1) (μ2 := M2) (fa := dVar 1) (s := 2) (xs := v.map DV.int) (j := t) rfl rfl rfl fx (by simp; omega) (by simp; omega)
      have st : startD ["_law_spring_here", "_law_spots_here", "_law_spot"] [DV.mu k, .tup (v.map DV.int)] = [some (.mu k), some (.tup (v.map DV.int)), none] := rfl
      have s1 : sIf (dOp2 oEq (dVar 1) (dTup aNil)) (sCons (sRet (dVar 1)) sNil) sNil [some (.mu k), some (.tup (v.map DV.int)), none] μ = some (.nx [some (.mu k), some (.tup (v.map DV.int)), none] μ) := by
        simp only [esIf, dOp2, dVar, dTup, aNil, List.getElem?_cons_succ, List.getElem?_cons_zero, bnd_some, List.length_nil]
        simp [nt, sNil]
      have s2 : sSet 2 (dCall V_l_draw (aCons (dVar 0) (aCons (dBlt oLen (aCons (dVar 1) aNil)) aNil))) [some (.mu k), some (.tup (v.map DV.int)), none] μ = some (.nx [some (.mu k), some (.tup (v.map DV.int)), some (.int (t : Int))] M1) := by
        simp only [sSet, dCall, dBlt, aCons, aNil, dVar, List.getElem?_cons_succ, List.getElem?_cons_zero, bnd_some, ln0, e1]
        rfl
      unfold V_l_near_spots D_l_near_spots
      rw [eFn, if_pos (show [DV.mu k, .tup (v.map DV.int)].length = 2 from rfl), st, esCons, s1, sqO_nx, esCons, s2, sqO_nx, esCons, sRet, put, bnd_some, sqO_rt, endO_rt, List.map_set]
      exact cutd_len l2
    · rcases List.mem_or_eq_of_mem_set hy with h | rfl
      · have := hv y h
        omega
      · have := hv _ (List.getElem_mem ht)
        omega

end Lw

namespace Lw
open PySem PySem.Spec L2 Eg
local macro_rules | `(tactic| walk_at "ex") => `(tactic| simp [eFn, startD, esCons, sRet, esIf, sNil, sSet, sAsg, sExp, sPar2, sPar3, dVar, dC, dOp2, dCall, dBlt, dTup, dLst, dLstM, eIf, eAnd, eOr, eNot, eNeg, dIsi, eChain, aCons, aNil, gTu, gAnd, gNm, gSb, gEnd, dSl, runP, sFor, forL_nil, forL_cons, iSeq, iRange1, iRange2, oDiv_ok, oMod_ok, oPow_ok, oSub, oLt, oLe, oGt, oGe, oEq, oNe, oIs, oIsnt, xIx_t, xIx_l, xIx_m, xIx_s, oLen, oInt, oAbs, oMM, oTuple, oDivmod, oInN, flatL, DV.flat, dCallW, permI, oAll, blsD, oMax1, oMin1, maxI, minI, intsD, inV1, inV2, eqV, DV.isN, eqvD, eqvL, shD, shL, xItems_t, xItems_l, xItems_m, xLen_t, xLen_l, xLen_m, xLen_s, atI, ixN, DV.ty, kitT, sl_eq, *])
open Df
variable {μ : List MO}
theorem sApp_a {A A' : List MO} {xs : List DV} {d : DV} {fa : Den} {ρ : RO} {s : Nat} (hs : ρ[s]? = some (some (.mu A.length))) (ha : fa ρ (A ++ [.lst xs]) = some (d, A' ++ [.lst xs])) (hl : A'.length = A.length) (hz : xs.length < 16777216) :
    sExp (dApp (dVar s) fa) ρ (A ++ [.lst xs]) = some (.nx ρ (A' ++ [.lst (xs ++ [d])])) := by
  rw [sExp, dApp_at hs ha hl hz, bnd_some]
theorem Shw_reprL {n L : Nat} {xs : List DV} (h : Shw n L (.lst xs)) (hn : n ≤ 100) (hL : L ≤ sizeLine) : ∃ x, reprD (.lst xs) = some x := by
  obtain ⟨pd, e, h1, h2, h3⟩ := h
  refine ⟨pd.shown, ?_⟩
  simp only [reprD, e]
  rw [if_pos ⟨h1, by omega, by omega⟩]
theorem oi_shw {o : Option Int} {b : Int} (hb : b ≤ 10000000000000000000000000000000000000000) (h : ∀ x, o = some x → -b ≤ x ∧ x ≤ b) : Shw 1 60 (oi o) := by
  cases o with
  | none => exact Shw.non
  | some x =>
    have := h x rfl
    refine Shw.int ?_
    have e40 : (10 : Nat) ^ 40 = 10000000000000000000000000000000000000000 := by decide
    rw [e40]
    omega
theorem eG_shw {n : Nat} {o : Gp} {b : Int} (hn : n ≤ 21) (hb : b ≤ 10000000000000000000000000000000000000000) (w : ∀ cs, o = some cs → wR n cs ∧ mag b (at3 cs)) : Shw 3 28000 (eG o) := by
  cases o with
  | none => exact Shw.up Shw.non (by omega) (by omega)
  | some cs =>
    obtain ⟨w, m⟩ := w cs rfl
    refine Shw.up (Shw.tup (n := 2) (L := 1310) (ds := cs.map eR) fun d hd => ?_) (by omega) (by rw [List.length_map, w.1]; omega)
    obtain ⟨r, hr, rfl⟩ := List.mem_map.mp hd
    obtain ⟨i, hi, rfl⟩ := List.mem_iff_getElem.mp hr
    have rl := w.2 _ hr
    refine Shw.up (Shw.tup (n := 1) (L := 60) (ds := (cs[i]).map oi) fun d hd => ?_) (by omega) (by rw [List.length_map, rl]; omega)
    obtain ⟨x, hx, rfl⟩ := List.mem_map.mp hd
    obtain ⟨j, hj, rfl⟩ := List.mem_iff_getElem.mp hx
    refine oi_shw hb fun x e => m i j x ?_
    rw [at3_get w hi hj, e]
/-! ### guarded by one -/
def GuG (n : Nat) (g : Gp) (i j : Nat) (b : Int) (o : Gp) : Prop := (g = none → o = none) ∧ ∀ rs, g = some rs → Clo (n + 1) (guardM rs [(i, j, b)]) o
section
variable {n i j : Nat} {b : Int} {g o : Gp}
theorem okB1 (hi : i ≤ n) (hj : j ≤ n) : okB (n + 1) [(i, j, b)] := fun p hp => by
  simp at hp
  subst hp
  exact ⟨by simp only; omega, by simp only; omega⟩
theorem GuG.det {o' : Gp} (h : GuG n g i j b o) (h' : GuG n g i j b o') : o = o' := by
  cases g with
  | none => rw [h.1 rfl, h'.1 rfl]
  | some rs => exact (h.2 rs rfl).det (h'.2 rs rfl)
theorem GuG.get {cs : Rs} (h : GuG n g i j b (some cs)) : ∃ rs, g = some rs ∧ Clo (n + 1) (guardM rs [(i, j, b)]) (some cs) := by
  cases g with
  | none => cases h.1 rfl
  | some rs => exact ⟨rs, rfl, h.2 rs rfl⟩
theorem GuG.cl {cs : Rs} (h : GuG n g i j b (some cs)) (w : wG n g) (hi : i ≤ n) (hj : j ≤ n) : wR (n + 1) cs ∧ Cl (n + 1) (at3 cs) := by
  obtain ⟨rs, rfl, c⟩ := h.get
  exact ⟨c.2 _ rfl, c.cl (by omega) (guard_ok (okB1 hi hj) (wR_of w) (dgle_of0 (dg0_of_w w))).2.1⟩
theorem GuG.wG (h : GuG n g i j b o) (w : wG n g) (hi : i ≤ n) (hj : j ≤ n) : Lw.wG n o := by
  cases o with
  | none => trivial
  | some cs =>
    obtain ⟨w1, c1⟩ := h.cl w hi hj
    exact wG_of w1 fun i hi => c1.dg i hi
theorem GuG.self (h : GuG n g i j b o) (w : Lw.wG n g) (hi : i ≤ n) (hj : j ≤ n) : ClG n o o := by
  refine ⟨id, fun rs e => ?_⟩
  subst e
  obtain ⟨w1, c1⟩ := h.cl w hi hj
  exact ⟨fw_self w1 c1 _ (Nat.le_refl _), fun rs' e => (by cases e; exact w1)⟩
theorem GuG.holds (h : GuG n g i j b o) (w : Lw.wG n g) (hi : i ≤ n) (hj : j ≤ n) (v : List Int) : holds n o v ↔ holds n g v ∧ T (0 :: v) i - T (0 :: v) j ≤ b := by
  cases g with
  | none =>
    rw [h.1 rfl]
    simp [Lw.holds]
  | some rs =>
    have c := h.2 rs rfl
    have s := (guard_ok (okB1 (b := b) hi hj) (wR_of w) (dgle_of0 (dg0_of_w w))).2.2 (T (0 :: v))
    simp only [List.mem_cons, List.not_mem_nil, or_false, forall_eq] at s
    cases o with
    | none =>
      have u := c.unsat (T (0 :: v))
      rw [s] at u
      constructor
      · rintro ⟨cs, e, _⟩
        cases e
      · rintro ⟨⟨rs', e, s'⟩, hb⟩
        cases e
        exact (u ⟨s', hb⟩).elim
    | some cs =>
      have u := (c.sat (T (0 :: v))).trans s
      constructor
      · rintro ⟨cs', e, s'⟩
        cases e
        exact ⟨⟨rs, rfl, (u.mp s').1⟩, (u.mp s').2⟩
      · rintro ⟨⟨rs', e, s'⟩, hb⟩
        cases e
        exact ⟨cs, rfl, u.mpr ⟨s', hb⟩⟩
theorem GuG.mag {cs : Rs} {m : Int} (h : GuG n g i j b (some cs)) (hn : n ≤ 20) (w : wGm m n g) (hm : 0 ≤ m) (b0 : -m ≤ b) (b1 : b ≤ m) (hi : i ≤ n) (hj : j ≤ n) : Lw.mag (2097152 * m) (at3 cs) := by
  obtain ⟨rs, rfl, c⟩ := h.get
  exact c.mag (by omega) hm (mag_guard (okB1 hi hj) (wR_of w.1) (w.2 rs rfl) fun p hp => by
    simp at hp
    subst hp
    exact ⟨b0, b1⟩)
theorem GuG.shw {m : Int} (h : GuG n g i j b o) (hn : n ≤ 20) (w : wGm m n g) (hm : 0 ≤ m) (h2 : m ≤ 1000000000000000000) (b0 : -m ≤ b) (b1 : b ≤ m) (hi : i ≤ n) (hj : j ≤ n) : Shw 3 28000 (eG o) :=
  eG_shw (n := n + 1) (b := 2097152 * m) (by omega) (by omega) fun cs e => by
    subst e
    exact ⟨(h.cl w.1 hi hj).1, h.mag hn w hm b0 b1 hi hj⟩
theorem pguard_ex (hn : n ≤ 20) (w : Lw.wG n g) (hi : i ≤ n) (hj : j ≤ n) : ∃ o, GuG n g i j b o ∧ V_gaps_guarded [eG g, .lst [.tup [.int (i : Int), .int (j : Int), .int b]]] μ = some (eG o, μ) := by
  cases g with
  | none => exact ⟨none, ⟨fun _ => rfl, fun rs e => (by cases e)⟩, guarded_none⟩
  | some rs =>
    obtain ⟨q, h1, h2⟩ := pguarded_ok (μ := μ) (n := n + 1) (bs := [(i, j, b)]) (by omega) (wR_of w) (dgle_of0 (dg0_of_w w)) (okB1 hi hj)
    exact ⟨q, ⟨fun e => (by cases e), fun rs' e => (by cases e; exact h1)⟩, h2⟩
theorem pguard_at (h : GuG n g i j b o) (hn : n ≤ 20) (w : Lw.wG n g) (hi : i ≤ n) (hj : j ≤ n) : V_gaps_guarded [eG g, .lst [.tup [.int (i : Int), .int (j : Int), .int b]]] μ = some (eG o, μ) := by
  obtain ⟨o', h', e⟩ := pguard_ex (μ := μ) (b := b) hn w hi hj
  rw [e, h.det h']
theorem guard_ex (hn : n ≤ 20) (w : Lw.wG n g) (hi : i ≤ n) (hj : j ≤ n) : ∃ o, GuG n g i j b o := by
  obtain ⟨o, h, _⟩ := pguard_ex (μ := []) (b := b) hn w hi hj
  exact ⟨o, h⟩
theorem dguard_at (h : GuG n g i j b o) (hn : n ≤ 20) (w : Lw.wG n g) (hi : i ≤ n) (hj : j ≤ n) : V_differences_guarded [.int (n : Int), eG g, .int (i : Int), .int (j : Int), .int b] μ = some (eG o, μ) := by
  have e1 := pguard_at (μ := μ) h hn w hi hj
  have e2 := refuse_wrong_pair_ok (μ := μ) (b := b) (i := (i : Int)) (j := (j : Int)) hn w (by omega) (by omega) (by omega) (by omega)
  generalize eG g = dg at *
  generalize eG o = dq at *
  unfold V_differences_guarded D_differences_guarded
  generalize V_gaps_guarded = F at *
  generalize V_refuse_wrong_pair = R at *
  walk_at "ex"
theorem dunlike_at {o2 : Gp} (h : GuG n g i j (b - 1) o) (h' : GuG n g j i (-b - 1) o2) (hn : n ≤ 20) (w : Lw.wG n g) (hi : i ≤ n) (hj : j ≤ n) : V_differences_unlike [.int (n : Int), eG g, .int (i : Int), .int (j : Int), .int b] μ = some (eG (joinG o o2), μ) := by
  have e1 := pguard_at (μ := μ) h hn w hi hj
  have e2 := refuse_wrong_pair_ok (μ := μ) (b := b) (i := (i : Int)) (j := (j : Int)) hn w (by omega) (by omega) (by omega) (by omega)
  have e3 := pguard_at (μ := μ) h' hn w hj hi
  have e4 := pjoined_ok (μ := μ) (p := o) (q := o2) (n := n + 1) (fun rs e => by subst e; exact (h.cl w hi hj).1) (by omega) (pclosing_at hn (h.wG w hi hj) (h.self w hi hj)) (pclosing_at hn (h'.wG w hj hi) (h'.self w hj hi))
  have e5 : V_gaps_unlike [eG g, .int (i : Int), .int (j : Int), .int b] μ = some (eG (joinG o o2), μ) := by
    generalize eG g = dg at *
    generalize eG o = dq at *
    generalize eG o2 = dr at *
    generalize eG (joinG o o2) = dj at *
    unfold V_gaps_unlike D_gaps_unlike
    generalize V_gaps_guarded = F at *
    generalize V_gaps_joined = R at *
    clear e2 h h'
    walk_at "ex"
  generalize eG g = dg at *
  generalize eG (joinG o o2) = dj at *
  unfold V_differences_unlike D_differences_unlike
  generalize V_gaps_unlike = F at *
  generalize V_refuse_wrong_pair = R at *
  clear e1 e3 e4
  walk_at "ex"
/-! ### the law's own -/
theorem setM_put {rs : Rs} : setM rs i j b = putM rs i j (minB (at3 rs i j) (some b)) := by
  unfold setM putM at3
  cases rs[i]? <;> rfl
noncomputable def lgW : Den := dCall V_l_with (aCons (dVar 1) (aCons (dVar 2) (aCons (dVar 3) (aCons (dCall V_l_lesser (aCons (dOp2 oIx (dOp2 oIx (dVar 1) (dVar 2)) (dVar 3)) (aCons (dVar 4) aNil))) aNil))))
end

end Lw

namespace Lw
open PySem PySem.Spec L2 Eg
local macro_rules | `(tactic| walk_at "ex") => `(tactic| simp [eFn, startD, esCons, sRet, esIf, sNil, sSet, sAsg, sExp, sPar2, sPar3, dVar, dC, dOp2, dCall, dBlt, dTup, dLst, dLstM, eIf, eAnd, eOr, eNot, eNeg, dIsi, eChain, aCons, aNil, gTu, gAnd, gNm, gSb, gEnd, dSl, runP, sFor, forL_nil, forL_cons, iSeq, iRange1, iRange2, oDiv_ok, oMod_ok, oPow_ok, oSub, oLt, oLe, oGt, oGe, oEq, oNe, oIs, oIsnt, xIx_t, xIx_l, xIx_m, xIx_s, oLen, oInt, oAbs, oMM, oTuple, oDivmod, oInN, flatL, DV.flat, dCallW, permI, oAll, blsD, oMax1, oMin1, maxI, minI, intsD, inV1, inV2, eqV, DV.isN, eqvD, eqvL, shD, shL, xItems_t, xItems_l, xItems_m, xLen_t, xLen_l, xLen_m, xLen_s, atI, ixN, DV.ty, kitT, sl_eq, *])
open Df
variable {μ : List MO}
theorem bound_o : V_l_bound_o = V_l_bound := rfl
theorem about_o : V_l_about_o = V_l_about := rfl
theorem size_o_ok {k : Nat} {μ0 : List MO} {N : Nat} (w : Sr k μ0 N μ) (hN : N < 1000000000000000000) : ∃ (n : Nat) (μ' : List MO), V_l_size_o [.mu k] μ = some (.int (n : Int), μ') ∧ n ≤ 20 ∧ Sr k μ0 (N + 2) μ' := by
  obtain ⟨r, μ1, e1, r0, r1, w1⟩ := draw_ok w (by omega) (m := 24) (by omega) (by omega)
  by_cases h : r = 23
  · obtain ⟨q, μ2, e2, q0, q1, w2⟩ := draw_ok w1 (by omega) (m := 7) (by omega) (by omega)
    have hl : μ2.length = μ.length := by rw [w2.len, w.len]
    obtain ⟨n, rfl⟩ : ∃ n : Nat, q = n := ⟨q.toNat, by omega⟩
    refine ⟨6 + n, μ2, ?_, by omega, w2⟩
    unfold V_l_size_o D_l_size_o
    subst h
    walk_at "ex"
    exact cutd_len hl
  · obtain ⟨d, μ2, e2, hd, w2⟩ := pick_ok w1 (by omega) (ds := [.int 2, .int 3, .int 1, .int 2, .int 3, .int 0, .int 4, .int 5]) (by decide) (by decide)
    have hl : μ2.length = μ.length := by rw [w2.len, w.len]
    obtain ⟨n, hn, rfl⟩ : ∃ n : Nat, n ≤ 20 ∧ d = .int (n : Int) := by
      simp only [List.mem_cons, List.not_mem_nil, or_false] at hd
      rcases hd with rfl | rfl | rfl | rfl | rfl | rfl | rfl | rfl
      · exact ⟨2, by omega, rfl⟩
      · exact ⟨3, by omega, rfl⟩
      · exact ⟨1, by omega, rfl⟩
      · exact ⟨2, by omega, rfl⟩
      · exact ⟨3, by omega, rfl⟩
      · exact ⟨0, by omega, rfl⟩
      · exact ⟨4, by omega, rfl⟩
      · exact ⟨5, by omega, rfl⟩
    refine ⟨n, μ2, ?_, hn, w2⟩
    unfold V_l_size_o D_l_size_o
    walk_at "ex"
    exact cutd_len hl
/-! ### the law's guarded -/
noncomputable def lgCell : Den := dOp2 oIx (dOp2 oIx (dVar 1) (dVar 2)) (dVar 3)
theorem lg_eq : D_l_guarded = (sCons (sIf (dOr (dOp2 oIs (dVar 1) (dC .non)) (dAnd (dOp2 oEq (dVar 2) (dVar 3)) (dOp2 oLt (dVar 4) (dC (.int 0)))))
  (sCons (sRet (dC .non))
  sNil)
  sNil)
  (sCons (sIf (dOp2 oEq (dVar 2) (dVar 3))
  (sCons (sRet (dCall V_l_closing (aCons (dVar 0) (aCons (dVar 1) aNil))))
  sNil)
  sNil)
  (sCons (sRet (dCall V_l_closing (aCons (dVar 0) (aCons (dCall V_l_with (aCons (dVar 1) (aCons (dVar 2) (aCons (dVar 3) (aCons (dCall V_l_lesser (aCons lgCell (aCons (dVar 4) aNil))) aNil))))) aNil))))
  sNil))) := rfl
theorem lg_none {dn di dj db : DV} : V_l_guarded [dn, .non, di, dj, db] μ = some (.non, μ) := by
  unfold V_l_guarded
  rw [lg_eq]
  generalize V_l_closing = F
  walk_at "ex"
theorem lg_neg {dn : DV} {x : List DV} {p b : Int} (hb : b < 0) : V_l_guarded [dn, .tup x, .int p, .int p, .int b] μ = some (.non, μ) := by
  unfold V_l_guarded
  rw [lg_eq]
  generalize V_l_closing = F
  have st : startD ["_law_size_here", "_law_wide", "_law_here", "_law_there", "_law_gap_here"] [dn, .tup x, .int p, .int p, .int b] = [some dn, some (.tup x), some (.int p), some (.int p), some (.int b)] := rfl
  have c : dOr (dOp2 oIs (dVar 1) (dC .non)) (dAnd (dOp2 oEq (dVar 2) (dVar 3)) (dOp2 oLt (dVar 4) (dC (.int 0)))) [some dn, some (.tup x), some (.int p), some (.int p), some (.int b)] μ = some (.bl true, μ) := by walk_at "ex"
  rw [eFn, if_pos (show [dn, .tup x, .int p, .int p, .int b].length = 5 from rfl), st, esCons, esIf, c, bnd_some]
  show endO μ (sqO (some (.rt .non μ)) _) = _
  rw [sqO_rt, endO_rt, cutd_self]
theorem lg_same {dn d : DV} {x : List DV} {p b : Int} (hb : 0 ≤ b) (e : V_l_closing [dn, .tup x] μ = some (d, μ)) : V_l_guarded [dn, .tup x, .int p, .int p, .int b] μ = some (d, μ) := by
  unfold V_l_guarded
  rw [lg_eq]
  generalize V_l_closing = F at *
  have st : startD ["_law_size_here", "_law_wide", "_law_here", "_law_there", "_law_gap_here"] [dn, .tup x, .int p, .int p, .int b] = [some dn, some (.tup x), some (.int p), some (.int p), some (.int b)] := rfl
  have hb' : ¬ b < 0 := by omega
  have c : dOr (dOp2 oIs (dVar 1) (dC .non)) (dAnd (dOp2 oEq (dVar 2) (dVar 3)) (dOp2 oLt (dVar 4) (dC (.int 0)))) [some dn, some (.tup x), some (.int p), some (.int p), some (.int b)] μ = some (.bl false, μ) := by
    clear e
    walk_at "ex"
  have c2 : dOp2 oEq (dVar 2) (dVar 3) [some dn, some (.tup x), some (.int p), some (.int p), some (.int b)] μ = some (.bl true, μ) := by
    clear e
    walk_at "ex"
  have c3 : sCons (sRet (dCall F (aCons (dVar 0) (aCons (dVar 1) aNil)))) sNil [some dn, some (.tup x), some (.int p), some (.int p), some (.int b)] μ = some (.rt d μ) := by
    simp only [esCons, sRet, dCall, aCons, aNil, dVar, List.getElem?_cons_succ, List.getElem?_cons_zero, bnd_some, e, sqO_rt]
  rw [eFn, if_pos (show [dn, .tup x, .int p, .int p, .int b].length = 5 from rfl), st, esCons, esIf, c, bnd_some]
  show endO μ (sqO (some (.nx [some dn, some (.tup x), some (.int p), some (.int p), some (.int b)] μ)) _) = _
  rw [sqO_nx, esCons, esIf, c2, bnd_some]
  show endO μ (sqO (sCons _ sNil [some dn, some (.tup x), some (.int p), some (.int p), some (.int b)] μ) _) = _
  rw [c3, sqO_rt, endO_rt, cutd_self]
theorem lg_other {dn d dw dl dc : DV} {x : List DV} {p q b : Int} (hpq : p ≠ q) (ec : lgCell [some dn, some (.tup x), some (.int p), some (.int q), some (.int b)] μ = some (dc, μ)) (el : V_l_lesser [dc, .int b] μ = some (dl, μ)) (ew : V_l_with [.tup x, .int p, .int q, dl] μ = some (dw, μ)) (e : V_l_closing [dn, dw] μ = some (d, μ)) : V_l_guarded [dn, .tup x, .int p, .int q, .int b] μ = some (d, μ) := by
  unfold V_l_guarded
  rw [lg_eq]
  generalize V_l_closing = F at *
  generalize V_l_with = W at *
  generalize V_l_lesser = L at *
  generalize lgCell = C at *
  have st : startD ["_law_size_here", "_law_wide", "_law_here", "_law_there", "_law_gap_here"] [dn, .tup x, .int p, .int q, .int b] = [some dn, some (.tup x), some (.int p), some (.int q), some (.int b)] := rfl
  have c2 : dOp2 oEq (dVar 2) (dVar 3) [some dn, some (.tup x), some (.int p), some (.int q), some (.int b)] μ = some (.bl false, μ) := by
    clear e ew el ec
    walk_at "ex"
  have c : dOr (dOp2 oIs (dVar 1) (dC .non)) (dAnd (dOp2 oEq (dVar 2) (dVar 3)) (dOp2 oLt (dVar 4) (dC (.int 0)))) [some dn, some (.tup x), some (.int p), some (.int q), some (.int b)] μ = some (.bl false, μ) := by
    clear e ew el ec
    walk_at "ex"
  have c3 : sCons (sRet (dCall F (aCons (dVar 0) (aCons (dCall W (aCons (dVar 1) (aCons (dVar 2) (aCons (dVar 3) (aCons (dCall L (aCons C (aCons (dVar 4) aNil))) aNil))))) aNil)))) sNil [some dn, some (.tup x), some (.int p), some (.int q), some (.int b)] μ = some (.rt d μ) := by
    simp only [esCons, sRet, dCall, aCons, aNil, dVar, List.getElem?_cons_succ, List.getElem?_cons_zero, bnd_some, ec, el, ew, e, sqO_rt]
  rw [eFn, if_pos (show [dn, .tup x, .int p, .int q, .int b].length = 5 from rfl), st, esCons, esIf, c, bnd_some]
  show endO μ (sqO (some (.nx [some dn, some (.tup x), some (.int p), some (.int q), some (.int b)] μ)) _) = _
  rw [sqO_nx, esCons, esIf, c2, bnd_some]
  show endO μ (sqO (some (.nx [some dn, some (.tup x), some (.int p), some (.int q), some (.int b)] μ)) _) = _
  rw [sqO_nx, c3, endO_rt, cutd_self]
theorem lgCell_ok {n i j : Nat} {rs : Rs} {dn db : DV} (w : wR n rs) (hi : i < n) (hj : j < n) : lgCell [some dn, some (.tup (rs.map eR)), some (.int (i : Int)), some (.int (j : Int)), some db] μ = some (oi (at3 rs i j), μ) := by
  have hl : i < rs.length := by rw [w.1]; exact hi
  have rl := w.2 rs[i] (List.getElem_mem hl)
  have a1 : atI (rs.map eR) (i : Int) = some (eR rs[i]) := atI_nat (by rw [List.getElem?_map, List.getElem?_eq_getElem hl]; rfl)
  have a2 : atI ((rs[i]).map oi) (j : Int) = some (oi (at3 rs i j)) := by
    rw [at3_get w hl (by omega)]
    exact atI_nat (by rw [List.getElem?_map, List.getElem?_eq_getElem (by omega)]; rfl)
  have e1 : ∀ r : List (Option Int), eR r = .tup (r.map oi) := fun _ => rfl
  unfold lgCell
  simp only [dOp2, dVar, List.getElem?_cons_succ, List.getElem?_cons_zero, bnd_some, xIx_t, a1, Option.map_some, e1, a2]
theorem lguarded_at {n i j : Nat} {b : Int} {g o : Gp} {ni : Int} (en : ni.toNat = n) (h0 : 0 ≤ ni) (hn : ni ≤ 20) (h : GuG n g i j b o) (w : wG n g) (hi : i ≤ n) (hj : j ≤ n) : V_l_guarded [.int ni, eG g, .int (i : Int), .int (j : Int), .int b] μ = some (eG o, μ) := by
  cases g with
  | none => rw [h.1 rfl]; exact lg_none
  | some rs =>
    have wr := wR_of w
    have d0 := dg0_of_w w
    have c := h.2 rs rfl
    rw [show guardM rs [(i, j, b)] = setM rs i j b from rfl, setM_put] at c
    by_cases e : i = j
    · subst e
      rw [d0 i (by omega)] at c
      by_cases hb : b < 0
      · have : o = none := by
          cases o with
          | none => rfl
          | some cs =>
            have cl := c.cl (by omega) (by
              intro p hp
              rw [at3_putM wr (by omega) (by omega)]
              split
              · show min 0 b ≤ 0
                omega
              · rw [d0 p hp]; exact leB.refl _)
            obtain ⟨v, _, _, s⟩ := reach cl (i := i) (j := i) (b := 0) (by omega) (by omega) (by rw [cl.dg i (by omega)]; exact Int.le_refl 0) (by rw [cl.dg i (by omega)]; exact Int.le_refl 0) (by omega)
            have := (c.sat v).mp s i i (by omega) (by omega)
            rw [at3_putM wr (by omega) (by omega), if_pos ⟨rfl, rfl⟩] at this
            have : v i - v i ≤ min 0 b := this
            omega
        subst this
        exact lg_neg hb
      · have e2 : minB (some 0) (some b) = at3 rs i i := by
          rw [d0 i (by omega)]
          show some (min 0 b) = some 0
          congr 1
          omega
        rw [e2, putM_same wr (by omega) (by omega)] at c
        exact lg_same (by omega) (lclosing_at (g := some rs) en h0 hn w ⟨fun e => (by cases e), fun rs' e => (by cases e; exact c)⟩)
    · have w2 : wG n (some (putM rs i j (minB (at3 rs i j) (some b)))) := wG_of (wR_putM wr) fun p hp => by
        rw [at3_putM wr (by omega) (by omega), if_neg (by omega)]
        exact d0 p hp
      exact lg_other (by omega) (lgCell_ok wr (by omega) (by omega)) (llesser_ok (at3 rs i j) (some b)) (lwith_ok wr (by omega) (by omega) (by omega)) (lclosing_at en h0 hn w2 ⟨fun e => (by cases e), fun rs' e => (by cases e; exact c)⟩)
/-! ### numbers at the ends -/
theorem lgap_ok {k : Nat} {μ0 : List MO} {N n i j : Nat} {g o : Gp} (s : Sr k μ0 N μ) (hN : N < 10000000000000000) (hn : n ≤ 20) (w : wGm 2000008 n g) (c : ClG n g o) (hi : i ≤ n) (hj : j ≤ n) :
    ∃ b M, V_l_gap [.mu k, eG o, .int (i : Int), .int (j : Int)] μ = some (.int b, M) ∧ -100000000000000 ≤ b ∧ b ≤ 100000000000000 ∧ Sr k μ0 (N + 2) M := by
  obtain ⟨y, M1, e1, y0, y1, s1⟩ := draw_ok s (by omega) (m := 8) (by omega) (by omega)
  obtain ⟨l, h, ml, mh, lh, cl, ch⟩ : ∃ l h : Option Int, (∀ x, l = some x → -10000000000000 ≤ x ∧ x ≤ 10000000000000) ∧ (∀ x, h = some x → -10000000000000 ≤ x ∧ x ≤ 10000000000000) ∧ (∀ x y, l = some x → h = some y → 0 ≤ x + y) ∧
      dIf (dOp2 oIs (dVar 1) (dC .non)) (dC .non) (dOp2 oIx (dOp2 oIx (dVar 1) (dVar 3)) (dVar 2)) [some (.mu k), some (eG o), some (.int (i : Int)), some (.int (j : Int)), some (.int y), none, none] M1 = some (oi l, M1) ∧
      ∀ x, dIf (dOp2 oIs (dVar 1) (dC .non)) (dC .non) (dOp2 oIx (dOp2 oIx (dVar 1) (dVar 2)) (dVar 3)) [some (.mu k), some (eG o), some (.int (i : Int)), some (.int (j : Int)), some (.int y), x, none] M1 = some (oi h, M1) := by
    cases o with
    | none => exact ⟨none, none, by simp, by simp, by simp, rfl, fun _ => rfl⟩
    | some cs =>
      have m := c.mag hn w (by omega)
      have wr := c.w
      refine ⟨at3 cs j i, at3 cs i j, fun x e => ?_, fun x e => ?_, fun x y e1 e2 => ?_, ?_, fun x => ?_⟩
      · have := m _ _ _ e; omega
      · have := m _ _ _ e; omega
      · have := (c.cl w.1).tr i i j (by omega) (by omega) (by omega)
        rw [(c.cl w.1).dg i (by omega), e1, e2] at this
        have this : 0 ≤ y + x := this
        omega
      · have hl : j < cs.length := by rw [wr.1]; omega
        have rl := wr.2 cs[j] (List.getElem_mem hl)
        have a1 : atI (cs.map eR) (j : Int) = some (eR cs[j]) := atI_nat (by rw [List.getElem?_map, List.getElem?_eq_getElem hl]; rfl)
        have a2 : atI ((cs[j]).map oi) (i : Int) = some (oi (at3 cs j i)) := by
          rw [at3_get wr hl (by omega)]
          exact atI_nat (by rw [List.getElem?_map, List.getElem?_eq_getElem (by omega)]; rfl)
        have er : ∀ r : List (Option Int), eR r = .tup (r.map oi) := fun _ => rfl
        have cell : dOp2 oIx (dOp2 oIx (dVar 1) (dVar 3)) (dVar 2) [some (.mu k), some (eG (some cs)), some (.int (i : Int)), some (.int (j : Int)), some (.int y), none, none] M1 = some (oi (at3 cs j i), M1) := by
          rw [eG_some]
          simp only [dOp2, dVar, List.getElem?_cons_succ, List.getElem?_cons_zero, bnd_some, xIx_t, a1, Option.map_some, er, a2]
        have c0 : dOp2 oIs (dVar 1) (dC .non) [some (.mu k), some (eG (some cs)), some (.int (i : Int)), some (.int (j : Int)), some (.int y), none, none] M1 = some (.bl false, M1) := rfl
        rw [eIf, c0, bnd_some]
        exact cell
      · have hl : i < cs.length := by rw [wr.1]; omega
        have rl := wr.2 cs[i] (List.getElem_mem hl)
        have a1 : atI (cs.map eR) (i : Int) = some (eR cs[i]) := atI_nat (by rw [List.getElem?_map, List.getElem?_eq_getElem hl]; rfl)
        have a2 : atI ((cs[i]).map oi) (j : Int) = some (oi (at3 cs i j)) := by
          rw [at3_get wr hl (by omega)]
          exact atI_nat (by rw [List.getElem?_map, List.getElem?_eq_getElem (by omega)]; rfl)
        have er : ∀ r : List (Option Int), eR r = .tup (r.map oi) := fun _ => rfl
        have cell : dOp2 oIx (dOp2 oIx (dVar 1) (dVar 2)) (dVar 3) [some (.mu k), some (eG (some cs)), some (.int (i : Int)), some (.int (j : Int)), some (.int y), x, none] M1 = some (oi (at3 cs i j), M1) := by
          rw [eG_some]
          simp only [dOp2, dVar, List.getElem?_cons_succ, List.getElem?_cons_zero, bnd_some, xIx_t, a1, Option.map_some, er, a2]
        have c0 : dOp2 oIs (dVar 1) (dC .non) [some (.mu k), some (eG (some cs)), some (.int (i : Int)), some (.int (j : Int)), some (.int y), x, none] M1 = some (.bl false, M1) := rfl
        rw [eIf, c0, bnd_some]
        exact cell
  have st : startD ["_law_spring_here", "_law_close", "_law_here", "_law_there", "_law_way", "_law_low", "_law_high"] [DV.mu k, eG o, .int (i : Int), .int (j : Int)] = [some (.mu k), some (eG o), some (.int (i : Int)), some (.int (j : Int)), none, none, none] := rfl
  have t1 : sSet 4 (dCall V_l_draw (aCons (dVar 0) (aCons (dC (.int 8)) aNil))) [some (.mu k), some (eG o), some (.int (i : Int)), some (.int (j : Int)), none, none, none] μ = some (.nx [some (.mu k), some (eG o), some (.int (i : Int)), some (.int (j : Int)), some (.int y), none, none] M1) := by
    simp only [sSet, dCall, aCons, aNil, dVar, dC, List.getElem?_cons_succ, List.getElem?_cons_zero, bnd_some, e1]
    rfl
  have t2 : sSet 5 (dIf (dOp2 oIs (dVar 1) (dC .non)) (dC .non) (dOp2 oIx (dOp2 oIx (dVar 1) (dVar 3)) (dVar 2))) [some (.mu k), some (eG o), some (.int (i : Int)), some (.int (j : Int)), some (.int y), none, none] M1 = some (.nx [some (.mu k), some (eG o), some (.int (i : Int)), some (.int (j : Int)), some (.int y), some (oi l), none] M1) := by
    rw [sSet, cl, bnd_some]
    rfl
  have t3 : sSet 6 (dIf (dOp2 oIs (dVar 1) (dC .non)) (dC .non) (dOp2 oIx (dOp2 oIx (dVar 1) (dVar 2)) (dVar 3))) [some (.mu k), some (eG o), some (.int (i : Int)), some (.int (j : Int)), some (.int y), some (oi l), none] M1 = some (.nx [some (.mu k), some (eG o), some (.int (i : Int)), some (.int (j : Int)), some (.int y), some (oi l), some (oi h)] M1) := by
    rw [sSet, ch, bnd_some]
    rfl
  obtain ⟨r, M2, e2, r0, r1, s2⟩ := draw_ok s1 (by omega) (m := 13) (by omega) (by omega)
  unfold V_l_gap D_l_gap
  rw [eFn, if_pos (show [DV.mu k, eG o, .int (i : Int), .int (j : Int)].length = 4 from rfl), st, esCons, t1, sqO_nx, esCons, t2, sqO_nx, esCons, t3, sqO_nx]
  clear t1 t2 t3 st cl ch
  generalize eG o = dg at *
  have hl1 : M1.length = μ.length := by rw [s1.len, s.len]
  have hl2 : M2.length = μ.length := by rw [s2.len, s.len]
  cases l with
  | none =>
    cases h with
    | none =>
      refine ⟨r - 6, M2, ?_, by omega, by omega, s2⟩
      simp only [oi]
      walk_at "ex"
      exact cutd_len hl2
    | some u =>
      have mu := mh u rfl
      by_cases c1 : y < 3
      · refine ⟨u + y - 1, M1, ?_, by omega, by omega, s1.mono (by omega)⟩
        simp only [oi]
        walk_at "ex"
        exact cutd_len hl1
      · refine ⟨r - 6, M2, ?_, by omega, by omega, s2⟩
        simp only [oi]
        walk_at "ex"
        exact cutd_len hl2
  | some x =>
    have mx := ml x rfl
    cases h with
    | none =>
      by_cases c1 : y < 6
      · refine ⟨0 - x + y - 4, M1, ?_, by omega, by omega, s1.mono (by omega)⟩
        simp only [oi]
        walk_at "ex"
        exact cutd_len hl1
      · refine ⟨r - 6, M2, ?_, by omega, by omega, s2⟩
        simp only [oi]
        walk_at "ex"
        exact cutd_len hl2
    | some u =>
      have mu := mh u rfl
      have xu := lh x u rfl rfl
      by_cases c1 : y < 3
      · refine ⟨u + y - 1, M1, ?_, by omega, by omega, s1.mono (by omega)⟩
        simp only [oi]
        walk_at "ex"
        exact cutd_len hl1
      · by_cases c2 : y < 6
        · refine ⟨0 - x + y - 4, M1, ?_, by omega, by omega, s1.mono (by omega)⟩
          simp only [oi]
          walk_at "ex"
          exact cutd_len hl1
        · by_cases c3 : y = 6
          · obtain ⟨q, M3, e3, q0, q1, s3⟩ := draw_ok s1 (by omega) (m := x + u + 1) (by omega) (by omega)
            have hl3 : M3.length = μ.length := by rw [s3.len, s.len]
            refine ⟨q - x, M3, ?_, by omega, by omega, s3⟩
            subst c3
            clear e2
            simp only [oi]
            walk_at "ex"
            exact cutd_len hl3
          · refine ⟨r - 6, M2, ?_, by omega, by omega, s2⟩
            simp only [oi]
            walk_at "ex"
            exact cutd_len hl2

end Lw

namespace Lw
open PySem PySem.Spec L2 Eg
local macro_rules | `(tactic| walk_at "ex") => `(tactic| simp [eFn, startD, esCons, sRet, esIf, sNil, sSet, sAsg, sExp, sPar2, sPar3, dVar, dC, dOp2, dCall, dBlt, dTup, dLst, dLstM, eIf, eAnd, eOr, eNot, eNeg, dIsi, eChain, aCons, aNil, gTu, gAnd, gNm, gSb, gEnd, dSl, runP, sFor, forL_nil, forL_cons, iSeq, iRange1, iRange2, oDiv_ok, oMod_ok, oPow_ok, oSub, oLt, oLe, oGt, oGe, oEq, oNe, oIs, oIsnt, xIx_t, xIx_l, xIx_m, xIx_s, oLen, oInt, oAbs, oMM, oTuple, oDivmod, oInN, flatL, DV.flat, dCallW, permI, oAll, blsD, oMax1, oMin1, maxI, minI, intsD, inV1, inV2, eqV, DV.isN, eqvD, eqvL, shD, shL, xItems_t, xItems_l, xItems_m, xLen_t, xLen_l, xLen_m, xLen_s, atI, ixN, DV.ty, kitT, sl_eq, *])
open Df
variable {μ : List MO}
def eP (v : List Int) : DV := .tup (v.map DV.int)
noncomputable def P_gap : Den := dOp2 oSub (dOp2 oIx (dVar 13) (dVar 5)) (dOp2 oIx (dVar 13) (dVar 6))
noncomputable def Q_body : DenS := (sCons (sPar2 13 14 (aCons (dOp2 oAdd (dTup (aCons (dC (.int 0)) aNil)) (dVar 12)) (aCons (dCall V_l_holds (aCons (dVar 2) (aCons (dVar 12) aNil))) aNil)))
  (sCons (sSet 11 (dTup (aCons (dCall V_differences_hold (aCons (dVar 1) (aCons (dVar 8) (aCons (dVar 12) aNil)))) (aCons (dCall V_differences_hold (aCons (dVar 1) (aCons (dVar 10) (aCons (dVar 12) aNil)))) aNil))))
  (sCons (sIf (dOr (dOp2 oNeR (dBlt oRepr (aCons (dOp2 oIx (dVar 11) (dC (.int 0))) aNil)) (dBlt oRepr (aCons (dAnd (dVar 14) (dOp2 oLe P_gap (dVar 7))) aNil))) (dNot (dIsi "bool" (dOp2 oIx (dVar 11) (dC (.int 1))))))
  (sCons (sRet (dC (.bl false)))
  sNil)
  sNil)
  (sCons (sIf (dAnd (dVar 14) (dAnd (dOp2 oNe P_gap (dVar 7)) (dNot (dOp2 oIx (dVar 11) (dC (.int 1))))))
  (sCons (sRet (dC (.bl false)))
  sNil)
  sNil)
  sNil))))
theorem q_step1 {s0 s1 s3 s4 s5 s6 s7 s8 s9 s10 s11 s13 s14 : Option DV} {dg : DV} {vs : List DV} {t : Bool} (hz : vs.length ≤ 20) (h : V_l_holds [dg, .tup vs] μ = some (.bl t, μ)) :
    sPar2 13 14 (aCons (dOp2 oAdd (dTup (aCons (dC (.int 0)) aNil)) (dVar 12)) (aCons (dCall V_l_holds (aCons (dVar 2) (aCons (dVar 12) aNil))) aNil)) [s0, s1, some dg, s3, s4, s5, s6, s7, s8, s9, s10, s11, some (.tup vs), s13, s14] μ =
      some (.nx [s0, s1, some dg, s3, s4, s5, s6, s7, s8, s9, s10, s11, some (.tup vs), some (.tup (.int 0 :: vs)), some (.bl t)] μ) := by
  have o1 : oAdd (.tup [.int 0]) (.tup vs) μ = some (.tup (.int 0 :: vs), μ) := by
    show (if _ then _ else _) = _
    rw [if_pos (by rw [sl_eq]; simp; omega)]
    rfl
  have e1 : dOp2 oAdd (dTup (aCons (dC (.int 0)) aNil)) (dVar 12) [s0, s1, some dg, s3, s4, s5, s6, s7, s8, s9, s10, s11, some (.tup vs), s13, s14] μ = some (.tup (.int 0 :: vs), μ) := by
    have : dTup (aCons (dC (.int 0)) aNil) [s0, s1, some dg, s3, s4, s5, s6, s7, s8, s9, s10, s11, some (.tup vs), s13, s14] μ = some (.tup [.int 0], μ) := rfl
    rw [dOp2, this, bnd_some]
    show bnd (some (DV.tup vs, μ)) _ = _
    rw [bnd_some, o1]
  simp only [sPar2, aCons, aNil, e1, dCall, dVar, List.getElem?_cons_succ, List.getElem?_cons_zero, bnd_some, h]
  rfl
theorem q_step2 {s0 s2 s3 s4 s5 s6 s7 s9 s11 s13 s14 : Option DV} {dn dl dp v : DV} {t1 t2 : Bool} (h1 : V_differences_hold [dn, dl, v] μ = some (.bl t1, μ)) (h2 : V_differences_hold [dn, dp, v] μ = some (.bl t2, μ)) :
    sSet 11 (dTup (aCons (dCall V_differences_hold (aCons (dVar 1) (aCons (dVar 8) (aCons (dVar 12) aNil)))) (aCons (dCall V_differences_hold (aCons (dVar 1) (aCons (dVar 10) (aCons (dVar 12) aNil)))) aNil))) [s0, some dn, s2, s3, s4, s5, s6, s7, some dl, s9, some dp, s11, some v, s13, s14] μ =
      some (.nx [s0, some dn, s2, s3, s4, s5, s6, s7, some dl, s9, some dp, some (.tup [.bl t1, .bl t2]), some v, s13, s14] μ) := by
  simp only [sSet, dTup, aCons, aNil, dCall, dVar, List.getElem?_cons_succ, List.getElem?_cons_zero, bnd_some, h1, h2]
  rfl
theorem q_step3 {s0 s1 s2 s3 s4 s5 s6 s8 s9 s10 s12 s13 : Option DV} {d b : Int} {t1 t2 t : Bool} (hg : P_gap [s0, s1, s2, s3, s4, s5, s6, some (.int b), s8, s9, s10, some (.tup [.bl t1, .bl t2]), s12, s13, some (.bl t)] μ = some (.int d, μ)) (h1 : t1 = (t && decide (d ≤ b))) (h2 : t = true → d ≠ b → t2 = true) :
    sCons (sIf (dOr (dOp2 oNeR (dBlt oRepr (aCons (dOp2 oIx (dVar 11) (dC (.int 0))) aNil)) (dBlt oRepr (aCons (dAnd (dVar 14) (dOp2 oLe P_gap (dVar 7))) aNil))) (dNot (dIsi "bool" (dOp2 oIx (dVar 11) (dC (.int 1))))))
  (sCons (sRet (dC (.bl false)))
  sNil)
  sNil)
  (sCons (sIf (dAnd (dVar 14) (dAnd (dOp2 oNe P_gap (dVar 7)) (dNot (dOp2 oIx (dVar 11) (dC (.int 1))))))
  (sCons (sRet (dC (.bl false)))
  sNil)
  sNil)
  sNil) [s0, s1, s2, s3, s4, s5, s6, some (.int b), s8, s9, s10, some (.tup [.bl t1, .bl t2]), s12, s13, some (.bl t)] μ = some (.nx [s0, s1, s2, s3, s4, s5, s6, some (.int b), s8, s9, s10, some (.tup [.bl t1, .bl t2]), s12, s13, some (.bl t)] μ) := by
  generalize P_gap = f at *
  have rp : ∀ q : Bool, oRepr [.bl q] μ = some (.str (if q = true then "True" else "False"), μ) := fun q => by simp [oRepr, reprD]
  have ne : ∀ x, oNeR (.str x) (.str x) μ = some (.bl false, μ) := fun x => by simp [oNeR]
  cases t with
  | false =>
    have h9 : t1 = false := by simp [h1]
    clear h1
    subst h9
    clear h2 hg
    walk_at "ex"
  | true =>
    by_cases c : d ≤ b
    · have h9 : t1 = true := by simp [h1, c]
      clear h1
      subst h9
      by_cases e : d = b
      · clear h2
        subst e
        walk_at "ex"
      · have h8 := h2 rfl e
        clear h2
        subst h8
        walk_at "ex"
    · have h9 : t1 = false := by simp [h1, c]
      clear h1
      subst h9
      have e : d ≠ b := by omega
      have h8 := h2 rfl e
      clear h2
      subst h8
      walk_at "ex"
theorem point_ok {n i j : Nat} {b : Int} {g lo ap : Gp} {v : List Int} (hn : n ≤ 20) (w : wG n g) (wl : wG n lo) (wa : wG n ap) (hl : v.length = n) (hi : i ≤ n) (hj : j ≤ n)
    (h1 : holds n lo v ↔ holds n g v ∧ T (0 :: v) i - T (0 :: v) j ≤ b) (h2 : holds n g v → T (0 :: v) i - T (0 :: v) j ≠ b → holds n ap v) {s0 s3 s4 s9 s11 s13 s14 : Option DV} :
    ∃ y11 y13 y14, Q_body [s0, some (.int (n : Int)), some (eG g), s3, s4, some (.int (i : Int)), some (.int (j : Int)), some (.int b), some (eG lo), s9, some (eG ap), s11, some (eP v), s13, s14] μ = some (.nx [s0, some (.int (n : Int)), some (eG g), s3, s4, some (.int (i : Int)), some (.int (j : Int)), some (.int b), some (eG lo), s9, some (eG ap), y11, some (eP v), y13, y14] μ) := by
  obtain ⟨t, e1, ht⟩ := lholds_any (μ := μ) w hl hn
  obtain ⟨t1, e2, ht1⟩ := dhold_ok (μ := μ) wl hl hn
  obtain ⟨t2, e3, ht2⟩ := dhold_ok (μ := μ) wa hl hn
  refine ⟨some (.tup [.bl t1, .bl t2]), some (.tup ((0 :: v).map DV.int)), some (.bl t), ?_⟩
  have s1 := q_step1 (s0 := s0) (s1 := some (.int (n : Int))) (s3 := s3) (s4 := s4) (s5 := some (.int (i : Int))) (s6 := some (.int (j : Int))) (s7 := some (.int b)) (s8 := some (eG lo)) (s9 := s9) (s10 := some (eG ap)) (s11 := s11) (s13 := s13) (s14 := s14) (by rw [List.length_map]; omega) e1
  have s2 := q_step2 (s0 := s0) (s2 := some (eG g)) (s3 := s3) (s4 := s4) (s5 := some (.int (i : Int))) (s6 := some (.int (j : Int))) (s7 := some (.int b)) (s9 := s9) (s11 := s11) (s13 := some (.tup (.int 0 :: v.map DV.int))) (s14 := some (.bl t)) e2 e3
  have hg : P_gap [s0, some (.int (n : Int)), some (eG g), s3, s4, some (.int (i : Int)), some (.int (j : Int)), some (.int b), some (eG lo), s9, some (eG ap), some (.tup [.bl t1, .bl t2]), some (eP v), some (.tup ((0 :: v).map DV.int)), some (.bl t)] μ = some (.int (T (0 :: v) i - T (0 :: v) j), μ) := by
    have a1 := T_at (ts := 0 :: v) (t := i) (by simp; omega)
    have a2 := T_at (ts := 0 :: v) (t := j) (by simp; omega)
    unfold P_gap
    simp only [dOp2, dVar, List.getElem?_cons_succ, List.getElem?_cons_zero, bnd_some, xIx_t, a1, a2, Option.map_some, oSub]
  have s3' := q_step3 hg (by
    rw [Bool.eq_iff_iff, ht1, h1, Bool.and_eq_true, ht, decide_eq_true_iff]) (fun a c => ht2.mpr (h2 (ht.mp a) c))
  unfold Q_body
  rw [esCons]
  rw [show some (eP v) = some (DV.tup (v.map DV.int)) from rfl, s1, sqO_nx, esCons, s2, sqO_nx]
  exact s3'
theorem points_ok {n i j : Nat} {b : Int} {g lo ap : Gp} (hn : n ≤ 20) (w : wG n g) (wl : wG n lo) (wa : wG n ap) (hi : i ≤ n) (hj : j ≤ n) {s0 s3 s4 s9 : Option DV} : ∀ (ps : List (List Int)) (s11 s12 s13 s14 : Option DV),
    (∀ v ∈ ps, v.length = n ∧ (holds n lo v ↔ holds n g v ∧ T (0 :: v) i - T (0 :: v) j ≤ b) ∧ (holds n g v → T (0 :: v) i - T (0 :: v) j ≠ b → holds n ap v)) →
    ∃ y11 y12 y13 y14, forL (gNm 12) Q_body (ps.map eP) [s0, some (.int (n : Int)), some (eG g), s3, s4, some (.int (i : Int)), some (.int (j : Int)), some (.int b), some (eG lo), s9, some (eG ap), s11, s12, s13, s14] μ = some (.nx [s0, some (.int (n : Int)), some (eG g), s3, s4, some (.int (i : Int)), some (.int (j : Int)), some (.int b), some (eG lo), s9, some (eG ap), y11, y12, y13, y14] μ)
  | [], s11, s12, s13, s14, _ => ⟨s11, s12, s13, s14, rfl⟩
  | v :: ps, s11, s12, s13, s14, h => by
    obtain ⟨hl, h1, h2⟩ := h v (by simp)
    obtain ⟨y11, y13, y14, e⟩ := point_ok (μ := μ) hn w wl wa hl hi hj h1 h2 (s0 := s0) (s3 := s3) (s4 := s4) (s9 := s9) (s11 := s11) (s13 := s13) (s14 := s14)
    obtain ⟨z11, z12, z13, z14, e2⟩ := points_ok hn w wl wa hi hj (s0 := s0) (s3 := s3) (s4 := s4) (s9 := s9) ps y11 (some (eP v)) y13 y14 fun u hu => h u (List.mem_cons_of_mem _ hu)
    refine ⟨z11, z12, z13, z14, ?_⟩
    have t : gNm 12 (eP v) [s0, some (.int (n : Int)), some (eG g), s3, s4, some (.int (i : Int)), some (.int (j : Int)), some (.int b), some (eG lo), s9, some (eG ap), s11, s12, s13, s14] μ = some ([s0, some (.int (n : Int)), some (eG g), s3, s4, some (.int (i : Int)), some (.int (j : Int)), some (.int b), some (eG lo), s9, some (eG ap), s11, some (eP v), s13, s14], μ) := rfl
    rw [List.map_cons, forL_cons, t, bnd_some, e, lpO_nx, e2]
noncomputable def Q_loop : DenS := sFor (iSeq (dVar 4)) (gNm 12) Q_body
noncomputable def Q_rest : DenS := (sCons (sIf (dOp2 oNeR (dBlt oRepr (aCons (dVar 11) aNil)) (dBlt oRepr (aCons (dLst (aCons (dVar 8) (aCons (dVar 8) (aCons (dVar 10) (aCons (dVar 10) aNil))))) aNil)))
  (sCons (sRet (dC (.bl false)))
  sNil)
  sNil)
  (sCons Q_loop
  (sCons (sRet (dC (.bl true)))
  sNil)))
noncomputable def U1 : Den := dCall V_differences_guarded (aCons (dVar 1) (aCons (dVar 2) (aCons (dVar 5) (aCons (dVar 6) (aCons (dVar 7) aNil)))))
noncomputable def U2 : Den := dCallW 5 [4, 3, 2, 1, 0] V_differences_guarded (aCons (dVar 7) (aCons (dVar 6) (aCons (dVar 5) (aCons (dVar 2) (aCons (dVar 1) aNil)))))
noncomputable def U3 : Den := dCall V_differences_unlike (aCons (dVar 1) (aCons (dVar 2) (aCons (dVar 5) (aCons (dVar 6) (aCons (dVar 7) aNil)))))
noncomputable def U4 : Den := dCallW 5 [4, 3, 2, 1, 0] V_differences_unlike (aCons (dVar 7) (aCons (dVar 6) (aCons (dVar 5) (aCons (dVar 2) (aCons (dVar 1) aNil)))))
noncomputable def Q_mid : DenS := (sCons (sSet 8 (dCall V_l_guarded (aCons (dVar 1) (aCons (dVar 2) (aCons (dVar 5) (aCons (dVar 6) (aCons (dVar 7) aNil)))))))
  (sCons (sSet 9 (dCall V_l_guarded (aCons (dVar 1) (aCons (dVar 2) (aCons (dVar 6) (aCons (dVar 5) (aCons (dOp2 oSub (dOp2 oSub (dC (.int 0)) (dVar 7)) (dC (.int 1))) aNil)))))))
  (sCons (sSet 10 (dCall V_l_joined (aCons (dCall V_l_guarded (aCons (dVar 1) (aCons (dVar 2) (aCons (dVar 5) (aCons (dVar 6) (aCons (dOp2 oSub (dVar 7) (dC (.int 1))) aNil)))))) (aCons (dVar 9) aNil))))
  (sCons (sSet 11 (dLstM (aCons U1 aNil)))
  (sCons (sExp (dApp (dVar 11) U2))
  (sCons (sExp (dApp (dVar 11) U3))
  (sCons (sExp (dApp (dVar 11) U4))
  (sFrz 11 Q_rest))))))))
theorem deed_eq : D_l_deed_right = (sCons (sPar2 5 6 (aCons (dCall V_l_draw (aCons (dVar 0) (aCons (dOp2 oAdd (dVar 1) (dC (.int 1))) aNil))) (aCons (dCall V_l_draw (aCons (dVar 0) (aCons (dOp2 oAdd (dVar 1) (dC (.int 1))) aNil))) aNil)))
  (sCons (sSet 7 (dCall V_l_gap (aCons (dVar 0) (aCons (dVar 3) (aCons (dVar 5) (aCons (dVar 6) aNil))))))
  Q_mid)) := rfl
theorem mid_run {s0 dn dg s3 s4 di dj dl da dz dp : DV} {b : Int} {x : Str} {y11 y12 y13 y14 : Option DV}
    (g1 : ∀ μ, V_l_guarded [dn, dg, di, dj, .int b] μ = some (dl, μ)) (g2 : V_l_guarded [dn, dg, dj, di, .int (0 - b - 1)] μ = some (da, μ)) (g3 : V_l_guarded [dn, dg, di, dj, .int (b - 1)] μ = some (dz, μ)) (jo : V_l_joined [dz, da] μ = some (dp, μ))
    (u1 : ∀ μ, V_differences_guarded [dn, dg, di, dj, .int b] μ = some (dl, μ)) (u2 : ∀ μ, V_differences_unlike [dn, dg, di, dj, .int b] μ = some (dp, μ)) (rp : reprD (.lst [dl, dl, dp, dp]) = some x)
    (lp : Q_loop [some s0, some dn, some dg, some s3, some s4, some di, some dj, some (.int b), some dl, some da, some dp, some (.lst [dl, dl, dp, dp]), none, none, none] (μ ++ [.dead]) = some (.nx [some s0, some dn, some dg, some s3, some s4, some di, some dj, some (.int b), some dl, some da, some dp, y11, y12, y13, y14] (μ ++ [.dead]))) :
    Q_mid [some s0, some dn, some dg, some s3, some s4, some di, some dj, some (.int b), none, none, none, none, none, none, none] μ = some (.rt (.bl true) (μ ++ [.dead])) := by
  have t1 : sSet 8 (dCall V_l_guarded (aCons (dVar 1) (aCons (dVar 2) (aCons (dVar 5) (aCons (dVar 6) (aCons (dVar 7) aNil)))))) [some s0, some dn, some dg, some s3, some s4, some di, some dj, some (.int b), none, none, none, none, none, none, none] μ = some (.nx [some s0, some dn, some dg, some s3, some s4, some di, some dj, some (.int b), some dl, none, none, none, none, none, none] μ) := by
    simp only [sSet, dCall, aCons, aNil, dVar, List.getElem?_cons_succ, List.getElem?_cons_zero, bnd_some, g1]
    rfl
  have t2 : sSet 9 (dCall V_l_guarded (aCons (dVar 1) (aCons (dVar 2) (aCons (dVar 6) (aCons (dVar 5) (aCons (dOp2 oSub (dOp2 oSub (dC (.int 0)) (dVar 7)) (dC (.int 1))) aNil)))))) [some s0, some dn, some dg, some s3, some s4, some di, some dj, some (.int b), some dl, none, none, none, none, none, none] μ = some (.nx [some s0, some dn, some dg, some s3, some s4, some di, some dj, some (.int b), some dl, some da, none, none, none, none, none] μ) := by
    simp only [sSet, dCall, aCons, aNil, dVar, dOp2, dC, oSub, List.getElem?_cons_succ, List.getElem?_cons_zero, bnd_some, g2]
    rfl
  have t3 : sSet 10 (dCall V_l_joined (aCons (dCall V_l_guarded (aCons (dVar 1) (aCons (dVar 2) (aCons (dVar 5) (aCons (dVar 6) (aCons (dOp2 oSub (dVar 7) (dC (.int 1))) aNil)))))) (aCons (dVar 9) aNil))) [some s0, some dn, some dg, some s3, some s4, some di, some dj, some (.int b), some dl, some da, none, none, none, none, none] μ = some (.nx [some s0, some dn, some dg, some s3, some s4, some di, some dj, some (.int b), some dl, some da, some dp, none, none, none, none] μ) := by
    simp only [sSet, dCall, aCons, aNil, dVar, dOp2, dC, oSub, List.getElem?_cons_succ, List.getElem?_cons_zero, bnd_some, g3, jo]
    rfl
  have f1 : ∀ (s11 : Option DV) (μ' : List MO), U1 [some s0, some dn, some dg, some s3, some s4, some di, some dj, some (.int b), some dl, some da, some dp, s11, none, none, none] μ' = some (dl, μ') := fun s11 μ' => by
    unfold U1
    simp only [dCall, aCons, aNil, dVar, List.getElem?_cons_succ, List.getElem?_cons_zero, bnd_some, u1]
  have f2 : ∀ (s11 : Option DV) (μ' : List MO), U2 [some s0, some dn, some dg, some s3, some s4, some di, some dj, some (.int b), some dl, some da, some dp, s11, none, none, none] μ' = some (dl, μ') := fun s11 μ' => by
    unfold U2
    simp [dCallW, permI, aCons, aNil, dVar, u1]
  have f3 : ∀ (s11 : Option DV) (μ' : List MO), U3 [some s0, some dn, some dg, some s3, some s4, some di, some dj, some (.int b), some dl, some da, some dp, s11, none, none, none] μ' = some (dp, μ') := fun s11 μ' => by
    unfold U3
    simp only [dCall, aCons, aNil, dVar, List.getElem?_cons_succ, List.getElem?_cons_zero, bnd_some, u2]
  have f4 : ∀ (s11 : Option DV) (μ' : List MO), U4 [some s0, some dn, some dg, some s3, some s4, some di, some dj, some (.int b), some dl, some da, some dp, s11, none, none, none] μ' = some (dp, μ') := fun s11 μ' => by
    unfold U4
    simp [dCallW, permI, aCons, aNil, dVar, u2]
  have t4 : sSet 11 (dLstM (aCons U1 aNil)) [some s0, some dn, some dg, some s3, some s4, some di, some dj, some (.int b), some dl, some da, some dp, none, none, none, none] μ = some (.nx [some s0, some dn, some dg, some s3, some s4, some di, some dj, some (.int b), some dl, some da, some dp, some (.mu μ.length), none, none, none] (μ ++ [.lst [dl]])) := by
    simp only [sSet, dLstM, aCons, aNil, f1, bnd_some]
    simp
  have t5 := sApp_a (A := μ) (A' := μ) (xs := [dl]) (d := dl) (fa := U2) (s := 11) (ρ := [some s0, some dn, some dg, some s3, some s4, some di, some dj, some (.int b), some dl, some da, some dp, some (.mu μ.length), none, none, none]) rfl (f2 _ _) rfl (by simp)
  have t6 := sApp_a (A := μ) (A' := μ) (xs := [dl, dl]) (d := dp) (fa := U3) (s := 11) (ρ := [some s0, some dn, some dg, some s3, some s4, some di, some dj, some (.int b), some dl, some da, some dp, some (.mu μ.length), none, none, none]) rfl (f3 _ _) rfl (by simp)
  have t7 := sApp_a (A := μ) (A' := μ) (xs := [dl, dl, dp]) (d := dp) (fa := U4) (s := 11) (ρ := [some s0, some dn, some dg, some s3, some s4, some di, some dj, some (.int b), some dl, some da, some dp, some (.mu μ.length), none, none, none]) rfl (f4 _ _) rfl (by simp)
  have fz : sFrz 11 Q_rest [some s0, some dn, some dg, some s3, some s4, some di, some dj, some (.int b), some dl, some da, some dp, some (.mu μ.length), none, none, none] (μ ++ [.lst [dl, dl, dp, dp]]) = Q_rest [some s0, some dn, some dg, some s3, some s4, some di, some dj, some (.int b), some dl, some da, some dp, some (.lst [dl, dl, dp, dp]), none, none, none] (μ ++ [.dead]) := by
    simp [sFrz]
  have t8 : sIf (dOp2 oNeR (dBlt oRepr (aCons (dVar 11) aNil)) (dBlt oRepr (aCons (dLst (aCons (dVar 8) (aCons (dVar 8) (aCons (dVar 10) (aCons (dVar 10) aNil))))) aNil))) (sCons (sRet (dC (.bl false))) sNil) sNil [some s0, some dn, some dg, some s3, some s4, some di, some dj, some (.int b), some dl, some da, some dp, some (.lst [dl, dl, dp, dp]), none, none, none] (μ ++ [.dead]) = some (.nx [some s0, some dn, some dg, some s3, some s4, some di, some dj, some (.int b), some dl, some da, some dp, some (.lst [dl, dl, dp, dp]), none, none, none] (μ ++ [.dead])) := by
    have rr : ∀ μ, oRepr [.lst [dl, dl, dp, dp]] μ = some (.str x, μ) := fun μ => by simp [oRepr, rp]
    have c : dOp2 oNeR (dBlt oRepr (aCons (dVar 11) aNil)) (dBlt oRepr (aCons (dLst (aCons (dVar 8) (aCons (dVar 8) (aCons (dVar 10) (aCons (dVar 10) aNil))))) aNil)) [some s0, some dn, some dg, some s3, some s4, some di, some dj, some (.int b), some dl, some da, some dp, some (.lst [dl, dl, dp, dp]), none, none, none] (μ ++ [.dead]) = some (.bl false, μ ++ [.dead]) := by
      have l4 : dLst (aCons (dVar 8) (aCons (dVar 8) (aCons (dVar 10) (aCons (dVar 10) aNil)))) [some s0, some dn, some dg, some s3, some s4, some di, some dj, some (.int b), some dl, some da, some dp, some (.lst [dl, dl, dp, dp]), none, none, none] (μ ++ [.dead]) = some (.lst [dl, dl, dp, dp], μ ++ [.dead]) := by
        simp [dLst, aCons, aNil, dVar]
      generalize dLst (aCons (dVar 8) (aCons (dVar 8) (aCons (dVar 10) (aCons (dVar 10) aNil)))) = L at *
      simp only [dOp2, dBlt, aCons, aNil, l4, bnd_some, dVar, List.getElem?_cons_succ, List.getElem?_cons_zero, rr]
      simp [oNeR]
    rw [esIf, c, bnd_some]
    rfl
  unfold Q_mid
  rw [esCons, t1, sqO_nx, esCons, t2, sqO_nx, esCons, t3, sqO_nx, esCons, t4, sqO_nx, esCons, t5, sqO_nx, esCons]
  show sqO (sExp (dApp (dVar 11) U3) _ (μ ++ [.lst [dl, dl]])) _ = _
  rw [t6, sqO_nx, esCons]
  show sqO (sExp (dApp (dVar 11) U4) _ (μ ++ [.lst [dl, dl, dp]])) _ = _
  rw [t7, sqO_nx]
  show sFrz 11 Q_rest _ (μ ++ [.lst [dl, dl, dp, dp]]) = _
  rw [fz]
  unfold Q_rest
  rw [esCons, t8, sqO_nx, esCons, lp, sqO_nx]
  rfl
theorem joinG_shw {n : Nat} {p q : Gp} {b : Int} (hn : n ≤ 20) (hb : b ≤ 10000000000000000000000000000000000000000) (hp : ∀ cs, p = some cs → wR (n + 1) cs ∧ mag b (at3 cs)) (hq : ∀ cs, q = some cs → wR (n + 1) cs ∧ mag b (at3 cs)) : Shw 3 28000 (eG (joinG p q)) := by
  cases p with
  | none => exact eG_shw (n := n + 1) (b := b) (by omega) hb hq
  | some a =>
    cases q with
    | none => exact eG_shw (n := n + 1) (b := b) (by omega) hb hp
    | some c =>
      obtain ⟨w1, m1⟩ := hp a rfl
      obtain ⟨w2, m2⟩ := hq c rfl
      refine eG_shw (n := n + 1) (b := b) (by omega) hb fun cs e => ?_
      simp only [joinG, Option.some.injEq] at e
      subst e
      refine ⟨wR_join w1 w2, fun i j x e => ?_⟩
      rw [at3_join w1 w2] at e
      cases e1 : at3 a i j with
      | none => rw [e1] at e; cases e
      | some y =>
        cases e2 : at3 c i j with
        | none => rw [e1, e2] at e; cases e
        | some z =>
          rw [e1, e2] at e
          have := m1 _ _ _ e1
          have := m2 _ _ _ e2
          have e : some (max y z) = some x := e
          simp at e
          omega
theorem deed_ok {k : Nat} {μ0 : List MO} {N n : Nat} {ni : Int} {g o : Gp} {ps : List (List Int)} (s : Sr k μ0 N μ) (hN : N < 1000000000000000) (en : ni.toNat = n) (h0 : 0 ≤ ni) (hni : ni ≤ 20) (w : wGm 2000008 n g) (c : ClG n g o) (hp : ∀ v ∈ ps, v.length = n) :
    ∃ M, V_l_deed_right [.mu k, .int ni, eG g, eG o, .lst (ps.map eP)] μ = some (.bl true, M) ∧ Sr k μ0 (N + 4) M := by
  have hn : n ≤ 20 := by omega
  obtain ⟨i', M1, e1, i0, i1, s1⟩ := draw_ok s (by omega) (m := ni + 1) (by omega) (by omega)
  obtain ⟨j', M2, e2, j0, j1, s2⟩ := draw_ok s1 (by omega) (m := ni + 1) (by omega) (by omega)
  obtain ⟨i, rfl⟩ : ∃ i : Nat, i' = i := ⟨i'.toNat, by omega⟩
  obtain ⟨j, rfl⟩ : ∃ j : Nat, j' = j := ⟨j'.toNat, by omega⟩
  have hi : i ≤ n := by omega
  have hj : j ≤ n := by omega
  obtain ⟨b, M3, e3, b0, b1, s3⟩ := lgap_ok s2 (by omega) hn w c hi hj
  obtain ⟨lo, hlo⟩ := guard_ex (b := b) hn w.1 hi hj
  obtain ⟨ab, hab⟩ := guard_ex (b := -b - 1) hn w.1 hj hi
  obtain ⟨be, hbe⟩ := guard_ex (b := b - 1) hn w.1 hi hj
  have hni' : ni = (n : Int) := by omega
  have w2 : wGm 1000000000000000 n g := ⟨w.1, fun rs e => mag_le (by omega) (w.2 rs e)⟩
  have g1 := fun μ' => lguarded_at (μ := μ') en h0 hni hlo w.1 hi hj
  have g2 := lguarded_at (μ := M3) en h0 hni hab w.1 hj hi
  rw [show -b - 1 = 0 - b - 1 by omega] at g2
  have g3 := lguarded_at (μ := M3) en h0 hni hbe w.1 hi hj
  have jo := ljoined_ok (μ := M3) (p := be) (q := ab) (n := n + 1) (fun rs e => by subst e; exact (hbe.cl w.1 hi hj).1) (by omega)
  have u1 := fun μ' => dguard_at (μ := μ') hlo hn w.1 hi hj
  have u2 := fun μ' => dunlike_at (μ := μ') hbe hab hn w.1 hi hj
  have ml : ∀ {o' : Gp} {i j : Nat} {b : Int}, GuG n g i j b o' → i ≤ n → j ≤ n → -1000000000000000 ≤ b → b ≤ 1000000000000000 → ∀ cs, o' = some cs → wR (n + 1) cs ∧ mag (2097152 * 1000000000000000) (at3 cs) := fun h hi hj b0 b1 cs e => by
    subst e
    exact ⟨(h.cl w.1 hi hj).1, h.mag hn w2 (by omega) b0 b1 hi hj⟩
  have sl := eG_shw (n := n + 1) (b := 2097152 * 1000000000000000) (by omega) (by omega) (ml hlo hi hj (by omega) (by omega))
  have sp := joinG_shw (n := n) (b := 2097152 * 1000000000000000) hn (by omega) (ml hbe hi hj (by omega) (by omega)) (ml hab hj hi (by omega) (by omega))
  obtain ⟨x, rp⟩ := Shw_reprL (Shw.lst (n := 3) (L := 28000) (ds := [eG lo, eG lo, eG (joinG be ab), eG (joinG be ab)]) (fun d hd => by
    simp only [List.mem_cons, List.not_mem_nil, or_false] at hd
    rcases hd with rfl | rfl | rfl | rfl
    · exact sl
    · exact sl
    · exact sp
    · exact sp)) (by omega) (by rw [sl_eq]; simp)
  obtain ⟨y11, y12, y13, y14, lp⟩ := points_ok (μ := M3 ++ [.dead]) (n := n) (i := i) (j := j) (b := b) (g := g) (lo := lo) (ap := joinG be ab) hn w.1 (hlo.wG w.1 hi hj) (wG_join (hbe.wG w.1 hi hj) (hab.wG w.1 hj hi)) hi hj (s0 := some (.mu k)) (s3 := some (eG o)) (s4 := some (.lst (ps.map eP))) (s9 := some (eG ab)) ps (some (.lst [eG lo, eG lo, eG (joinG be ab), eG (joinG be ab)])) none none none (fun v hv => by
    refine ⟨hp v hv, hlo.holds w.1 hi hj v, fun hg hne => ?_⟩
    have a1 := hbe.holds w.1 hi hj v
    have a2 := hab.holds w.1 hj hi v
    have key : holds n be v ∨ holds n ab v := by
      by_cases c : T (0 :: v) i - T (0 :: v) j ≤ b - 1
      · exact .inl (a1.mpr ⟨hg, c⟩)
      · exact .inr (a2.mpr ⟨hg, by omega⟩)
    cases hbe' : be with
    | none =>
      rw [hbe'] at key
      rcases key with ⟨_, e, _⟩ | h
      · cases e
      · exact h
    | some p =>
      cases hab' : ab with
      | none =>
        rw [hbe', hab'] at key
        rcases key with h | ⟨_, e, _⟩
        · exact h
        · cases e
      | some q =>
        rw [hbe', hab'] at key
        have wp := (ml hbe hi hj (by omega) (by omega) p hbe').1
        have wq := (ml hab hj hi (by omega) (by omega) q hab').1
        refine ⟨joinR p q, rfl, fun a c ha hc => ?_⟩
        rw [at3_join wp wq]
        rcases key with ⟨_, e, s⟩ | ⟨_, e, s⟩
        · cases e
          exact maxB_l (s a c ha hc)
        · cases e
          exact maxB_r (s a c ha hc))
  refine ⟨M3, ?_, s3⟩
  have st : startD ["_law_spring_here", "_law_size_here", "_law_wide", "_law_close", "_law_points", "_law_here", "_law_there", "_law_gap_here", "_law_low", "_law_above", "_law_apart", "_law_told", "_law_spots_here", "_law_full", "_law_is_held"] [DV.mu k, .int ni, eG g, eG o, .lst (ps.map eP)] = [some (.mu k), some (.int ni), some (eG g), some (eG o), some (.lst (ps.map eP)), none, none, none, none, none, none, none, none, none, none] := rfl
  have t1 : sPar2 5 6 (aCons (dCall V_l_draw (aCons (dVar 0) (aCons (dOp2 oAdd (dVar 1) (dC (.int 1))) aNil))) (aCons (dCall V_l_draw (aCons (dVar 0) (aCons (dOp2 oAdd (dVar 1) (dC (.int 1))) aNil))) aNil)) [some (.mu k), some (.int ni), some (eG g), some (eG o), some (.lst (ps.map eP)), none, none, none, none, none, none, none, none, none, none] μ = some (.nx [some (.mu k), some (.int ni), some (eG g), some (eG o), some (.lst (ps.map eP)), some (.int (i : Int)), some (.int (j : Int)), none, none, none, none, none, none, none, none] M2) := by
    simp only [sPar2, dCall, aCons, aNil, dVar, dOp2, dC, oAdd, List.getElem?_cons_succ, List.getElem?_cons_zero, bnd_some, e1, e2]
    rfl
  have t2 : sSet 7 (dCall V_l_gap (aCons (dVar 0) (aCons (dVar 3) (aCons (dVar 5) (aCons (dVar 6) aNil))))) [some (.mu k), some (.int ni), some (eG g), some (eG o), some (.lst (ps.map eP)), some (.int (i : Int)), some (.int (j : Int)), none, none, none, none, none, none, none, none] M2 = some (.nx [some (.mu k), some (.int ni), some (eG g), some (eG o), some (.lst (ps.map eP)), some (.int (i : Int)), some (.int (j : Int)), some (.int b), none, none, none, none, none, none, none] M3) := by
    simp only [sSet, dCall, aCons, aNil, dVar, List.getElem?_cons_succ, List.getElem?_cons_zero, bnd_some, e3]
    rfl
  have lp' : Q_loop [some (.mu k), some (.int ni), some (eG g), some (eG o), some (.lst (ps.map eP)), some (.int (i : Int)), some (.int (j : Int)), some (.int b), some (eG lo), some (eG ab), some (eG (joinG be ab)), some (.lst [eG lo, eG lo, eG (joinG be ab), eG (joinG be ab)]), none, none, none] (M3 ++ [.dead]) = some (.nx [some (.mu k), some (.int ni), some (eG g), some (eG o), some (.lst (ps.map eP)), some (.int (i : Int)), some (.int (j : Int)), some (.int b), some (eG lo), some (eG ab), some (eG (joinG be ab)), y11, y12, y13, y14] (M3 ++ [.dead])) := by
    rw [hni']
    exact lp
  rw [← hni'] at u1 u2
  have mid := mid_run (s0 := .mu k) (s3 := eG o) (s4 := .lst (ps.map eP)) g1 g2 g3 jo u1 u2 rp lp'
  unfold V_l_deed_right
  rw [deed_eq, eFn, if_pos (show [DV.mu k, .int ni, eG g, eG o, .lst (ps.map eP)].length = 5 from rfl), st, esCons, t1, sqO_nx, esCons, t2, sqO_nx, mid, endO_rt]
  exact s.cut s3 rfl

end Lw

namespace Lw
open PySem PySem.Spec L2 Eg
local macro_rules | `(tactic| walk_at "ex") => `(tactic| simp [eFn, startD, esCons, sRet, esIf, sNil, sSet, sAsg, sExp, sPar2, sPar3, dVar, dC, dOp2, dCall, dBlt, dTup, dLst, dLstM, eIf, eAnd, eOr, eNot, eNeg, dIsi, eChain, aCons, aNil, gTu, gAnd, gNm, gSb, gEnd, dSl, runP, sFor, forL_nil, forL_cons, iSeq, iRange1, iRange2, oDiv_ok, oMod_ok, oPow_ok, oSub, oLt, oLe, oGt, oGe, oEq, oNe, oIs, oIsnt, xIx_t, xIx_l, xIx_m, xIx_s, oLen, oInt, oAbs, oMM, oTuple, oDivmod, oInN, flatL, DV.flat, dCallW, permI, oAll, blsD, oMax1, oMin1, maxI, minI, intsD, inV1, inV2, eqV, DV.isN, eqvD, eqvL, shD, shL, xItems_t, xItems_l, xItems_m, xLen_t, xLen_l, xLen_m, xLen_s, atI, ixN, DV.ty, kitT, sl_eq, *])
open Df
variable {μ : List MO}
noncomputable def X_body : DenS := (sCons (sIf (dNot (dCall V_l_deed_right (aCons (dVar 0) (aCons (dVar 1) (aCons (dVar 3) (aCons (dVar 4) (aCons (dVar 5) aNil)))))))
  (sCons (sRet (dC (.bl false)))
  sNil)
  sNil)
  sNil)
noncomputable def X_loop : DenS := sFor (iRange1 (aCons (dC (.int 4)) aNil)) (gNm 6) X_body
noncomputable def X_pts : Den := dLst (aCons (dVar 2) (aCons (dCall V_l_near_spots (aCons (dVar 0) (aCons (dVar 2) aNil))) (aCons (dCall V_l_spots (aCons (dVar 0) (aCons (dVar 1) aNil))) aNil)))
theorem right_eq : D_l_right = (sCons (sSet 1 (dCall V_l_size_o (aCons (dVar 0) aNil)))
  (sCons (sSet 2 (dCall V_l_spots (aCons (dVar 0) (aCons (dVar 1) aNil))))
  (sCons (sSet 3 (dCall V_l_about_o (aCons (dVar 0) (aCons (dVar 1) (aCons (dVar 2) aNil)))))
  (sCons (sSet 4 (dCall V_l_closing (aCons (dVar 1) (aCons (dVar 3) aNil))))
  (sCons (sSet 5 X_pts)
  (sCons X_loop
  (sCons (sRet (dC (.bl true)))
  sNil))))))) := rfl
theorem xloop_ok {k : Nat} {μ0 : List MO} {n : Nat} {ni : Int} {g o : Gp} {ps : List (List Int)} (en : ni.toNat = n) (h0 : 0 ≤ ni) (hni : ni ≤ 20) (w : wGm 2000008 n g) (c : ClG n g o) (hp : ∀ v ∈ ps, v.length = n) {s2 : Option DV} : ∀ (ds : List DV) (N : Nat) (μ : List MO) (x6 : Option DV), Sr k μ0 N μ → N + 4 * ds.length < 1000000000000 →
    ∃ M y6, forL (gNm 6) X_body ds [some (.mu k), some (.int ni), s2, some (eG g), some (eG o), some (.lst (ps.map eP)), x6] μ = some (.nx [some (.mu k), some (.int ni), s2, some (eG g), some (eG o), some (.lst (ps.map eP)), y6] M) ∧ Sr k μ0 (N + 4 * ds.length) M
  | [], N, μ, x6, s, hN => ⟨μ, x6, rfl, s⟩
  | d :: ds, N, μ, x6, s, hN => by
    rw [List.length_cons] at hN
    obtain ⟨M1, e, s1⟩ := deed_ok s (by omega) en h0 hni w c hp
    obtain ⟨M, y6, e2, s3⟩ := xloop_ok en h0 hni w c hp (s2 := s2) ds (N + 4) M1 (some d) s1 (by omega)
    refine ⟨M, y6, ?_, by rw [List.length_cons, show N + 4 * (ds.length + 1) = N + 4 + 4 * ds.length by omega]; exact s3⟩
    have t : gNm 6 d [some (.mu k), some (.int ni), s2, some (eG g), some (eG o), some (.lst (ps.map eP)), x6] μ = some ([some (.mu k), some (.int ni), s2, some (eG g), some (eG o), some (.lst (ps.map eP)), some d], μ) := rfl
    have b : X_body [some (.mu k), some (.int ni), s2, some (eG g), some (eG o), some (.lst (ps.map eP)), some d] μ = some (.nx [some (.mu k), some (.int ni), s2, some (eG g), some (eG o), some (.lst (ps.map eP)), some d] M1) := by
      unfold X_body
      simp only [esCons, esIf, eNot, dCall, aCons, aNil, dVar, List.getElem?_cons_succ, List.getElem?_cons_zero, bnd_some, e]
      rfl
    rw [forL_cons, t, bnd_some, b, lpO_nx, e2]
theorem right_ok {k : Nat} {μ0 : List MO} (w : Sr k μ0 0 μ) : ∃ (N : Nat) (μ' : List MO), V_l_right [.mu k] μ = some (.bl true, μ') ∧ Sr k μ0 N μ' := by
  obtain ⟨n, M1, e1, hn, w1⟩ := size_o_ok w (by omega)
  obtain ⟨ni, hni⟩ : ∃ ni : Int, ni = (n : Int) := ⟨_, rfl⟩
  rw [← hni] at e1
  obtain ⟨v, M2, e2, lv, sv, w2⟩ := spots_ok (ni := ni) (n := n) w1 (by omega) (by omega) (by omega) (by omega)
  obtain ⟨g, M3, e3, wg, w3⟩ := about_ok (ni := ni) (n := n) w2 (by omega) sv lv (by omega) (by omega) (by omega)
  rw [← about_o] at e3
  obtain ⟨o, c, e4⟩ := lclosing_g (μ := M3) (ni := ni) (n := n) (by omega) (by omega) (by omega) wg.1
  obtain ⟨v2, M4, e5, l2, _, w4⟩ := near_ok w3 (by omega) (by omega) sv
  obtain ⟨v3, M5, e6, l3, _, w5⟩ := spots_ok (ni := ni) (n := n) w4 (by omega) (by omega) (by omega) (by omega)
  obtain ⟨M6, y6, e7, w6⟩ := xloop_ok (ps := [v, v2, v3]) (n := n) (ni := ni) (by omega) (by omega) (by omega) wg c (fun u hu => by
    simp only [List.mem_cons, List.not_mem_nil, or_false] at hu
    rcases hu with rfl | rfl | rfl <;> omega) (s2 := some (.tup (v.map DV.int))) (rgD 0 4) _ M5 none w5 (by rw [rgD_len]; omega)
  refine ⟨_, M6, ?_, w6⟩
  have st : startD ["_law_spring_here", "_law_size_here", "_law_base", "_law_wide", "_law_close", "_law_points", "_law_turn"] [DV.mu k] = [some (.mu k), none, none, none, none, none, none] := rfl
  have t1 : sSet 1 (dCall V_l_size_o (aCons (dVar 0) aNil)) [some (.mu k), none, none, none, none, none, none] μ = some (.nx [some (.mu k), some (.int ni), none, none, none, none, none] M1) := by
    simp only [sSet, dCall, aCons, aNil, dVar, List.getElem?_cons_zero, bnd_some, e1]
    rfl
  have t2 : sSet 2 (dCall V_l_spots (aCons (dVar 0) (aCons (dVar 1) aNil))) [some (.mu k), some (.int ni), none, none, none, none, none] M1 = some (.nx [some (.mu k), some (.int ni), some (.tup (v.map DV.int)), none, none, none, none] M2) := by
    simp only [sSet, dCall, aCons, aNil, dVar, List.getElem?_cons_succ, List.getElem?_cons_zero, bnd_some, e2]
    rfl
  have t3 : sSet 3 (dCall V_l_about_o (aCons (dVar 0) (aCons (dVar 1) (aCons (dVar 2) aNil)))) [some (.mu k), some (.int ni), some (.tup (v.map DV.int)), none, none, none, none] M2 = some (.nx [some (.mu k), some (.int ni), some (.tup (v.map DV.int)), some (eG g), none, none, none] M3) := by
    simp only [sSet, dCall, aCons, aNil, dVar, List.getElem?_cons_succ, List.getElem?_cons_zero, bnd_some, e3]
    rfl
  have t4 : sSet 4 (dCall V_l_closing (aCons (dVar 1) (aCons (dVar 3) aNil))) [some (.mu k), some (.int ni), some (.tup (v.map DV.int)), some (eG g), none, none, none] M3 = some (.nx [some (.mu k), some (.int ni), some (.tup (v.map DV.int)), some (eG g), some (eG o), none, none] M3) := by
    simp only [sSet, dCall, aCons, aNil, dVar, List.getElem?_cons_succ, List.getElem?_cons_zero, bnd_some, e4]
    rfl
  have t5 : sSet 5 X_pts [some (.mu k), some (.int ni), some (.tup (v.map DV.int)), some (eG g), some (eG o), none, none] M3 = some (.nx [some (.mu k), some (.int ni), some (.tup (v.map DV.int)), some (eG g), some (eG o), some (.lst ([v, v2, v3].map eP)), none] M5) := by
    have : X_pts [some (.mu k), some (.int ni), some (.tup (v.map DV.int)), some (eG g), some (eG o), none, none] M3 = some (.lst ([v, v2, v3].map eP), M5) := by
      unfold X_pts
      simp only [dLst, dCall, aCons, aNil, dVar, List.getElem?_cons_succ, List.getElem?_cons_zero, bnd_some, e5, e6]
      simp [eP]
    rw [sSet, this, bnd_some]
    rfl
  have t6 : X_loop [some (.mu k), some (.int ni), some (.tup (v.map DV.int)), some (eG g), some (eG o), some (.lst ([v, v2, v3].map eP)), none] M5 = some (.nx [some (.mu k), some (.int ni), some (.tup (v.map DV.int)), some (eG g), some (eG o), some (.lst ([v, v2, v3].map eP)), y6] M6) := by
    have it : ∀ ρ : RO, iRange1 (aCons (dC (.int 4)) aNil) ρ M5 = some (rgD 0 4, M5) := fun ρ => by
      simp [iRange1, aCons, aNil, dC]
    unfold X_loop
    rw [sFor_at, it, bnd_some]
    exact e7
  unfold V_l_right
  rw [right_eq, eFn, if_pos (show [DV.mu k].length = 1 from rfl), st, esCons, t1, sqO_nx, esCons, t2, sqO_nx, esCons, t3, sqO_nx, esCons, t4, sqO_nx, esCons, t5, sqO_nx, esCons, t6, sqO_nx]
  have la : ∀ ρ : RO, sCons (sRet (dC (.bl true))) sNil ρ M6 = some (.rt (.bl true) M6) := fun _ => rfl
  rw [la, endO_rt]
  exact cutd_len (by rw [w6.len, w.len])
theorem at_int (ns : List Int) (t : Int) (h0 : 0 ≤ t) (h1 : t < ns.length) : atI (ns.map DV.int) t = some (.int (ns[t.toNat]?.getD 0)) := by
  have hl : t.toNat < ns.length := by omega
  refine atI_of h0 ?_
  rw [List.getElem?_map, List.getElem?_eq_getElem hl]
  rfl
theorem spring_ok (ns : List Int) (t : Int) (ht : 0 ≤ t) (ht2 : t ≤ 4) (μ : List MO) :
    ∃ a b, V_l_spring [scD ns, .int t] μ = some (.mu μ.length, μ ++ [.lst [.int a, .int b, .int 0]]) ∧ 0 ≤ a ∧ 0 ≤ b ∧ b < 2147483477 := by
  have p1 : ∀ μ : List MO, oMul (.int 90019) (.int t) μ = some (.int (90019 * t), μ) := fun μ => oMul_ok (by omega) (by omega) (by omega) (by omega)
  have p2 : ∀ (x : Int) (μ : List MO), oMul (.int (x % 2147482951)) (.int 30011) μ = some (.int (x % 2147482951 * 30011), μ) := fun x μ => oMul_ok (by omega) (by omega) (by omega) (by omega)
  unfold V_l_spring D_l_spring scD
  walk_at "ex"
  generalize hF : forL _ _ _ _ _ = o
  obtain ⟨ρ2, μ2, rfl, m, c, rfl, rfl, m0, m1⟩ := forL_at hF (fun _ ρ' μ' => ∃ (m : Int) (c : Option DV), ρ' = [some (.lst (ns.map DV.int)), some (.int t), some (.int m), c, none] ∧ μ' = μ ∧ 0 ≤ m ∧ m < 2147483477)
    ⟨_, _, rfl, rfl, by omega, by omega⟩ (by
      rintro i d ρ' μ' hd ⟨m, c, rfl, rfl, m0, m1⟩
      obtain ⟨x, rfl⟩ := cut_ints ns _ _ d (List.mem_of_getElem? hd)
      have p3 : ∀ μ : List MO, oMul (.int m) (.int 52361) μ = some (.int (m * 52361), μ) := fun μ => oMul_ok (by omega) (by omega) (by omega) (by omega)
      refine ⟨_, _, _, _, rfl, by walk_at "ex"; exact ⟨rfl, rfl⟩, _, _, rfl, rfl, Int.emod_nonneg _ (by omega), Int.emod_lt_of_pos _ (by omega)⟩)
  have p4 : ∀ μ : List MO, oMul (.int m) (.int 37) μ = some (.int (m * 37), μ) := fun μ => oMul_ok (by omega) (by omega) (by omega) (by omega)
  have p5 : ∀ μ : List MO, oMul (.int 0) (.int 30011) μ = some (.int 0, μ) := fun μ => oMul_ok (by omega) (by omega) (by omega) (by omega)
  have p6 : (10 : Int) ^ (15 : Int).toNat = 1000000000000000 := rfl
  by_cases hlen : t < ns.length
  · have hl : t.toNat < ns.length := by omega
    refine ⟨if ns[t.toNat] < 0 ∨ 1000000000000000 ≤ ns[t.toNat] then (if ns[t.toNat] < 0 then -ns[t.toNat] else ns[t.toNat]) else 0, (m * 37 + ns[t.toNat] % 2147482951 * 30011 + 3) % 2147483477, ?_, ?_, Int.emod_nonneg _ (by omega), Int.emod_lt_of_pos _ (by omega)⟩
    · walk_at "ex"
      split <;> (try split) <;> first | rfl | (simp_all; done) | (simp_all; intro h; omega)
    · split <;> (try split) <;> omega
  · refine ⟨0, (m * 37 + 3) % 2147483477, ?_, by omega, Int.emod_nonneg _ (by omega), Int.emod_lt_of_pos _ (by omega)⟩
    walk_at "ex"
theorem law_ok (ns : List Int) : V_l_law [scD ns] [] = some (.bl true, []) := by
  have key : ∀ (n : Int) (fi : DenA), 2 ≤ n → n ≤ 3 → fi [some (scD ns), none] [] = some (rgD 0 n.toNat, []) → dLc fi (bd1 1) dT (dCut (dCall V_l_right (aCons (dCall V_l_spring (aCons (dVar 0) (aCons (dVar 1) aNil))) aNil))) [some (scD ns), none] [] = some (.lst ((rgD 0 n.toNat).map fun _ => .bl true), []) := by
    intro n fi h2 h5 hfi
    refine dLc_map (ds := rgD 0 n.toNat) (g := fun _ => .bl true) hfi (by rw [rgD_len]; omega) ?_ fun _ _ => rfl
    intro d hd
    obtain ⟨i, hi, rfl⟩ := List.mem_map.mp hd
    have hi' : i < n.toNat := List.mem_range.mp hi
    refine ⟨_, rfl, fun μ' => ?_⟩
    obtain ⟨a, b, e1, ha, hb, hb2⟩ := spring_ok ns (0 + (i : Int)) (by omega) (by omega) μ'
    obtain ⟨m, μ2, e2, w2⟩ := right_ok (k := μ'.length) (μ0 := μ' ++ [.lst [.int a, .int b, .int 0]]) (μ := μ' ++ [.lst [.int a, .int b, .int 0]]) ⟨by simp, a, b, 0, by simp, ha, hb, hb2, by omega, by omega⟩
    obtain ⟨_, a', b', c', rfl, _⟩ := w2
    simp [dCut, dCall, aCons, aNil, dVar] at e1 e2 ⊢
    rw [e1, bnd_some, bnd_some, e2, bnd_some, cutd_cut rfl (by simp)]
  obtain ⟨n, n2, n5, hn⟩ : ∃ n : Int, 2 ≤ n ∧ n ≤ 3 ∧ n = max 2 (min (ns.length : Int) 3) := ⟨_, by omega, by omega, rfl⟩
  have hfi : iRange1 (aCons (dBlt oMax2 (aCons (dC (.int 2)) (aCons (dBlt oMin2 (aCons (dBlt oLen (aCons (dVar 0) aNil)) (aCons (dC (.int 3)) aNil))) aNil))) aNil) [some (scD ns), none] [] = some (rgD 0 n.toNat, []) := by
    have c1 : -4000000000000000000 ≤ n ∧ n < 4000000000000000000 := by omega
    have q : (fun i j : Int => if j > i then j else i) 2 ((fun i j : Int => if j < i then j else i) (ns.length : Int) 3) = n := by
      rw [hn]; dsimp only; omega
    have q2 : dBlt oMax2 (aCons (dC (.int 2)) (aCons (dBlt oMin2 (aCons (dBlt oLen (aCons (dVar 0) aNil)) (aCons (dC (.int 3)) aNil))) aNil)) [some (scD ns), none] [] = some (.int n, []) := by
      simp [dBlt, aCons, aNil, dC, dVar, scD, oLen, lenD, itemsD, oMM]
      omega
    simp [iRange1, aCons, aNil, q2, c1]
  have k1 := key n _ n2 n5 hfi
  unfold V_l_law D_l_law
  walk_at "ex"

end Lw

namespace Lw
open PySem PySem.Spec L2 Eg
theorem facts {P : Program} {w : World} {K : PySem.W.Frag} {h : Heap} {mg : Str → Option Value} {f : Addr} (X : K.In h) (G : h.Ns mainGlobals mg) (hfa : mg ("law" : Str) = some (.ref f)) (c : He.SaysX faL fnL [] [] exB w h K) :
    ∃ fd : FuncData, (∀ (s : Shared) (v : Value), BindsTo s fd ⟨[v], []⟩ [("_law_script", v)]) ∧ ∀ base : Heap, K.In base → base.Ns mainGlobals mg → (∃ mm, base.Ns sysModules mm) → FnG P w K mg base 9 f fd ["_law_script"] (SpD K (CtrOf V_l_law)) := by
  have T := fx_of X G c
  obtain ⟨fd, F⟩ := T.d_l_law
  have e := hfa.symm.trans T.g_l_law
  cases e
  have b := FunD.bindsA (ps := ["_law_script"]) F fun _ _ _ _ _ _ us hl => match us, hl with | [_], _ => rfl
  exact ⟨fd, fun s v => b s [v] rfl, fun base _ _ hB => okG_l_law T hB F⟩
end Lw
open PySem PySem.W PySem.Calls PyProof.Rows
theorem PySem.Challenge.cw_soundlooks_k42_whole_guarded_and_unlike_holds : PySem.Challenge.rw_soundlooks_k42_whole_guarded_and_unlike.Holds := by
  w_on; o_law
  refine HandSHeadRun.head_any (r := Lw.R) (q := view Lw.R.prog [Lw.lawAt]) (H := Lw.hk) (ob := Lw.ob) (M := 60000) (loose := Lw.looseL) (d := HandSHeadRun.topDef Lw.R.prog Lw.lawAt) (kwd := []) Lw.ob_eq
    (by kernel_rfl) (fun s => by kernel_rfl) Lw.run (by kernel_rfl) (by kernel_rfl) (by kernel_rfl) (by rfl) (by first | assumption | decide +kernel) (by decide +kernel) ⟨rfl, rfl, rfl, rfl, rfl, by decide +kernel⟩ ?hw ?hc
  case hw => w_witness2
  case hc =>
    refine Eg.walk_S (l := PySem.Challenge.rw_soundlooks_k42_whole_guarded_and_unlike) (n := 63) (k := 9) (C := Eg.CtrOf Lw.V_l_law) rfl (by decide) (by kernel_rfl) (by decide +kernel) ⟨rfl, by decide, by decide⟩ ?hC ?F
    case hC =>
      intro ns hl hb
      show Eg.okE (Lw.V_l_law [Eg.scD ns] []) _
      rw [Lw.law_ok ns]
      rfl
    case F =>
      intro w mg fa h Y G hmg0
      obtain ⟨K, KX, c⟩ := Y
      have hmg : mg ("law" : PySem.Str) = some (.ref fa) := by
        have e : (HandSHeadRun.topDef Lw.R.prog Lw.lawAt).name = ("law" : PySem.Str) := by kernel_rfl
        rw [← e]
        exact hmg0
      obtain ⟨fd, hb, hF⟩ := Lw.facts (P := (PySem.Challenge.rw_soundlooks_k42_whole_guarded_and_unlike).prog) (w := w) KX G hmg c
      exact ⟨K, fd, "_law_script", KX, hb, hF⟩
