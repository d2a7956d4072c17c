import PyProof.Rows.All
import HandS.ForMost
import HandS.Exc
import HandS.ExcOwn
import HandS.Head2
import HandS.HeadHook4
import HandS.Style
import HandS.ExcInit
import HandS.ExcValue
import HandS.ExcIs
import HandS.IsInst
import HandS.Wide
import HandS.WideBits
import HandS.Defaults
import HandS.MakeKw
import HandS.EndBits
import HandS.HeadEnd
import HandS.TupAny
import HandS.Zip
import HandS.Text
import HandS.List
import HandS.ExcField
import HandS.WordsExc
import HandS.StrMore
import HandS.Iter
import HandS.Conv
import HandS.Gcd
import HandS.TupMul
import HandS.TupLe
import HandS.Sort
import HandS.Dict
import KE.KIsAll
import KE.KExcIs
import KE.GoesEnumKw
import KE.GoesEnum
import KE.GoesMore
import OpenK.AllK
import PyProof.NoPylong
import PyProof.EnumMake
import PyProof.LongRange
import PyProof.ListRange
import PyProof.CallFns
import PyProof.NeData
import Wide.All
import Wide.FinOn
import PySem.Challenge.RW_soundlooks_k23_whole_what_stretches_and
set_option Elab.async false
set_option linter.all false
set_option maxRecDepth 100000
set_option maxHeartbeats 8000000
namespace Lw
open PySem PySem.Spec L2
def top (i : Nat) : Stmt := PySem.Challenge.pw_soundlooks_k23_whole_what_stretches_and.main.body.getD i (.Pass ⟨0, 0, 0, 0⟩)
abbrev cLookError : Stmt := top 3
abbrev cInvalidNumber : Stmt := top 4
abbrev sInvalidNumber_init : Stmt := inClass cInvalidNumber 0
abbrev NInvalidNumber_init : List Str := ["self", "given"]
theorem scInvalidNumber_init : FnScope NInvalidNumber_init ["self", "given"] (defScope sInvalidNumber_init) := ⟨rfl, rfl, rfl, by decide +kernel, rfl, by decide +kernel, by decide +kernel⟩
def dInvalidNumber_init : He.DefD := ⟨("InvalidNumber", some "__init__"), "__init__", "InvalidNumber.__init__", defArgs sInvalidNumber_init, defBody sInvalidNumber_init, defScope sInvalidNumber_init, [], []⟩
abbrev cInvalidStretch : Stmt := top 5
abbrev sInvalidStretch_init : Stmt := inClass cInvalidStretch 0
abbrev NInvalidStretch_init : List Str := ["self", "given"]
theorem scInvalidStretch_init : FnScope NInvalidStretch_init ["self", "given"] (defScope sInvalidStretch_init) := ⟨rfl, rfl, rfl, by decide +kernel, rfl, by decide +kernel, by decide +kernel⟩
def dInvalidStretch_init : He.DefD := ⟨("InvalidStretch", some "__init__"), "__init__", "InvalidStretch.__init__", defArgs sInvalidStretch_init, defBody sInvalidStretch_init, defScope sInvalidStretch_init, [], []⟩
abbrev cInvalidRest : Stmt := top 6
abbrev sInvalidRest_init : Stmt := inClass cInvalidRest 0
abbrev NInvalidRest_init : List Str := ["self", "given"]
theorem scInvalidRest_init : FnScope NInvalidRest_init ["self", "given"] (defScope sInvalidRest_init) := ⟨rfl, rfl, rfl, by decide +kernel, rfl, by decide +kernel, by decide +kernel⟩
def dInvalidRest_init : He.DefD := ⟨("InvalidRest", some "__init__"), "__init__", "InvalidRest.__init__", defArgs sInvalidRest_init, defBody sInvalidRest_init, defScope sInvalidRest_init, [], []⟩
abbrev sis_whole : Stmt := top 1
abbrev Nis_whole : List Str := ["value"]
theorem scis_whole : FnScope Nis_whole ["value"] (defScope sis_whole) := ⟨rfl, rfl, rfl, by decide +kernel, rfl, by decide +kernel, by decide +kernel⟩
def dis_whole : He.DefD := ⟨("is_whole", none), "is_whole", "is_whole", defArgs sis_whole, defBody sis_whole, defScope sis_whole, [], []⟩
abbrev sis_end : Stmt := top 8
abbrev Nis_end : List Str := ["value"]
theorem scis_end : FnScope Nis_end ["value"] (defScope sis_end) := ⟨rfl, rfl, rfl, by decide +kernel, rfl, by decide +kernel, by decide +kernel⟩
def dis_end : He.DefD := ⟨("is_end", none), "is_end", "is_end", defArgs sis_end, defBody sis_end, defScope sis_end, [], []⟩
abbrev sis_span : Stmt := top 9
abbrev Nis_span : List Str := ["value", "end"]
theorem scis_span : FnScope Nis_span ["value"] (defScope sis_span) := ⟨rfl, rfl, rfl, by decide +kernel, rfl, by decide +kernel, by decide +kernel⟩
def dis_span : He.DefD := ⟨("is_span", none), "is_span", "is_span", defArgs sis_span, defBody sis_span, defScope sis_span, [], []⟩
abbrev sspan_holds : Stmt := top 10
abbrev Nspan_holds : List Str := ["span", "number", "low", "high"]
theorem scspan_holds : FnScope Nspan_holds ["span", "number"] (defScope sspan_holds) := ⟨rfl, rfl, rfl, by decide +kernel, rfl, by decide +kernel, by decide +kernel⟩
def dspan_holds : He.DefD := ⟨("span_holds", none), "span_holds", "span_holds", defArgs sspan_holds, defBody sspan_holds, defScope sspan_holds, [], []⟩
abbrev sis_residue : Stmt := top 13
abbrev Nis_residue : List Str := ["value", "number", "divisor"]
theorem scis_residue : FnScope Nis_residue ["value"] (defScope sis_residue) := ⟨rfl, rfl, rfl, by decide +kernel, rfl, by decide +kernel, by decide +kernel⟩
def dis_residue : He.DefD := ⟨("is_residue", none), "is_residue", "is_residue", defArgs sis_residue, defBody sis_residue, defScope sis_residue, [], []⟩
abbrev sresidue_of : Stmt := top 14
abbrev Nresidue_of : List Str := ["number", "divisor"]
theorem scresidue_of : FnScope Nresidue_of ["number", "divisor"] (defScope sresidue_of) := ⟨rfl, rfl, rfl, by decide +kernel, rfl, by decide +kernel, by decide +kernel⟩
def dresidue_of : He.DefD := ⟨("residue_of", none), "residue_of", "residue_of", defArgs sresidue_of, defBody sresidue_of, defScope sresidue_of, [], []⟩
abbrev sresidue_holds : Stmt := top 15
abbrev Nresidue_holds : List Str := ["residue", "number"]
theorem scresidue_holds : FnScope Nresidue_holds ["residue", "number"] (defScope sresidue_holds) := ⟨rfl, rfl, rfl, by decide +kernel, rfl, by decide +kernel, by decide +kernel⟩
def dresidue_holds : He.DefD := ⟨("residue_holds", none), "residue_holds", "residue_holds", defArgs sresidue_holds, defBody sresidue_holds, defScope sresidue_holds, [], []⟩
abbrev srefuse_wrong_stretch : Stmt := top 17
abbrev Nrefuse_wrong_stretch : List Str := ["stretch"]
theorem screfuse_wrong_stretch : FnScope Nrefuse_wrong_stretch ["stretch"] (defScope srefuse_wrong_stretch) := ⟨rfl, rfl, rfl, by decide +kernel, rfl, by decide +kernel, by decide +kernel⟩
def drefuse_wrong_stretch : He.DefD := ⟨("refuse_wrong_stretch", none), "refuse_wrong_stretch", "refuse_wrong_stretch", defArgs srefuse_wrong_stretch, defBody srefuse_wrong_stretch, defScope srefuse_wrong_stretch, [], []⟩
abbrev srefuse_wrong_rest : Stmt := top 18
abbrev Nrefuse_wrong_rest : List Str := ["rest"]
theorem screfuse_wrong_rest : FnScope Nrefuse_wrong_rest ["rest"] (defScope srefuse_wrong_rest) := ⟨rfl, rfl, rfl, by decide +kernel, rfl, by decide +kernel, by decide +kernel⟩
def drefuse_wrong_rest : He.DefD := ⟨("refuse_wrong_rest", none), "refuse_wrong_rest", "refuse_wrong_rest", defArgs srefuse_wrong_rest, defBody srefuse_wrong_rest, defScope srefuse_wrong_rest, [], []⟩
abbrev srefuse_wrong_number : Stmt := top 19
abbrev Nrefuse_wrong_number : List Str := ["number"]
theorem screfuse_wrong_number : FnScope Nrefuse_wrong_number ["number"] (defScope srefuse_wrong_number) := ⟨rfl, rfl, rfl, by decide +kernel, rfl, by decide +kernel, by decide +kernel⟩
def drefuse_wrong_number : He.DefD := ⟨("refuse_wrong_number", none), "refuse_wrong_number", "refuse_wrong_number", defArgs srefuse_wrong_number, defBody srefuse_wrong_number, defScope srefuse_wrong_number, [], []⟩
abbrev sis_stretch : Stmt := top 21
abbrev Nis_stretch : List Str := ["value"]
theorem scis_stretch : FnScope Nis_stretch ["value"] (defScope sis_stretch) := ⟨rfl, rfl, rfl, by decide +kernel, rfl, by decide +kernel, by decide +kernel⟩
def dis_stretch : He.DefD := ⟨("is_stretch", none), "is_stretch", "is_stretch", defArgs sis_stretch, defBody sis_stretch, defScope sis_stretch, [], []⟩
abbrev sstretch_holds : Stmt := top 22
abbrev Nstretch_holds : List Str := ["stretch", "number"]
theorem scstretch_holds : FnScope Nstretch_holds ["stretch", "number"] (defScope sstretch_holds) := ⟨rfl, rfl, rfl, by decide +kernel, rfl, by decide +kernel, by decide +kernel⟩
def dstretch_holds : He.DefD := ⟨("stretch_holds", none), "stretch_holds", "stretch_holds", defArgs sstretch_holds, defBody sstretch_holds, defScope sstretch_holds, [], []⟩
abbrev sis_rest : Stmt := top 24
abbrev Nis_rest : List Str := ["value"]
theorem scis_rest : FnScope Nis_rest ["value"] (defScope sis_rest) := ⟨rfl, rfl, rfl, by decide +kernel, rfl, by decide +kernel, by decide +kernel⟩
def dis_rest : He.DefD := ⟨("is_rest", none), "is_rest", "is_rest", defArgs sis_rest, defBody sis_rest, defScope sis_rest, [], []⟩
abbrev srest_holds : Stmt := top 25
abbrev Nrest_holds : List Str := ["rest", "number"]
theorem screst_holds : FnScope Nrest_holds ["rest", "number"] (defScope srest_holds) := ⟨rfl, rfl, rfl, by decide +kernel, rfl, by decide +kernel, by decide +kernel⟩
def drest_holds : He.DefD := ⟨("rest_holds", none), "rest_holds", "rest_holds", defArgs srest_holds, defBody srest_holds, defScope srest_holds, [], []⟩
abbrev sl_source : Stmt := top 27
abbrev Nl_source : List Str := ["_law_script", "_law_turn", "_law_mixed", "_law_cell", "_law_own"]
theorem scl_source : FnScope Nl_source ["_law_script", "_law_turn"] (defScope sl_source) := ⟨rfl, rfl, rfl, by decide +kernel, rfl, by decide +kernel, by decide +kernel⟩
def dl_source : He.DefD := ⟨("_law_source", none), "_law_source", "_law_source", defArgs sl_source, defBody sl_source, defScope sl_source, [], []⟩
abbrev sl_take : Stmt := top 28
abbrev Nl_take : List Str := ["_law_source_here", "_law_many", "_law_figure", "_law_mixed"]
theorem scl_take : FnScope Nl_take ["_law_source_here", "_law_many"] (defScope sl_take) := ⟨rfl, rfl, rfl, by decide +kernel, rfl, by decide +kernel, by decide +kernel⟩
def dl_take : He.DefD := ⟨("_law_take", none), "_law_take", "_law_take", defArgs sl_take, defBody sl_take, defScope sl_take, [], []⟩
abbrev sl_pick : Stmt := top 29
abbrev Nl_pick : List Str := ["_law_source_here", "_law_some"]
theorem scl_pick : FnScope Nl_pick ["_law_source_here", "_law_some"] (defScope sl_pick) := ⟨rfl, rfl, rfl, by decide +kernel, rfl, by decide +kernel, by decide +kernel⟩
def dl_pick : He.DefD := ⟨("_law_pick", none), "_law_pick", "_law_pick", defArgs sl_pick, defBody sl_pick, defScope sl_pick, [], []⟩
abbrev sl_great : Stmt := top 30
abbrev Nl_great : List Str := ["_law_source_here", "_law_got", "_law_turn"]
theorem scl_great : FnScope Nl_great ["_law_source_here"] (defScope sl_great) := ⟨rfl, rfl, rfl, by decide +kernel, rfl, by decide +kernel, by decide +kernel⟩
def dl_great : He.DefD := ⟨("_law_great", none), "_law_great", "_law_great", defArgs sl_great, defBody sl_great, defScope sl_great, [], []⟩
abbrev sl_number : Stmt := top 31
abbrev Nl_number : List Str := ["_law_source_here", "_law_branch", "_law_got"]
theorem scl_number : FnScope Nl_number ["_law_source_here"] (defScope sl_number) := ⟨rfl, rfl, rfl, by decide +kernel, rfl, by decide +kernel, by decide +kernel⟩
def dl_number : He.DefD := ⟨("_law_number", none), "_law_number", "_law_number", defArgs sl_number, defBody sl_number, defScope sl_number, [], []⟩
abbrev sl_stretch : Stmt := top 32
abbrev Nl_stretch : List Str := ["_law_source_here", "_law_branch", "_law_low"]
theorem scl_stretch : FnScope Nl_stretch ["_law_source_here"] (defScope sl_stretch) := ⟨rfl, rfl, rfl, by decide +kernel, rfl, by decide +kernel, by decide +kernel⟩
def dl_stretch : He.DefD := ⟨("_law_stretch", none), "_law_stretch", "_law_stretch", defArgs sl_stretch, defBody sl_stretch, defScope sl_stretch, [], []⟩
abbrev sl_near : Stmt := top 33
abbrev Nl_near : List Str := ["_law_source_here", "_law_ends", "_law_lots", "_law_low", "_law_branch", "_law_high", "_law_end"]
theorem scl_near : FnScope Nl_near ["_law_source_here", "_law_ends"] (defScope sl_near) := ⟨rfl, rfl, rfl, by decide +kernel, rfl, by decide +kernel, by decide +kernel⟩
def dl_near : He.DefD := ⟨("_law_near", none), "_law_near", "_law_near", defArgs sl_near, defBody sl_near, defScope sl_near, [], []⟩
abbrev sl_part : Stmt := top 34
abbrev Nl_part : List Str := ["_law_source_here", "_law_twos", "_law_threes"]
theorem scl_part : FnScope Nl_part ["_law_source_here"] (defScope sl_part) := ⟨rfl, rfl, rfl, by decide +kernel, rfl, by decide +kernel, by decide +kernel⟩
def dl_part : He.DefD := ⟨("_law_part", none), "_law_part", "_law_part", defArgs sl_part, defBody sl_part, defScope sl_part, [], []⟩
abbrev sl_rest : Stmt := top 35
abbrev Nl_rest : List Str := ["_law_source_here", "_law_branch", "_law_by"]
theorem scl_rest : FnScope Nl_rest ["_law_source_here"] (defScope sl_rest) := ⟨rfl, rfl, rfl, by decide +kernel, rfl, by decide +kernel, by decide +kernel⟩
def dl_rest : He.DefD := ⟨("_law_rest", none), "_law_rest", "_law_rest", defArgs sl_rest, defBody sl_rest, defScope sl_rest, [], []⟩
abbrev sl_rest_near : Stmt := top 36
abbrev Nl_rest_near : List Str := ["_law_source_here", "_law_one", "_law_spot", "_law_by"]
theorem scl_rest_near : FnScope Nl_rest_near ["_law_source_here", "_law_one"] (defScope sl_rest_near) := ⟨rfl, rfl, rfl, by decide +kernel, rfl, by decide +kernel, by decide +kernel⟩
def dl_rest_near : He.DefD := ⟨("_law_rest_near", none), "_law_rest_near", "_law_rest_near", defArgs sl_rest_near, defBody sl_rest_near, defScope sl_rest_near, [], []⟩
abbrev sl_is_whole : Stmt := top 37
abbrev Nl_is_whole : List Str := ["_law_thing"]
theorem scl_is_whole : FnScope Nl_is_whole ["_law_thing"] (defScope sl_is_whole) := ⟨rfl, rfl, rfl, by decide +kernel, rfl, by decide +kernel, by decide +kernel⟩
def dl_is_whole : He.DefD := ⟨("_law_is_whole", none), "_law_is_whole", "_law_is_whole", defArgs sl_is_whole, defBody sl_is_whole, defScope sl_is_whole, [], []⟩
abbrev sl_same : Stmt := top 38
abbrev Nl_same : List Str := ["_law_told", "_law_due", "_law_this", "_law_that"]
theorem scl_same : FnScope Nl_same ["_law_told", "_law_due"] (defScope sl_same) := ⟨rfl, rfl, rfl, by decide +kernel, rfl, by decide +kernel, by decide +kernel⟩
def dl_same : He.DefD := ⟨("_law_same", none), "_law_same", "_law_same", defArgs sl_same, defBody sl_same, defScope sl_same, [], []⟩
abbrev sl_has : Stmt := top 39
abbrev Nl_has : List Str := ["_law_one", "_law_count"]
theorem scl_has : FnScope Nl_has ["_law_one", "_law_count"] (defScope sl_has) := ⟨rfl, rfl, rfl, by decide +kernel, rfl, by decide +kernel, by decide +kernel⟩
def dl_has : He.DefD := ⟨("_law_has", none), "_law_has", "_law_has", defArgs sl_has, defBody sl_has, defScope sl_has, [], []⟩
abbrev sl_rest_has : Stmt := top 40
abbrev Nl_rest_has : List Str := ["_law_one", "_law_count"]
theorem scl_rest_has : FnScope Nl_rest_has ["_law_one", "_law_count"] (defScope sl_rest_has) := ⟨rfl, rfl, rfl, by decide +kernel, rfl, by decide +kernel, by decide +kernel⟩
def dl_rest_has : He.DefD := ⟨("_law_rest_has", none), "_law_rest_has", "_law_rest_has", defArgs sl_rest_has, defBody sl_rest_has, defScope sl_rest_has, [], []⟩
abbrev sl_beside : Stmt := top 41
abbrev Nl_beside : List Str := ["_law_ends", "_law_lots", "_law_end"]
theorem scl_beside : FnScope Nl_beside ["_law_ends"] (defScope sl_beside) := ⟨rfl, rfl, rfl, by decide +kernel, rfl, by decide +kernel, by decide +kernel⟩
def dl_beside : He.DefD := ⟨("_law_beside", none), "_law_beside", "_law_beside", defArgs sl_beside, defBody sl_beside, defScope sl_beside, [], []⟩
abbrev sl_is_stretch : Stmt := top 42
abbrev Nl_is_stretch : List Str := ["_law_thing", "_law_end"]
theorem scl_is_stretch : FnScope Nl_is_stretch ["_law_thing"] (defScope sl_is_stretch) := ⟨rfl, rfl, rfl, by decide +kernel, rfl, by decide +kernel, by decide +kernel⟩
def dl_is_stretch : He.DefD := ⟨("_law_is_stretch", none), "_law_is_stretch", "_law_is_stretch", defArgs sl_is_stretch, defBody sl_is_stretch, defScope sl_is_stretch, [], []⟩
abbrev sl_is_rest : Stmt := top 43
abbrev Nl_is_rest : List Str := ["_law_thing", "_law_part_here"]
theorem scl_is_rest : FnScope Nl_is_rest ["_law_thing"] (defScope sl_is_rest) := ⟨rfl, rfl, rfl, by decide +kernel, rfl, by decide +kernel, by decide +kernel⟩
def dl_is_rest : He.DefD := ⟨("_law_is_rest", none), "_law_is_rest", "_law_is_rest", defArgs sl_is_rest, defBody sl_is_rest, defScope sl_is_rest, [], []⟩
abbrev sl_odd : Stmt := top 44
abbrev Nl_odd : List Str := ["_law_source_here"]
theorem scl_odd : FnScope Nl_odd ["_law_source_here"] (defScope sl_odd) := ⟨rfl, rfl, rfl, by decide +kernel, rfl, by decide +kernel, by decide +kernel⟩
def dl_odd : He.DefD := ⟨("_law_odd", none), "_law_odd", "_law_odd", defArgs sl_odd, defBody sl_odd, defScope sl_odd, [], []⟩
abbrev sl_bent : Stmt := top 45
abbrev Nl_bent : List Str := ["_law_source_here", "_law_thing", "_law_spot", "_law_branch"]
theorem scl_bent : FnScope Nl_bent ["_law_source_here", "_law_thing"] (defScope sl_bent) := ⟨rfl, rfl, rfl, by decide +kernel, rfl, by decide +kernel, by decide +kernel⟩
def dl_bent : He.DefD := ⟨("_law_bent", none), "_law_bent", "_law_bent", defArgs sl_bent, defBody sl_bent, defScope sl_bent, [], []⟩
abbrev sl_value : Stmt := top 46
abbrev Nl_value : List Str := ["_law_source_here", "_law_branch", "_law_thing"]
theorem scl_value : FnScope Nl_value ["_law_source_here"] (defScope sl_value) := ⟨rfl, rfl, rfl, by decide +kernel, rfl, by decide +kernel, by decide +kernel⟩
def dl_value : He.DefD := ⟨("_law_value", none), "_law_value", "_law_value", defArgs sl_value, defBody sl_value, defScope sl_value, [], []⟩
abbrev sl_values_right : Stmt := top 47
abbrev Nl_values_right : List Str := ["_law_source_here", "_law_turn", "_law_thing", "_law_due"]
theorem scl_values_right : FnScope Nl_values_right ["_law_source_here"] (defScope sl_values_right) := ⟨rfl, rfl, rfl, by decide +kernel, rfl, by decide +kernel, by decide +kernel⟩
def dl_values_right : He.DefD := ⟨("_law_values_right", none), "_law_values_right", "_law_values_right", defArgs sl_values_right, defBody sl_values_right, defScope sl_values_right, [], []⟩
abbrev sl_stretches_right : Stmt := top 48
abbrev Nl_stretches_right : List Str := ["_law_source_here", "_law_one", "_law_two", "_law_lots", "_law_apart", "_law_count", "_law_due", "_law_told"]
theorem scl_stretches_right : FnScope Nl_stretches_right ["_law_source_here"] (defScope sl_stretches_right) := ⟨rfl, rfl, rfl, by decide +kernel, rfl, by decide +kernel, by decide +kernel⟩
def dl_stretches_right : He.DefD := ⟨("_law_stretches_right", none), "_law_stretches_right", "_law_stretches_right", defArgs sl_stretches_right, defBody sl_stretches_right, defScope sl_stretches_right, [], []⟩
abbrev sl_rests_right : Stmt := top 49
abbrev Nl_rests_right : List Str := ["_law_source_here", "_law_one", "_law_two", "_law_lots", "_law_apart", "_law_each", "_law_count", "_law_due", "_law_told"]
theorem scl_rests_right : FnScope Nl_rests_right ["_law_source_here"] (defScope sl_rests_right) := ⟨rfl, rfl, rfl, by decide +kernel, rfl, by decide +kernel, by decide +kernel⟩
def dl_rests_right : He.DefD := ⟨("_law_rests_right", none), "_law_rests_right", "_law_rests_right", defArgs sl_rests_right, defBody sl_rests_right, defScope sl_rests_right, [], []⟩
abbrev sl_right : Stmt := top 50
abbrev Nl_right : List Str := ["_law_source_here"]
theorem scl_right : FnScope Nl_right ["_law_source_here"] (defScope sl_right) := ⟨rfl, rfl, rfl, by decide +kernel, rfl, by decide +kernel, by decide +kernel⟩
def dl_right : He.DefD := ⟨("_law_right", none), "_law_right", "_law_right", defArgs sl_right, defBody sl_right, defScope sl_right, [], []⟩
abbrev sl_law : Stmt := top 51
abbrev Nl_law : List Str := ["_law_script", "_law_turn"]
theorem scl_law : FnScope Nl_law ["_law_script"] (defScope sl_law) := ⟨rfl, rfl, rfl, by decide +kernel, rfl, by decide +kernel, by decide +kernel⟩
def dl_law : He.DefD := ⟨("law", none), "law", "law", defArgs sl_law, defBody sl_law, defScope sl_law, [], []⟩
def fnL0 : List He.DefD := [dInvalidNumber_init, dInvalidStretch_init, dInvalidRest_init, dis_whole, dis_end, dis_span, dspan_holds, dis_residue, dresidue_of, dresidue_holds, drefuse_wrong_stretch, drefuse_wrong_rest, drefuse_wrong_number, dis_stretch, dstretch_holds, dis_rest, drest_holds, dl_source, dl_take, dl_pick, dl_great, dl_number, dl_stretch, dl_near, dl_part, dl_rest, dl_rest_near, dl_is_whole, dl_same, dl_has]
def fnL1 : List He.DefD := [dl_rest_has, dl_beside, dl_is_stretch, dl_is_rest, dl_odd, dl_bent, dl_value, dl_values_right, dl_stretches_right, dl_rests_right, dl_right, dl_law]
def fnL : List He.DefD := fnL0 ++ fnL1
def faL0 : List He.Fa := [.glo "LookError", .glo "InvalidNumber", .glo "InvalidStretch", .glo "InvalidRest", .glo "is_whole", .glo "is_end", .glo "is_span", .glo "span_holds", .glo "is_residue", .glo "residue_of", .glo "residue_holds", .glo "refuse_wrong_stretch", .glo "refuse_wrong_rest", .glo "refuse_wrong_number", .glo "is_stretch", .glo "stretch_holds", .glo "is_rest", .glo "rest_holds", .glo "_law_source", .glo "_law_take", .glo "_law_pick", .glo "_law_great", .glo "_law_number", .glo "_law_stretch", .glo "_law_near", .glo "_law_part", .glo "_law_rest", .glo "_law_rest_near", .glo "_law_is_whole", .glo "_law_same"]
def faL1 : List He.Fa := [.glo "_law_has", .glo "_law_rest_has", .glo "_law_beside", .glo "_law_is_stretch", .glo "_law_is_rest", .glo "_law_odd", .glo "_law_bent", .glo "_law_value", .glo "_law_values_right", .glo "_law_stretches_right", .glo "_law_rests_right", .glo "_law_right", .glo "law", .free "ValueError", .free "abs", .free "all", .free "bool", .free "divmod", .free "int", .free "isinstance", .free "len", .free "list", .free "max", .free "min", .free "range", .free "str", .free "tuple", .free "zip"]
def faX : List He.Fa := [.int "GRAIN" 20160]
def faL : List He.Fa := faX ++ (faL0 ++ faL1)
def looseL0 : List Str := ["LookError", "InvalidNumber", "InvalidStretch", "InvalidRest", "is_whole", "is_end", "is_span", "span_holds", "is_residue", "residue_of", "residue_holds", "refuse_wrong_stretch", "refuse_wrong_rest", "refuse_wrong_number", "is_stretch", "stretch_holds", "is_rest", "rest_holds", "_law_source", "_law_take", "_law_pick", "_law_great", "_law_number", "_law_stretch", "_law_near", "_law_part", "_law_rest", "_law_rest_near", "_law_is_whole", "_law_same"]
def looseL1 : List Str := ["_law_has", "_law_rest_has", "_law_beside", "_law_is_stretch", "_law_is_rest", "_law_odd", "_law_bent", "_law_value", "_law_values_right", "_law_stretches_right", "_law_rests_right", "_law_right", "GRAIN"]
def looseL : List Str := looseL0 ++ looseL1
def lawAt : Nat := 51
def kB : Value → Option (Int ⊕ (Str ⊕ Unit))
  | .int n _ => some (.inl n)
  | .str z _ => some (.inr (.inl z))
  | .none => some (.inr (.inr ()))
  | _ => none
def tupB (K : PySem.W.Frag) (x : Str) (zs : List (Int ⊕ (Str ⊕ Unit))) : Bool := match K.lookup (He.ga K x) with
  | some ⟨.type "tuple", _, .seq its _, _⟩ => decide (its.toList.map kB = zs.map some)
  | _ => false
def exB (K : PySem.W.Frag) : Bool := true
abbrev R : PySem.W.OpenRow := PySem.W.OpenLaw.row PySem.Challenge.rw_soundlooks_k23_whole_what_stretches_and
abbrev hk : PySem.W.Hook := He.hookX 5 faL fnL [] [] exB
def ob (s : PySem.W.SharedT) : He.AlX := He.obsX 5 faL fnL [] [] exB (HandSHeadRun.getT s)
theorem ob_eq (s : PySem.W.SharedT) : ob s = hk.obs s.abs := He.obsX_eq (HandSHeadRun.getT_eq s)
theorem run (w : World) : HandSHeadRun.RunEq R (PySem.W.view R.prog [lawAt]) hk ob 60000 looseL w := by
  intro os
  kernel_rfl
end Lw

namespace Eg
open PySem PySem.Spec L2

/-! ### data -/
/-- a list of the written part -/
def WrL (K : PySem.W.Frag) (a : Addr) (xs : List V) : Prop := SqL K (fun _ => none) a xs
theorem WrL.sq {K : PySem.W.Frag} {H : Hp} {a : Addr} {xs : List V} (h : WrL K a xs) : SqL K H a xs := by
  rcases h with (h | ⟨o, h⟩) | h
  · cases h
  · cases h
  · exact .inr h
inductive DV where
  | non | bl (b : Bool) | int (i : Int) | str (x : Str)
  | tup (xs : List DV) | lst (xs : List DV) | dic (kvs : List (Key × DV))
  | exc (C : Addr) (fs : List (Str × DV))
  | mu (k : Nat)
  | rg (lo hi : Int)
  | fn (x : Str)
/-- a mutable object -/
inductive MO where
  | dead | lst (xs : List DV) | dic (kvs : List (Key × DV)) | ins (C : Addr) (fs : List (Str × DV))
structure Wd where
  K : PySem.W.Frag
  α : List Addr
  μ : List MO
  H : Hp
def Wd.lv (w : Wd) (p : Addr) : Prop := ∃ (k : Nat) (o : MO), w.α[k]? = some p ∧ w.μ[k]? = some o ∧ o ≠ MO.dead
mutual
inductive Has (w : Wd) : V → DV → Prop
  | non : Has w .non .non
  | bl {b} : Has w (.bl b) (.bl b)
  | int {i} : Has w (.int i) (.int i)
  | str {x} : Has w (.str x) (.str x)
  | tup {p vs ds} : SqT w.K w.H p vs → HasL w vs ds → Has w (.ref p) (.tup ds)
  | lst {p vs ds} : (¬ w.lv p ∧ Rd w.H p (.lst vs)) ∨ WrL w.K p vs → HasL w vs ds → Has w (.ref p) (.lst ds)
  | dic {p kvs kds} : ¬ w.lv p → w.H p = some (.dK kvs) → HasK w kvs kds → Has w (.ref p) (.dic kds)
  | exc {p C d fs ds} : w.H p = some (exo p C (some d)) → w.H d = some (exd d fs) → HasF w fs ds → Has w (.ref p) (.exc C ds)
  | exc0 {p C} : w.H p = some (ExO (.ref C) p) → Has w (.ref p) (.exc C [])
  | mu {k a} : w.α[k]? = some a → Has w (.ref a) (.mu k)
  | rg {p lo hi} : w.H p = some (.rng lo hi) → Has w (.ref p) (.rg lo hi)
  | fn {a x} : a = He.ga w.K x → Has w (.ref a) (.fn x)
inductive HasL (w : Wd) : List V → List DV → Prop
  | nil : HasL w [] []
  | cons {v d vs ds} : Has w v d → HasL w vs ds → HasL w (v :: vs) (d :: ds)
inductive HasK (w : Wd) : List (Key × V) → List (Key × DV) → Prop
  | nil : HasK w [] []
  | cons {k v d vs ds} : Has w v d → HasK w vs ds → HasK w ((k, v) :: vs) ((k, d) :: ds)
inductive HasF (w : Wd) : List (Str × V) → List (Str × DV) → Prop
  | nil : HasF w [] []
  | cons {k v d vs ds} : Has w v d → HasF w vs ds → HasF w ((k, v) :: vs) ((k, d) :: ds)
end
def MHas (w : Wd) (a : Addr) : MO → Prop
  | .dead => True
  | .lst ds => ∃ vs, w.H a = some (.lst vs) ∧ HasL w vs ds
  | .dic kds => ∃ kvs, w.H a = some (.dK kvs) ∧ HasK w kvs kds
  | .ins C fds => ∃ dx fs, w.H a = some (.ins C dx fs) ∧ HasF w fs fds
structure Live (w : Wd) : Prop where
  len : w.α.length = w.μ.length
  nd : w.α.Nodup
  tr : ∀ a ∈ w.α, w.H a ≠ none
  ob : ∀ (k : Nat) (a : Addr) (o : MO), w.α[k]? = some a → w.μ[k]? = some o → MHas w a o
abbrev RO := List (Option DV)
structure En (w : Wd) (σ : St) (ρ : RO) : Prop where
  live : Live w
  len : σ.length = ρ.length
  at_ : ∀ (i : Nat) (d : DV), ρ[i]? = some (some d) → ∃ v, σ[i]? = some (some v) ∧ Has w v d
/-- what a change of the world has to keep -/
structure Kp (w w' : Wd) : Prop where
  K : w'.K = w.K
  α : ∀ (k : Nat) (a : Addr), w.α[k]? = some a → w'.α[k]? = some a
  lv : ∀ p, w.H p ≠ none → w'.lv p → w.lv p
  H : ∀ p o, w.H p = some o → ¬ w.lv p → w'.H p = some o
  tu : ∀ p, w.lv p → Mut (w.H p)
  ex : ∀ p φ, w.H p = some (.ext φ) → ¬ w.lv p
mutual
theorem Kp.has {w w' : Wd} (k : Kp w w') : ∀ {v : V} {d : DV}, Has w v d → Has w' v d
  | _, _, .non => .non
  | _, _, .bl => .bl
  | _, _, .int => .int
  | _, _, .str => .str
  | _, _, .tup h t => .tup (by
      have nl : ∀ {p xs}, Rd w.H p (.tup xs) → ¬ w.lv p := fun {p xs} r z => by
        have m := k.tu p z
        rcases r with r | ⟨o, r⟩ <;> (rw [r] at m; exact m)
      rcases h with r | r
      · have n := nl r
        rcases r with r | ⟨o, r⟩
        · exact .inl (.inl (k.H _ _ r n))
        · exact .inl (.inr ⟨o, k.H _ _ r n⟩)
      · exact .inr (by rw [k.K]; exact r)) (Kp.hasL k t)
  | _, _, .lst r t => .lst (by
      rcases r with ⟨n, r⟩ | r
      · refine .inl ⟨fun z => n (k.lv _ (by rcases r with r | ⟨o, r⟩ <;> (rw [r]; exact fun z => nomatch z)) z), ?_⟩
        rcases r with r | ⟨o, r⟩
        · exact .inl (k.H _ _ r n)
        · exact .inr ⟨o, k.H _ _ r n⟩
      · exact .inr (by rw [k.K]; exact r)) (Kp.hasL k t)
  | _, _, .dic n r t => .dic (fun z => n (k.lv _ (by rw [r]; exact fun z => nomatch z) z)) (k.H _ _ r n) (Kp.hasK k t)
  | _, _, .exc h1 h2 t => .exc (k.H _ _ h1 (k.ex _ _ h1)) (k.H _ _ h2 (k.ex _ _ h2)) (Kp.hasF k t)
  | _, _, .exc0 h1 => .exc0 (k.H _ _ h1 (k.ex _ _ h1))
  | _, _, .mu h => .mu (k.α _ _ h)
  | _, _, .rg r => .rg (k.H _ _ r fun z => by
      have m := k.tu _ z
      rw [r] at m
      exact m)
  | _, _, .fn h => .fn (by rw [k.K]; exact h)
theorem Kp.hasL {w w' : Wd} (k : Kp w w') : ∀ {vs : List V} {ds : List DV}, HasL w vs ds → HasL w' vs ds
  | _, _, .nil => .nil
  | _, _, .cons h t => .cons (Kp.has k h) (Kp.hasL k t)
theorem Kp.hasK {w w' : Wd} (k : Kp w w') : ∀ {vs : List (Key × V)} {ds : List (Key × DV)}, HasK w vs ds → HasK w' vs ds
  | _, _, .nil => .nil
  | _, _, .cons h t => .cons (Kp.has k h) (Kp.hasK k t)
theorem Kp.hasF {w w' : Wd} (k : Kp w w') : ∀ {vs : List (Str × V)} {ds : List (Str × DV)}, HasF w vs ds → HasF w' vs ds
  | _, _, .nil => .nil
  | _, _, .cons h t => .cons (Kp.has k h) (Kp.hasF k t)
end
theorem En.ext {w w' : Wd} {σ : L2.St} {ρ : RO} (E : En w σ ρ) (e : Kp w w') (l : Live w') : En w' σ ρ :=
  ⟨l, E.len, fun i d h => let ⟨v, h1, h2⟩ := E.at_ i d h; ⟨v, h1, e.has h2⟩⟩
theorem Kp.trans {a b c : Wd} (h : Kp a b) (k : Kp b c) : Kp a c where
  K := k.K.trans h.K
  α := fun i x e => k.α i x (h.α i x e)
  lv := fun p n z => by
    by_cases q : a.lv p
    · exact q
    · cases e : a.H p with
      | none => exact absurd e n
      | some o => exact h.lv p n (k.lv p (by rw [h.H p o e q]; exact fun z => nomatch z) z)
  H := fun p o e n => k.H p o (h.H p o e n) fun z => n (h.lv p (by rw [e]; exact fun z => nomatch z) z)
  tu := h.tu
  ex := h.ex
/-- a live object is one that may be changed -/
theorem Live.mut {w : Wd} (l : Live w) {p : Addr} (h : w.lv p) : (∃ xs, w.H p = some (.lst xs)) ∨ (∃ xs, w.H p = some (.dK xs)) ∨ ∃ C dx fs, w.H p = some (.ins C dx fs) := by
  obtain ⟨k, o, h1, h2, h3⟩ := h
  have q := l.ob k p o h1 h2
  cases o with
  | dead => exact absurd rfl h3
  | lst ds => obtain ⟨vs, e, _⟩ := q; exact .inl ⟨vs, e⟩
  | dic ds => obtain ⟨vs, e, _⟩ := q; exact .inr (.inl ⟨vs, e⟩)
  | ins C fs => obtain ⟨dx, vs, e, _⟩ := q; exact .inr (.inr ⟨C, dx, vs, e⟩)
theorem Kp.of {w w' : Wd} (l : Live w) (K : w'.K = w.K) (α : ∀ (k : Nat) (a : Addr), w.α[k]? = some a → w'.α[k]? = some a) (lv : ∀ p, w.H p ≠ none → w'.lv p → w.lv p)
    (H : ∀ p o, w.H p = some o → ¬ w.lv p → w'.H p = some o) : Kp w w' where
  K := K
  α := α
  lv := lv
  H := H
  tu := fun p z => by
    rcases l.mut z with ⟨xs, e⟩ | ⟨xs, e⟩ | ⟨C, dx, fs, e⟩ <;> (rw [e]; exact True.intro)
  ex := fun p φ e z => by
    rcases l.mut z with ⟨xs, q⟩ | ⟨xs, q⟩ | ⟨C, dx, fs, q⟩ <;> (rw [e] at q; cases q)
theorem Live.refl {w : Wd} (l : Live w) : Kp w w := Kp.of l rfl (fun _ _ e => e) (fun _ _ e => e) fun _ _ e _ => e
theorem Live.fresh {w : Wd} (l : Live w) {p : Addr} (n : w.H p = none) : ¬ w.lv p := fun z => by
  rcases l.mut z with ⟨xs, e⟩ | ⟨xs, e⟩ | ⟨C, dx, fs, e⟩ <;> (rw [n] at e; cases e)
theorem Live.nin {w : Wd} (l : Live w) {p : Addr} (n : w.H p = none) : p ∉ w.α := fun z => l.tr p z n
/-- the k-th objects' accounts behind a change that leaves the live ones -/
theorem MHas.ext {w w' : Wd} (e : Kp w w') {a : Addr} : ∀ {o : MO}, (o ≠ MO.dead → w'.H a = w.H a) → MHas w a o → MHas w' a o
  | .dead, _, _ => True.intro
  | .lst _, q, ⟨vs, h1, h2⟩ => ⟨vs, (q (fun z => nomatch z)).trans h1, e.hasL h2⟩
  | .dic _, q, ⟨vs, h1, h2⟩ => ⟨vs, (q (fun z => nomatch z)).trans h1, e.hasK h2⟩
  | .ins _ _, q, ⟨dx, vs, h1, h2⟩ => ⟨dx, vs, (q (fun z => nomatch z)).trans h1, e.hasF h2⟩
section
variable {K : PySem.W.Frag} {α : List Addr} {μ : List MO} {H : Hp} {p : Addr} {o : HO}
/-- a new object is laid that nobody may change -/
theorem Live.lay (l : Live ⟨K, α, μ, H⟩) (n : H p = none) : Kp ⟨K, α, μ, H⟩ ⟨K, α, μ, upd H p o⟩ ∧ Live ⟨K, α, μ, upd H p o⟩ := by
  have k : Kp ⟨K, α, μ, H⟩ ⟨K, α, μ, upd H p o⟩ := Kp.of l rfl (fun _ _ e => e) (fun _ _ e => e) fun q u e _ => by
    show upd H p o q = some u
    rw [upd_ne (ne_of_none e n)]
    exact e
  refine ⟨k, l.len, l.nd, fun a ha z => ?_, fun i a m h1 h2 => MHas.ext k (fun hm => ?_) (l.ob i a m h1 h2)⟩
  · have z' : upd H p o a = none := z
    by_cases e : a = p
    · rw [e, upd_same] at z'
      cases z'
    · rw [upd_ne e] at z'
      exact l.tr a ha z'
  · show upd H p o a = H a
    refine upd_ne fun e => l.fresh (p := p) n ?_
    rw [← e]
    exact ⟨i, m, h1, h2, hm⟩
/-- a new object is laid that may be changed -/
theorem Live.layM {m : MO} (l : Live ⟨K, α, μ, H⟩) (n : H p = none) (hm : Live ⟨K, α, μ, upd H p o⟩ → Kp ⟨K, α, μ, H⟩ ⟨K, α ++ [p], μ ++ [m], upd H p o⟩ → MHas ⟨K, α ++ [p], μ ++ [m], upd H p o⟩ p m) :
    Kp ⟨K, α, μ, H⟩ ⟨K, α ++ [p], μ ++ [m], upd H p o⟩ ∧ Live ⟨K, α ++ [p], μ ++ [m], upd H p o⟩ ∧ (α ++ [p])[μ.length]? = some p := by
  obtain ⟨_, l1⟩ := l.lay (o := o) n
  have hl : α.length = μ.length := l.len
  have np : p ∉ α := l.nin n
  have cases_ : ∀ {i : Nat} {a : Addr} {u : MO}, (α ++ [p])[i]? = some a → (μ ++ [m])[i]? = some u → (α[i]? = some a ∧ μ[i]? = some u) ∨ (a = p ∧ u = m) := fun {i a u} h1 h2 => by
    by_cases hi : i < α.length
    · rw [List.getElem?_append_left hi] at h1
      rw [List.getElem?_append_left (by omega)] at h2
      exact .inl ⟨h1, h2⟩
    · rw [List.getElem?_append_right (by omega)] at h1
      rw [List.getElem?_append_right (by omega)] at h2
      have hi1 : i - α.length = 0 := by
        cases e : i - α.length with
        | zero => rfl
        | succ j =>
          rw [e] at h1
          simp at h1
      have hi2 : i - μ.length = 0 := by omega
      rw [hi1] at h1
      rw [hi2] at h2
      simp at h1 h2
      exact .inr ⟨h1.symm, h2.symm⟩
  have k : Kp ⟨K, α, μ, H⟩ ⟨K, α ++ [p], μ ++ [m], upd H p o⟩ := Kp.of l rfl (fun i a e => by
      have e' : α[i]? = some a := e
      show (α ++ [p])[i]? = some a
      rw [List.getElem?_append_left (List.getElem?_eq_some_iff.mp e').1]
      exact e') (fun q nq ⟨i, u, h1, h2, h3⟩ => by
      rcases cases_ h1 h2 with ⟨q1, q2⟩ | ⟨q1, _⟩
      · exact ⟨i, u, q1, q2, h3⟩
      · exact absurd (show H q = none by rw [q1]; exact n) nq) fun q u e _ => by
    show upd H p o q = some u
    rw [upd_ne (ne_of_none e n)]
    exact e
  refine ⟨k, ⟨?_, ?_, ?_, ?_⟩, ?_⟩
  · show (α ++ [p]).length = (μ ++ [m]).length
    simp [hl]
  · show (α ++ [p]).Nodup
    refine List.nodup_append.mpr ⟨l.nd, by simp, ?_⟩
    intro a ha b hb
    rw [List.mem_singleton] at hb
    rw [hb]
    exact fun e => np (e ▸ ha)
  · intro a ha
    have ha' : a ∈ α ++ [p] := ha
    rcases List.mem_append.mp ha' with h | h
    · exact l1.tr a h
    · rw [List.mem_singleton] at h
      rw [h]
      show upd H p o p ≠ none
      rw [upd_same]
      exact fun z => nomatch z
  · intro i a u h1 h2
    rcases cases_ h1 h2 with ⟨q1, q2⟩ | ⟨q1, q2⟩
    · refine MHas.ext k (fun hu => ?_) (l.ob i a u q1 q2)
      show upd H p o a = H a
      exact upd_ne fun e => l.fresh (p := p) n (by rw [← e]; exact ⟨i, u, q1, q2, hu⟩)
    · rw [q1, q2]
      exact hm l1 k
  · rw [← hl]
    simp
/-- new objects are laid that nobody may change -/
theorem Live.lays {H' : Hp} (l : Live ⟨K, α, μ, H⟩) (h : ∀ p, H p ≠ none → H' p = H p) : Kp ⟨K, α, μ, H⟩ ⟨K, α, μ, H'⟩ ∧ Live ⟨K, α, μ, H'⟩ := by
  have k : Kp ⟨K, α, μ, H⟩ ⟨K, α, μ, H'⟩ := Kp.of l rfl (fun _ _ e => e) (fun _ _ e => e) fun q u e _ => (h q (by
    have e' : H q = some u := e
    rw [e']
    exact fun z => nomatch z)).trans e
  refine ⟨k, l.len, l.nd, fun a ha z => l.tr a ha ((h a (l.tr a ha)).symm.trans z), fun i a m h1 h2 => MHas.ext k (fun _ => ?_) (l.ob i a m h1 h2)⟩
  exact h a (l.tr a (List.mem_of_getElem? h1))
/-- the k-th object is changed -/
theorem Live.put {k : Nat} {a : Addr} {m0 m : MO} (l : Live ⟨K, α, μ, H⟩) (ha : α[k]? = some a) (hm0 : μ[k]? = some m0) (h0 : m0 ≠ MO.dead)
    (hm : Kp ⟨K, α, μ, H⟩ ⟨K, α, μ.set k m, upd H a o⟩ → MHas ⟨K, α, μ.set k m, upd H a o⟩ a m) : Kp ⟨K, α, μ, H⟩ ⟨K, α, μ.set k m, upd H a o⟩ ∧ Live ⟨K, α, μ.set k m, upd H a o⟩ := by
  have la : Wd.lv ⟨K, α, μ, H⟩ a := ⟨k, m0, ha, hm0, h0⟩
  have hk : k < μ.length := (List.getElem?_eq_some_iff.mp hm0).1
  have same : ∀ {i : Nat}, α[i]? = some a → i = k := fun {i} e => nd_ix l.nd e ha
  have kp : Kp ⟨K, α, μ, H⟩ ⟨K, α, μ.set k m, upd H a o⟩ := Kp.of l rfl (fun _ _ e => e) (fun q _ ⟨i, u, h1, h2, h3⟩ => by
      by_cases e : i = k
      · subst e
        have h1' : α[i]? = some q := h1
        rw [ha] at h1'
        cases h1'
        exact la
      · exact ⟨i, u, h1, by rw [← h2]; exact (List.getElem?_set_ne (Ne.symm e)).symm, h3⟩) fun q u e nl => by
    show upd H a o q = some u
    rw [upd_ne (fun z : q = a => nl (by rw [z]; exact la))]
    exact e
  refine ⟨kp, ⟨?_, l.nd, ?_, ?_⟩⟩
  · show α.length = (μ.set k m).length
    rw [List.length_set]
    exact l.len
  · intro b hb z
    have z' : upd H a o b = none := z
    by_cases e : b = a
    · rw [e, upd_same] at z'
      cases z'
    · rw [upd_ne e] at z'
      exact l.tr b hb z'
  · intro i b u h1 h2
    have h2' : (μ.set k m)[i]? = some u := h2
    have h1' : α[i]? = some b := h1
    by_cases e : i = k
    · subst e
      rw [List.getElem?_set_self hk] at h2'
      cases h2'
      rw [ha] at h1'
      cases h1'
      exact hm kp
    · rw [List.getElem?_set_ne (Ne.symm e)] at h2'
      refine MHas.ext kp (fun _ => ?_) (l.ob i b u h1 h2')
      show upd H a o b = H b
      exact upd_ne fun z : b = a => e (same (by rw [← z]; exact h1'))
/-- nobody will change the k-th object any more -/
theorem Live.freeze {k : Nat} (l : Live ⟨K, α, μ, H⟩) : Kp ⟨K, α, μ, H⟩ ⟨K, α, μ.set k MO.dead, H⟩ ∧ Live ⟨K, α, μ.set k MO.dead, H⟩ ∧ ∀ a, α[k]? = some a → ¬ Wd.lv ⟨K, α, μ.set k MO.dead, H⟩ a := by
  have at_ : ∀ {i : Nat} {u : MO}, (μ.set k MO.dead)[i]? = some u → u = MO.dead ∨ (i ≠ k ∧ μ[i]? = some u) := fun {i u} h => by
    by_cases e : i = k
    · subst e
      by_cases hi : i < μ.length
      · rw [List.getElem?_set_self hi] at h
        exact .inl (Option.some.inj h).symm
      · rw [List.getElem?_eq_none_iff.mpr (by rw [List.length_set]; omega)] at h
        cases h
    · rw [List.getElem?_set_ne (Ne.symm e)] at h
      exact .inr ⟨e, h⟩
  have kp : Kp ⟨K, α, μ, H⟩ ⟨K, α, μ.set k MO.dead, H⟩ := Kp.of l rfl (fun _ _ e => e) (fun q _ ⟨i, u, h1, h2, h3⟩ => by
      rcases at_ h2 with z | ⟨_, z⟩
      · exact absurd z h3
      · exact ⟨i, u, h1, z, h3⟩) fun q u e nl => e
  refine ⟨kp, ⟨?_, l.nd, l.tr, ?_⟩, ?_⟩
  · show α.length = (μ.set k MO.dead).length
    rw [List.length_set]
    exact l.len
  · intro i b u h1 h2
    rcases at_ h2 with z | ⟨_, z⟩
    · rw [z]
      exact True.intro
    · exact MHas.ext kp (fun _ => rfl) (l.ob i b u h1 z)
  · rintro a ha ⟨i, u, h1, h2, h3⟩
    rcases at_ h2 with z | ⟨ne, _⟩
    · exact h3 z
    · exact ne (nd_ix l.nd h1 ha)
end
mutual
/-- its mutable objects are among the first n -/
def DV.bel (n : Nat) : DV → Bool
  | .tup xs => DV.belL n xs
  | .lst xs => DV.belL n xs
  | .dic kvs => DV.belK n kvs
  | .exc _ fs => DV.belF n fs
  | .mu k => decide (k < n)
  | _ => true
def DV.belL (n : Nat) : List DV → Bool
  | [] => true
  | x :: r => DV.bel n x && DV.belL n r
def DV.belK (n : Nat) : List (Key × DV) → Bool
  | [] => true
  | (_, x) :: r => DV.bel n x && DV.belK n r
def DV.belF (n : Nat) : List (Str × DV) → Bool
  | [] => true
  | (_, x) :: r => DV.bel n x && DV.belF n r
end
def MO.bel (n : Nat) : MO → Bool
  | .dead => true
  | .lst xs => DV.belL n xs
  | .dic kvs => DV.belK n kvs
  | .ins _ fs => DV.belF n fs
section
variable {w w' : Wd} {n : Nat}
mutual
theorem Has.move (K : w'.K = w.K) (H : w'.H = w.H) (lv : ∀ p, w'.lv p → w.lv p) (α : ∀ (k : Nat) (a : Addr), k < n → w.α[k]? = some a → w'.α[k]? = some a) : ∀ {v : V} {d : DV}, Has w v d → DV.bel n d = true → Has w' v d
  | _, _, .non, _ => .non
  | _, _, .bl, _ => .bl
  | _, _, .int, _ => .int
  | _, _, .str, _ => .str
  | _, _, .tup h t, p => .tup (by rw [K, H]; exact h) (HasL.move K H lv α t p)
  | _, _, .lst r t, p => .lst (by
      rcases r with ⟨n, r⟩ | r
      · exact .inl ⟨fun z => n (lv _ z), by rw [H]; exact r⟩
      · exact .inr (by rw [K]; exact r)) (HasL.move K H lv α t p)
  | _, _, .dic n r t, p => .dic (fun z => n (lv _ z)) (by rw [H]; exact r) (HasK.move K H lv α t p)
  | _, _, .exc h1 h2 t, p => .exc (by rw [H]; exact h1) (by rw [H]; exact h2) (HasF.move K H lv α t p)
  | _, _, .exc0 h1, _ => .exc0 (by rw [H]; exact h1)
  | _, _, .mu h, p => .mu (α _ _ (of_decide_eq_true p) h)
  | _, _, .rg r, _ => .rg (by rw [H]; exact r)
  | _, _, .fn h, _ => .fn (by rw [K]; exact h)
theorem HasL.move (K : w'.K = w.K) (H : w'.H = w.H) (lv : ∀ p, w'.lv p → w.lv p) (α : ∀ (k : Nat) (a : Addr), k < n → w.α[k]? = some a → w'.α[k]? = some a) : ∀ {vs : List V} {ds : List DV}, HasL w vs ds → DV.belL n ds = true → HasL w' vs ds
  | _, _, .nil, _ => .nil
  | _, _, .cons h t, p => .cons (Has.move K H lv α h (Bool.and_eq_true_iff.mp p).1) (HasL.move K H lv α t (Bool.and_eq_true_iff.mp p).2)
theorem HasK.move (K : w'.K = w.K) (H : w'.H = w.H) (lv : ∀ p, w'.lv p → w.lv p) (α : ∀ (k : Nat) (a : Addr), k < n → w.α[k]? = some a → w'.α[k]? = some a) : ∀ {vs : List (Key × V)} {ds : List (Key × DV)}, HasK w vs ds → DV.belK n ds = true → HasK w' vs ds
  | _, _, .nil, _ => .nil
  | _, _, .cons h t, p => .cons (Has.move K H lv α h (Bool.and_eq_true_iff.mp p).1) (HasK.move K H lv α t (Bool.and_eq_true_iff.mp p).2)
theorem HasF.move (K : w'.K = w.K) (H : w'.H = w.H) (lv : ∀ p, w'.lv p → w.lv p) (α : ∀ (k : Nat) (a : Addr), k < n → w.α[k]? = some a → w'.α[k]? = some a) : ∀ {vs : List (Str × V)} {ds : List (Str × DV)}, HasF w vs ds → DV.belF n ds = true → HasF w' vs ds
  | _, _, .nil, _ => .nil
  | _, _, .cons h t, p => .cons (Has.move K H lv α h (Bool.and_eq_true_iff.mp p).1) (HasF.move K H lv α t (Bool.and_eq_true_iff.mp p).2)
end
end
/-- what was made beside is forgotten -/
def Wd.cut (w : Wd) (n : Nat) : Wd := ⟨w.K, w.α.take n, w.μ.take n, w.H⟩
theorem cut_lv {w : Wd} {n : Nat} {p : Addr} (h : (w.cut n).lv p) : w.lv p := by
  obtain ⟨i, u, h1, h2, h3⟩ := h
  have h1' : (w.α.take n)[i]? = some p := h1
  have h2' : (w.μ.take n)[i]? = some u := h2
  rw [List.getElem?_take] at h1' h2'
  split at h1'
  · rename_i hi
    rw [if_pos hi] at h2'
    exact ⟨i, u, h1', h2', h3⟩
  · cases h1'
theorem Live.cut {w w' : Wd} (l : Live w) (l' : Live w') (k : Kp w w') : Kp w (w'.cut w.μ.length) := Kp.of l k.K (fun i a e => by
    show (w'.α.take w.μ.length)[i]? = some a
    have hi : i < w.μ.length := by
      rw [← l.len]
      exact (List.getElem?_eq_some_iff.mp e).1
    rw [List.getElem?_take, if_pos hi]
    exact k.α i a e) (fun p n z => k.lv p n (cut_lv z)) k.H
theorem cut_α {w : Wd} {n : Nat} (k : Nat) (a : Addr) (h : k < n) (e : w.α[k]? = some a) : (w.cut n).α[k]? = some a := by
  show (w.α.take n)[k]? = some a
  rw [List.getElem?_take, if_pos h]
  exact e
theorem Live.cutL {w : Wd} (l : Live w) (n : Nat) (p : (w.μ.take n).all (MO.bel n) = true) : Live (w.cut n) where
  len := by
    show (w.α.take n).length = (w.μ.take n).length
    rw [List.length_take, List.length_take, l.len]
  nd := l.nd.sublist (List.take_sublist _ _)
  tr := fun a h => l.tr a (List.mem_of_mem_take h)
  ob := fun i a u h1 h2 => by
    have h1' : (w.α.take n)[i]? = some a := h1
    have h2' : (w.μ.take n)[i]? = some u := h2
    have pu : MO.bel n u = true := List.all_eq_true.mp p u (List.mem_of_getElem? h2')
    rw [List.getElem?_take] at h1' h2'
    split at h1'
    · rename_i hi
      rw [if_pos hi] at h2'
      have q := l.ob i a u h1' h2'
      cases u with
      | dead => exact True.intro
      | lst ds =>
        obtain ⟨vs, e, t⟩ := q
        exact ⟨vs, e, HasL.move (w := w) (w' := w.cut n) (n := n) rfl rfl (fun _ z => cut_lv z) cut_α t pu⟩
      | dic ds =>
        obtain ⟨vs, e, t⟩ := q
        exact ⟨vs, e, HasK.move (w := w) (w' := w.cut n) (n := n) rfl rfl (fun _ z => cut_lv z) cut_α t pu⟩
      | ins C ds =>
        obtain ⟨dx, vs, e, t⟩ := q
        exact ⟨dx, vs, e, HasF.move (w := w) (w' := w.cut n) (n := n) rfl rfl (fun _ z => cut_lv z) cut_α t pu⟩
    · cases h1'
theorem Has.cut {w : Wd} {n : Nat} {v : V} {d : DV} (h : Has w v d) (p : DV.bel n d = true) : Has (w.cut n) v d := Has.move (w := w) (w' := w.cut n) (n := n) rfl rfl (fun _ z => cut_lv z) cut_α h p
end Eg

namespace Eg
open PySem PySem.Spec L2
abbrev Cn := DV → List MO → Prop
abbrev Ct := Bool → List MO → Prop
abbrev Ca := List DV → List MO → Prop
section
variable {X : Cx}
def tEv (X : Cx) (ρ : RO) (μ : List MO) (R : Cn) : TE := fun σ H Q => ∃ α, En ⟨X.K, α, μ, H⟩ σ ρ ∧
  ∀ v d α' μ' H', R d μ' → En ⟨X.K, α', μ', H'⟩ σ ρ → Kp ⟨X.K, α, μ, H⟩ ⟨X.K, α', μ', H'⟩ → Has ⟨X.K, α', μ', H'⟩ v d → Q v H'
def tEvT (X : Cx) (ρ : RO) (μ : List MO) (R : Ct) : TT := fun σ H Q => ∃ α, En ⟨X.K, α, μ, H⟩ σ ρ ∧
  ∀ b α' μ' H', R b μ' → En ⟨X.K, α', μ', H'⟩ σ ρ → Kp ⟨X.K, α, μ, H⟩ ⟨X.K, α', μ', H'⟩ → Q b H'
def tEvA (X : Cx) (ρ : RO) (μ : List MO) (R : Ca) : TA := fun σ H Q => ∃ α, En ⟨X.K, α, μ, H⟩ σ ρ ∧
  ∀ vs ds α' μ' H', R ds μ' → En ⟨X.K, α', μ', H'⟩ σ ρ → Kp ⟨X.K, α, μ, H⟩ ⟨X.K, α', μ', H'⟩ → HasL ⟨X.K, α', μ', H'⟩ vs ds → Q vs H'
/-- the expression, over the slots ρ and the objects μ, comes to what R lets -/
def Ev (X : Cx) (e : Expr) (ρ : RO) (μ : List MO) (R : Cn) : Prop := PE X e (tEv X ρ μ R)
def EvT (X : Cx) (e : Expr) (ρ : RO) (μ : List MO) (R : Ct) : Prop := PT X e (tEvT X ρ μ R)
def EvW (X : Cx) (e : Expr) (ρ : RO) (μ : List MO) (R : Ct) : Prop := PW X e (tEvT X ρ μ R)
def EvA (X : Cx) (es : List Expr) (ρ : RO) (μ : List MO) (R : Ca) : Prop := PA X es (tEvA X ρ μ R)

def aE (X : Cx) (e : Expr) : TE := fun σ H Q => ∃ t, PE X e t ∧ t σ H Q
def aT (X : Cx) (e : Expr) : TT := fun σ H Q => ∃ t, PT X e t ∧ t σ H Q
def aW (X : Cx) (e : Expr) : TT := fun σ H Q => ∃ t, PW X e t ∧ t σ H Q
def aA (X : Cx) (e : List Expr) : TA := fun σ H Q => ∃ t, PA X e t ∧ t σ H Q
theorem pe_a {e : Expr} : PE X e (aE X e) := ⟨fun pins s σ H Q I ⟨_, h, q⟩ => h.run pins s σ H Q I q⟩
theorem pt_a {e : Expr} : PT X e (aT X e) := ⟨fun pins s σ H Q I ⟨_, h, q⟩ => h.run pins s σ H Q I q⟩
theorem pw_a {e : Expr} : PW X e (aW X e) := ⟨fun wh pins s σ H Q I ⟨_, h, q⟩ => h.run wh pins s σ H Q I q⟩
theorem pa_a {e : List Expr} : PA X e (aA X e) := ⟨fun pos pins s σ H Q I ⟨_, h, q⟩ => h.run pos pins s σ H Q I q⟩
theorem PEw {e : Expr} {t t' : TE} (h : PE X e t) (k : ∀ σ H Q, t' σ H Q → t σ H Q) : PE X e t' := ⟨fun pins s σ H Q I q => h.run pins s σ H Q I (k σ H Q q)⟩
theorem PTw {e : Expr} {t t' : TT} (h : PT X e t) (k : ∀ σ H Q, t' σ H Q → t σ H Q) : PT X e t' := ⟨fun pins s σ H Q I q => h.run pins s σ H Q I (k σ H Q q)⟩
theorem PWw {e : Expr} {t t' : TT} (h : PW X e t) (k : ∀ σ H Q, t' σ H Q → t σ H Q) : PW X e t' := ⟨fun wh pins s σ H Q I q => h.run wh pins s σ H Q I (k σ H Q q)⟩
theorem PAw {e : List Expr} {t t' : TA} (h : PA X e t) (k : ∀ σ H Q, t' σ H Q → t σ H Q) : PA X e t' := ⟨fun pos pins s σ H Q I q => h.run pos pins s σ H Q I (k σ H Q q)⟩
section
variable {e a b c : Expr} {es : List Expr} {ρ : RO} {μ : List MO} {pos : Pos}
theorem Ev.mono {R R' : Cn} (h : Ev X e ρ μ R) (k : ∀ d μ', R d μ' → R' d μ') : Ev X e ρ μ R' :=
  PEw h fun σ H Q ⟨α, E, q⟩ => ⟨α, E, fun v d α' μ' H' r => q v d α' μ' H' (k _ _ r)⟩
theorem EvT.mono {R R' : Ct} (h : EvT X e ρ μ R) (k : ∀ d μ', R d μ' → R' d μ') : EvT X e ρ μ R' :=
  PTw h fun σ H Q ⟨α, E, q⟩ => ⟨α, E, fun v α' μ' H' r => q v α' μ' H' (k _ _ r)⟩
/-- an expression that leaves all as it is -/
theorem Ev.still {R : Cn} {v : V} {d : DV} (h : PE X e (tC v)) (hv : ∀ w, Has w v d) (hR : R d μ) : Ev X e ρ μ R :=
  PEw h fun σ H Q ⟨α, E, q⟩ => q v d α μ H hR E E.live.refl (hv _)
theorem Ev.name {R : Cn} (i : Nat) {x : Str} {d : DV} (hN : X.N[i]? = some x) (hv : Vis X.env.scope x) (hr : ρ[i]? = some (some d)) (hR : R d μ) (hd : (x == ("__debug__" : Str)) = false := by decide) (hcd : (x == ("__classdict__" : Str)) = false := by decide) :
    Ev X (.Name x pos) ρ μ R := PEw (pe_var hN hv hd hcd) fun σ H Q ⟨α, E, q⟩ => by
  obtain ⟨v, h1, h2⟩ := E.at_ i d hr
  exact ⟨v, h1, q v d α μ H hR E E.live.refl h2⟩
theorem Ev.int {R : Cn} {i : Int} {j} (hR : R (.int i) μ) : Ev X (.Constant (.int i) j pos) ρ μ R := .still pe_int (fun _ => .int) hR
theorem Ev.bl {R : Cn} {i : Bool} {j} (hR : R (.bl i) μ) : Ev X (.Constant (.bool i) j pos) ρ μ R := .still pe_bl (fun _ => .bl) hR
theorem Ev.non {R : Cn} {j} (hR : R .non μ) : Ev X (.Constant .none j pos) ρ μ R := .still pe_non (fun _ => .non) hR
theorem Ev.str {R : Cn} {x : Str} {j} (hR : R (.str x) μ) : Ev X (.Constant (.str x) j pos) ρ μ R := .still pe_str (fun _ => .str) hR
/-- a module's constant -/
theorem Ev.glob {R : Cn} {x : Str} {v : V} {u : Value} {d : DV} (hg : Gl X x) (hm : X.mg x = some u) (r : RelV v u) (hv : ∀ α μ H, Has ⟨X.K, α, μ, H⟩ v d) (hR : R d μ) (hd : (x == ("__debug__" : Str)) = false := by decide) : Ev X (.Name x pos) ρ μ R :=
  PEw (pe_glob hg hm r hd) fun σ H Q ⟨α, E, q⟩ => q v d α μ H hR E E.live.refl (hv _ _ _)

/-! ### two places -/
abbrev S2 := DV → DV → List MO → Cn → Prop
def Stp (X : Cx) (ρ : RO) (w : Wd) (σ : L2.St) (R : Cn) (Q : VK) : Prop := ∀ v d α' μ' H', R d μ' → En ⟨X.K, α', μ', H'⟩ σ ρ → Kp w ⟨X.K, α', μ', H'⟩ → Has ⟨X.K, α', μ', H'⟩ v d → Q v H'
def R2S (X : Cx) (r : R2) (S : S2) : Prop := ∀ (α : List Addr) (μ : List MO) (H : Hp) (σ : L2.St) (ρ : RO) (x y : V) (da db : DV) (R : Cn) (Q : VK), En ⟨X.K, α, μ, H⟩ σ ρ → Has ⟨X.K, α, μ, H⟩ x da → Has ⟨X.K, α, μ, H⟩ y db → S da db μ R → Stp X ρ ⟨X.K, α, μ, H⟩ σ R Q → r x y H Q
theorem tOp_S {r : R2} {S : S2} {R : Cn} (k : R2S X r S) (h : Ev X a ρ μ fun da μ1 => Ev X b ρ μ1 fun db μ2 => S da db μ2 R) (σ : L2.St) (H : Hp) (Q : VK) (q : tEv X ρ μ R σ H Q) : tOp r (aE X a) (aE X b) σ H Q := by
  obtain ⟨α, E, q⟩ := q
  exact ⟨_, h, α, E, fun x da α1 μ1 H1 h1 E1 X1 hx => ⟨_, h1, α1, E1, fun y db α2 μ2 H2 h2 E2 X2 hy =>
    k α2 μ2 H2 σ ρ x y da db R Q E2 (X2.has hx) hy h2 fun v d α' μ' H' r' E' X' hv => q v d α' μ' H' r' E' (X1.trans (X2.trans X')) hv⟩⟩
theorem Ev.op {op : Operator} {R : Cn} {r : R2} {S : S2} (hr : OpR X (binaryOp op) r) (k : R2S X r S) (h : Ev X a ρ μ fun da μ1 => Ev X b ρ μ1 fun db μ2 => S da db μ2 R) : Ev X (.BinOp a op b pos) ρ μ R :=
  PEw (pe_op hr pe_a pe_a) (tOp_S k h)
theorem Ev.cmp {op : CmpOp} {R : Cn} {r : R2} {S : S2} (hr : OpR X (compareOp op) r) (k : R2S X r S) (hm : behindInMarks op b = false) (h : Ev X a ρ μ fun da μ1 => Ev X b ρ μ1 fun db μ2 => S da db μ2 R) : Ev X (.Compare a [op] [b] pos) ρ μ R :=
  PEw (pe_cmpR hr pe_a pe_a hm) (tOp_S k h)
theorem Ev.ix {R : Cn} {r : R2} {S : S2} (hr : IxR X r) (k : R2S X r S) (hs : PlainIx b) (h : Ev X a ρ μ fun da μ1 => Ev X b ρ μ1 fun db μ2 => S da db μ2 R) : Ev X (.Subscript a b pos) ρ μ R :=
  PEw (pe_ix hr pe_a pe_a hs) (tOp_S k h)
/-! ### the steps -/
theorem Stp.sc {α : List Addr} {H : Hp} {σ : L2.St} {R : Cn} {Q : VK} (E : En ⟨X.K, α, μ, H⟩ σ ρ) (q : Stp X ρ ⟨X.K, α, μ, H⟩ σ R Q) {v : V} {d : DV} (hR : R d μ) (hv : Has ⟨X.K, α, μ, H⟩ v d) : Q v H := q v d α μ H hR E E.live.refl hv
def sI (C : Int → Int → Prop) (g : Int → Int → DV) : S2 := fun x y μ R => ∃ i j, x = .int i ∧ y = .int j ∧ C i j ∧ R (g i j) μ
def sI0 (g : Int → Int → DV) : S2 := fun x y μ R => ∃ i j, x = .int i ∧ y = .int j ∧ R (g i j) μ
theorem rI_S {C : Int → Int → Prop} {g : Int → Int → V} {g' : Int → Int → DV} (hg : ∀ w i j, Has w (g i j) (g' i j)) : R2S X (rI C g) (sI C g') := fun α μ H σ ρ x y da db R Q E hx hy h q => by
  obtain ⟨i, j, rfl, rfl, c, hR⟩ := h
  cases hx
  cases hy
  exact ⟨i, j, rfl, rfl, c, q.sc E hR (hg _ _ _)⟩
theorem rI0_S {g : Int → Int → V} {g' : Int → Int → DV} (hg : ∀ w i j, Has w (g i j) (g' i j)) : R2S X (rI0 g) (sI0 g') := fun α μ H σ ρ x y da db R Q E hx hy h q => by
  obtain ⟨i, j, rfl, rfl, hR⟩ := h
  cases hx
  cases hy
  exact ⟨i, j, rfl, rfl, q.sc E hR (hg _ _ _)⟩
def sAdd : S2 := fun x y μ R => ∃ i j, x = .int i ∧ y = .int j ∧ R (.int (i + j)) μ
def sSub : S2 := fun x y μ R => ∃ i j, x = .int i ∧ y = .int j ∧ R (.int (i - j)) μ
def sMul : S2 := fun x y μ R => ∃ i j, x = .int i ∧ y = .int j ∧ CMulW i j ∧ R (.int (i * j)) μ
def sMod : S2 := fun x y μ R => ∃ i j, x = .int i ∧ y = .int j ∧ j ≠ 0 ∧ R (.int (i.fmod j)) μ
def sDiv : S2 := fun x y μ R => ∃ i j, x = .int i ∧ y = .int j ∧ CDivW i j ∧ R (.int (i / j)) μ
def sPow : S2 := fun x y μ R => ∃ i j, x = .int i ∧ y = .int j ∧ CPow i j ∧ R (.int (i ^ j.toNat)) μ
def sLt : S2 := fun x y μ R => ∃ i j, x = .int i ∧ y = .int j ∧ R (.bl (decide (i < j))) μ
def sLe : S2 := fun x y μ R => ∃ i j, x = .int i ∧ y = .int j ∧ R (.bl (decide (i ≤ j))) μ
def sGt : S2 := fun x y μ R => ∃ i j, x = .int i ∧ y = .int j ∧ R (.bl (decide (j < i))) μ
def sGe : S2 := fun x y μ R => ∃ i j, x = .int i ∧ y = .int j ∧ R (.bl (decide (j ≤ i))) μ
theorem Ev.sub {R : Cn} (h : Ev X a ρ μ fun da μ1 => Ev X b ρ μ1 fun db μ2 => sSub da db μ2 R) : Ev X (.BinOp a .Sub b pos) ρ μ R := .op op_sub (rI0_S fun _ _ _ => .int) h
theorem Ev.addI {R : Cn} (h : Ev X a ρ μ fun da μ1 => Ev X b ρ μ1 fun db μ2 => sAdd da db μ2 R) : Ev X (.BinOp a .Add b pos) ρ μ R := .op op_add (rI0_S fun _ _ _ => .int) h
theorem Ev.mul {R : Cn} (h : Ev X a ρ μ fun da μ1 => Ev X b ρ μ1 fun db μ2 => sMul da db μ2 R) : Ev X (.BinOp a .Mult b pos) ρ μ R := .op op_mulW (rI_S fun _ _ _ => .int) h
theorem Ev.mod {R : Cn} (h : Ev X a ρ μ fun da μ1 => Ev X b ρ μ1 fun db μ2 => sMod da db μ2 R) : Ev X (.BinOp a .Mod b pos) ρ μ R := .op op_modN (rI_S fun _ _ _ => .int) h
theorem Ev.fdiv {R : Cn} (h : Ev X a ρ μ fun da μ1 => Ev X b ρ μ1 fun db μ2 => sDiv da db μ2 R) : Ev X (.BinOp a .FloorDiv b pos) ρ μ R := .op op_fdivW (rI_S fun _ _ _ => .int) h
theorem Ev.pow {R : Cn} (h : Ev X a ρ μ fun da μ1 => Ev X b ρ μ1 fun db μ2 => sPow da db μ2 R) : Ev X (.BinOp a .Pow b pos) ρ μ R := .op op_pow (rI_S fun _ _ _ => .int) h
theorem Ev.lt {R : Cn} (h : Ev X a ρ μ fun da μ1 => Ev X b ρ μ1 fun db μ2 => sLt da db μ2 R) : Ev X (.Compare a [.Lt] [b] pos) ρ μ R := .cmp op_lt (rI0_S fun _ _ _ => .bl) (nomark _) h
theorem Ev.le {R : Cn} (h : Ev X a ρ μ fun da μ1 => Ev X b ρ μ1 fun db μ2 => sLe da db μ2 R) : Ev X (.Compare a [.LtE] [b] pos) ρ μ R := .cmp op_le (rI0_S fun _ _ _ => .bl) (nomark _) h
theorem Ev.gt {R : Cn} (h : Ev X a ρ μ fun da μ1 => Ev X b ρ μ1 fun db μ2 => sGt da db μ2 R) : Ev X (.Compare a [.Gt] [b] pos) ρ μ R := .cmp op_gt (rI0_S fun _ _ _ => .bl) (nomark _) h
theorem Ev.ge {R : Cn} (h : Ev X a ρ μ fun da μ1 => Ev X b ρ μ1 fun db μ2 => sGe da db μ2 R) : Ev X (.Compare a [.GtE] [b] pos) ρ μ R := .cmp op_ge (rI0_S fun _ _ _ => .bl) (nomark _) h
/-- == of flat things -/
def DV.flat : DV → Option V
  | .non => some .non
  | .bl b => some (.bl b)
  | .int i => some (.int i)
  | .str x => some (.str x)
  | _ => none
theorem flat_has {w : Wd} {v z : V} {d : DV} (h : Has w v d) (e : DV.flat d = some z) : v = z := by
  cases h <;> (first | (cases e; rfl) | (cases e))
def sEq : S2 := fun x y μ R => ∃ u v, DV.flat x = some u ∧ DV.flat y = some v ∧ scal u v = true ∧ R (.bl (decide (u = v))) μ
def sNe : S2 := fun x y μ R => ∃ u v, DV.flat x = some u ∧ DV.flat y = some v ∧ scal u v = true ∧ R (.bl (!decide (u = v))) μ
theorem rEq_S : R2S X rEq sEq := fun α μ H σ ρ x y da db R Q E hx hy h q => by
  obtain ⟨u, v, e1, e2, c, hR⟩ := h
  cases flat_has hx e1
  cases flat_has hy e2
  exact ⟨c, q.sc E hR .bl⟩
theorem rNe_S : R2S X rNe sNe := fun α μ H σ ρ x y da db R Q E hx hy h q => by
  obtain ⟨u, v, e1, e2, c, hR⟩ := h
  cases flat_has hx e1
  cases flat_has hy e2
  exact ⟨c, q.sc E hR .bl⟩
theorem Ev.eq {R : Cn} (h : Ev X a ρ μ fun da μ1 => Ev X b ρ μ1 fun db μ2 => sEq da db μ2 R) : Ev X (.Compare a [.Eq] [b] pos) ρ μ R := .cmp op_eq rEq_S (nomark _) h
theorem Ev.ne {R : Cn} (h : Ev X a ρ μ fun da μ1 => Ev X b ρ μ1 fun db μ2 => sNe da db μ2 R) : Ev X (.Compare a [.NotEq] [b] pos) ρ μ R := .cmp op_ne rNe_S (nomark _) h
end
end
end Eg

namespace Eg
open PySem PySem.Spec L2
theorem HasL.length {w : Wd} : ∀ {vs : List V} {ds : List DV}, HasL w vs ds → vs.length = ds.length
  | _, _, .nil => rfl
  | _, _, .cons _ t => by rw [List.length_cons, List.length_cons, HasL.length t]
theorem HasL.get {w : Wd} : ∀ {vs : List V} {ds : List DV} {i : Nat} {d : DV}, HasL w vs ds → ds[i]? = some d → ∃ v, vs[i]? = some v ∧ Has w v d
  | _, _, i, d, .nil, e => by simp at e
  | _, _, 0, d, .cons h _, e => by simp at e; subst e; exact ⟨_, rfl, h⟩
  | _, _, i + 1, d, .cons _ t, e => by
    obtain ⟨v, h1, h2⟩ := HasL.get (i := i) t (by simpa using e)
    exact ⟨v, by simpa using h1, h2⟩
theorem HasL.gett {w : Wd} : ∀ {vs : List V} {ds : List DV} {i : Nat} {v : V}, HasL w vs ds → vs[i]? = some v → ∃ d, ds[i]? = some d ∧ Has w v d
  | _, _, i, d, .nil, e => by simp at e
  | _, _, 0, d, .cons h _, e => by simp at e; subst e; exact ⟨_, rfl, h⟩
  | _, _, i + 1, d, .cons _ t, e => by
    obtain ⟨v, h1, h2⟩ := HasL.gett (i := i) t (by simpa using e)
    exact ⟨v, by simpa using h1, h2⟩
theorem HasL.app {w : Wd} : ∀ {vs us : List V} {ds es : List DV}, HasL w vs ds → HasL w us es → HasL w (vs ++ us) (ds ++ es)
  | _, _, _, _, .nil, s => s
  | _, _, _, _, .cons h t, s => .cons h (HasL.app t s)
theorem HasL.take {w : Wd} : ∀ {vs : List V} {ds : List DV} (n : Nat), HasL w vs ds → HasL w (vs.take n) (ds.take n)
  | _, _, 0, _ => .nil
  | _, _, _ + 1, .nil => .nil
  | _, _, n + 1, .cons h t => .cons h (HasL.take n t)
theorem HasL.drop {w : Wd} : ∀ {vs : List V} {ds : List DV} (n : Nat), HasL w vs ds → HasL w (vs.drop n) (ds.drop n)
  | _, _, 0, r => r
  | _, _, _ + 1, .nil => .nil
  | _, _, n + 1, .cons _ t => HasL.drop n t
theorem HasL.set {w : Wd} {v : V} {d : DV} (h : Has w v d) : ∀ {vs : List V} {ds : List DV} (i : Nat), HasL w vs ds → HasL w (vs.set i v) (ds.set i d)
  | _, _, _, .nil => .nil
  | _, _, 0, .cons _ t => .cons h t
  | _, _, i + 1, .cons q t => .cons q (HasL.set h i t)
/-- the items of what is read as a list or a tuple -/
def itemsD (μ : List MO) : DV → Option (List DV)
  | .tup ds => some ds
  | .lst ds => some ds
  | .mu k => match μ[k]? with
    | some (.lst ds) => some ds
    | _ => none
  | _ => none
section
variable {X : Cx} {e a b c : Expr} {es : List Expr} {ρ : RO} {μ : List MO} {pos : Pos}
/-- what is read as a list or tuple -/
theorem seq_of {w : Wd} {v : V} {d : DV} {ds : List DV} (l : Live w) (h : Has w v d) (e : itemsD w.μ d = some ds) : ∃ p vs, v = .ref p ∧ HasL w vs ds ∧ (SqL w.K w.H p vs ∨ SqT w.K w.H p vs) := by
  cases h with
  | tup h1 t => cases e; exact ⟨_, _, rfl, t, .inr h1⟩
  | lst r t =>
    cases e
    rcases r with ⟨_, r⟩ | r
    · exact ⟨_, _, rfl, t, .inl (.inl r)⟩
    · exact ⟨_, _, rfl, t, .inl r.sq⟩
  | @mu k a h1 =>
    have e' : (match w.μ[k]? with | some (.lst ds) => some ds | _ => none) = some ds := e
    split at e'
    · rename_i ds' hk
      cases e'
      obtain ⟨vs, q1, q2⟩ := l.ob k a _ h1 hk
      exact ⟨a, vs, rfl, q2, .inl (.of q1)⟩
    · cases e'
  | _ => cases e
def sIx : S2 := fun x y μ R => (∃ ds i d, itemsD μ x = some ds ∧ y = .int i ∧ atI ds i = some d ∧ R d μ) ∨ ∃ z i c, x = .str z ∧ y = .int i ∧ z.length ≤ sizeLine ∧ atI z.cps.toList i = some c ∧ R (.str ⟨#[c]⟩) μ
theorem at_has {w : Wd} {vs : List V} {ds : List DV} {i : Int} {d : DV} (h : HasL w vs ds) (e : atI ds i = some d) : ∃ v, atI vs i = some v ∧ Has w v d := by
  unfold atI at e ⊢
  rw [h.length]
  cases q : ixN ds.length i with
  | none => rw [q] at e; cases e
  | some j =>
    rw [q] at e
    exact h.get e
theorem rIx_S : R2S X (rIx X.K) sIx := fun α μ H σ ρ x y da db R Q E hx hy h q => by
  rcases h with ⟨ds, i, d, h1, rfl, h2, hR⟩ | ⟨z, i, c, rfl, rfl, h1, h2, hR⟩
  · obtain ⟨p, vs, rfl, hl, s⟩ := seq_of E.live hx h1
    cases hy
    obtain ⟨v, e1, e2⟩ := at_has hl h2
    rcases s with s | s
    · exact .inl ⟨p, vs, i, v, rfl, rfl, s, e1, q.sc E hR e2⟩
    · exact .inr (.inl ⟨p, vs, i, v, rfl, rfl, s, e1, q.sc E hR e2⟩)
  · cases hx
    cases hy
    exact .inr (.inr ⟨z, i, c, rfl, rfl, h1, h2, q.sc E hR .str⟩)
theorem Ev.at {R : Cn} (h : Ev X a ρ μ fun da μ1 => Ev X b ρ μ1 fun db μ2 => sIx da db μ2 R) (hs : PlainIx b := by intro _ _; rfl) : Ev X (.Subscript a b pos) ρ μ R := .ix ix_seq rIx_S hs h
/-! ### arguments -/
theorem EvA.nil {R : Ca} (h : R [] μ) : EvA X [] ρ μ R := PAw pa_nil fun σ H Q ⟨α, E, q⟩ => q [] [] α μ H h E E.live.refl .nil
theorem EvA.cons {R : Ca} (h : Ev X e ρ μ fun d μ1 => EvA X es ρ μ1 fun ds μ2 => R (d :: ds) μ2) (hs : starEach (e :: es) X.env = (false, eval e X.env) :: starEach es X.env := by rfl) : EvA X (e :: es) ρ μ R :=
  PAw (pa_cons pe_a pa_a hs) fun σ H Q ⟨α, E, q⟩ => ⟨_, h, α, E, fun v d α1 μ1 H1 h1 E1 X1 hv => ⟨_, h1, α1, E1, fun vs ds α2 μ2 H2 h2 E2 X2 hvs => q _ _ α2 μ2 H2 h2 E2 (X1.trans X2) (.cons (X2.has hv) hvs)⟩⟩
/-! ### displays -/
theorem Ev.tup {R : Cn} {x1} (h : EvA X es ρ μ fun ds μ1 => ds.length ≤ sizeLine ∧ R (.tup ds) μ1) : Ev X (.Tuple es x1 pos) ρ μ R :=
  PEw (pe_tup pa_a) fun σ H Q ⟨α, E, q⟩ => ⟨_, h, α, E, fun vs ds α1 μ1 H1 ⟨h0, h1⟩ E1 X1 hv => ⟨by rw [hv.length]; exact h0, fun p np => by
    obtain ⟨k, l⟩ := E1.live.lay (o := .tup vs) np
    exact q _ _ α1 μ1 _ h1 (E1.ext k l) (X1.trans k) (.tup (.of upd_same) (k.hasL hv))⟩⟩
theorem Ev.lst {R : Cn} (h : EvA X es ρ μ fun ds μ1 => ds.length ≤ sizeLine ∧ R (.lst ds) μ1) : Ev X (.List es pos) ρ μ R :=
  PEw (pe_lst pa_a) fun σ H Q ⟨α, E, q⟩ => ⟨_, h, α, E, fun vs ds α1 μ1 H1 ⟨h0, h1⟩ E1 X1 hv => ⟨by rw [hv.length]; exact h0, fun p np => by
    obtain ⟨k, l⟩ := E1.live.lay (o := .lst vs) np
    exact q _ _ α1 μ1 _ h1 (E1.ext k l) (X1.trans k) (.lst (.inl ⟨E1.live.fresh np, .inl upd_same⟩) (k.hasL hv))⟩⟩
theorem Ev.lstM {R : Cn} (h : EvA X es ρ μ fun ds μ1 => ds.length ≤ sizeLine ∧ R (.mu μ1.length) (μ1 ++ [.lst ds])) : Ev X (.List es pos) ρ μ R :=
  PEw (pe_lst pa_a) fun σ H Q ⟨α, E, q⟩ => ⟨_, h, α, E, fun vs ds α1 μ1 H1 ⟨h0, h1⟩ E1 X1 hv => ⟨by rw [hv.length]; exact h0, fun p np => by
    obtain ⟨k, l, e⟩ := E1.live.layM (o := .lst vs) (m := .lst ds) np (fun _ k => ⟨vs, upd_same, k.hasL hv⟩)
    exact q _ _ _ _ _ h1 (E1.ext k l) (X1.trans k) (.mu e)⟩⟩
theorem Ev.dic0 {R : Cn} (h : R (.dic []) μ) : Ev X (.Dict [] [] pos) ρ μ R :=
  PEw pe_dnewK fun σ H Q ⟨α, E, q⟩ => fun p np => by
    obtain ⟨k, l⟩ := E.live.lay (o := .dK []) np
    exact q _ _ α μ _ h (E.ext k l) k (.dic (E.live.fresh np) upd_same .nil)
theorem Ev.dic0M {R : Cn} (h : R (.mu μ.length) (μ ++ [.dic []])) : Ev X (.Dict [] [] pos) ρ μ R :=
  PEw pe_dnewK fun σ H Q ⟨α, E, q⟩ => fun p np => by
    obtain ⟨k, l, e⟩ := E.live.layM (o := .dK []) (m := .dic []) np (fun _ k => ⟨[], upd_same, .nil⟩)
    exact q _ _ _ _ _ h (E.ext k l) k (.mu e)
/-! ### calls of built-ins by values -/
abbrev SA := List DV → List MO → Cn → Prop
def RaS (X : Cx) (r : List V → Hp → VK → Prop) (S : SA) : Prop := ∀ (α : List Addr) (μ : List MO) (H : Hp) (σ : L2.St) (ρ : RO) (vs : List V) (ds : List DV) (R : Cn) (Q : VK), En ⟨X.K, α, μ, H⟩ σ ρ → HasL ⟨X.K, α, μ, H⟩ vs ds → S ds μ R → Stp X ρ ⟨X.K, α, μ, H⟩ σ R Q → r vs H Q
theorem tCB_S {r : List V → Hp → VK → Prop} {S : SA} {R : Cn} (k : RaS X r S) (h : EvA X es ρ μ fun ds μ1 => S ds μ1 R) (σ : L2.St) (H : Hp) (Q : VK) (q : tEv X ρ μ R σ H Q) : tCB r (aA X es) σ H Q := by
  obtain ⟨α, E, q⟩ := q
  exact ⟨_, h, α, E, fun vs ds α1 μ1 H1 h1 E1 X1 hv => k α1 μ1 H1 σ ρ vs ds R Q E1 hv h1 fun v d α' μ' H' r' E' X' hv => q v d α' μ' H' r' E' (X1.trans X') hv⟩
theorem Ev.callB {R : Cn} {x : Str} {p : Pos} {id : String} {r : List V → Hp → VK → Prop} {S : SA} (hc : CallR X (.builtin id) r) (k : RaS X r S) (hg : Gl X x) (hm : X.mg x = none) (hv : bootBuiltins x = some (.builtin id)) (h : EvA X (e :: es) ρ μ fun ds μ1 => S ds μ1 R) (hn : x ≠ "__name__" := by decide) (hdb : (x == ("__debug__" : Str)) = false := by decide)
    (he : starEach (e :: es) X.env = (false, eval e X.env) :: starEach es X.env := by rfl) (hpl : (backTo pos (starEach es X.env)).any (·.1) = false := by rfl) : Ev X (.Call (.Name x p) (e :: es) [] pos) ρ μ R := PEw (pe_callB hc hg hm hv pa_a hn hdb he hpl) (tCB_S k h)
theorem Ev.callTy {R : Cn} {x : Str} {p : Pos} {T : String} {r : List V → Hp → VK → Prop} {S : SA} (hc : CallR X (.type T) r) (k : RaS X r S) (hg : Gl X x) (hm : X.mg x = none) (hv : bootBuiltins x = some (.type T)) (h : EvA X (e :: es) ρ μ fun ds μ1 => S ds μ1 R) (hn : x ≠ "__name__" := by decide) (hdb : (x == ("__debug__" : Str)) = false := by decide)
    (he : starEach (e :: es) X.env = (false, eval e X.env) :: starEach es X.env := by rfl) (hpl : (backTo pos (starEach es X.env)).any (·.1) = false := by rfl) : Ev X (.Call (.Name x p) (e :: es) [] pos) ρ μ R := PEw (pe_callTy hc hg hm hv pa_a hn hdb he hpl) (tCB_S k h)
def lenD (μ : List MO) (d : DV) : Option Nat := match d with
  | .str y => if y.length ≤ sizeLine then some y.length else none
  | d => (itemsD μ d).map List.length
theorem hasL1 {w : Wd} {vs : List V} {d : DV} (h : HasL w vs [d]) : ∃ v, vs = [v] ∧ Has w v d := by
  cases h with
  | cons h t => cases t; exact ⟨_, rfl, h⟩
theorem hasL2 {w : Wd} {vs : List V} {d e : DV} (h : HasL w vs [d, e]) : ∃ v u, vs = [v, u] ∧ Has w v d ∧ Has w u e := by
  cases h with
  | cons h t =>
    obtain ⟨u, rfl, h2⟩ := hasL1 t
    exact ⟨_, u, rfl, h, h2⟩
def sLen : SA := fun ds μ R => ∃ d n, ds = [d] ∧ lenD μ d = some n ∧ R (.int n) μ
theorem len_S : RaS X (fun xs H Q => ∃ x n, xs = [x] ∧ LenV X.K x H n ∧ Q (.int n) H) sLen := fun α μ H σ ρ vs ds R Q E hv h q => by
  obtain ⟨d, n, rfl, e, hR⟩ := h
  obtain ⟨v, rfl, hw⟩ := hasL1 hv
  clear hv
  have hv := hw
  refine ⟨v, n, rfl, ?_, q.sc E hR .int⟩
  have gen : (itemsD μ d).map List.length = some n → LenV X.K v H n := fun e => by
    obtain ⟨ds, e1, e2⟩ := Option.map_eq_some_iff.mp e
    obtain ⟨p, vs, rfl, hl, s⟩ := seq_of E.live hv e1
    rcases s with s | s
    · exact .inl ⟨vs, s, by rw [hl.length, e2]⟩
    · exact .inr ⟨vs, s, by rw [hl.length, e2]⟩
  cases d with
  | str y =>
    cases hv
    unfold lenD at e
    dsimp only at e
    split at e
    · rename_i hz
      show y.length ≤ sizeLine ∧ n = y.length
      exact ⟨hz, (Option.some.inj e).symm⟩
    · cases e
  | _ => exact gen e
theorem Ev.len {R : Cn} {p : Pos} (hg : Gl X "len") (hm : X.mg "len" = none) (h : EvA X [e] ρ μ fun ds μ1 => sLen ds μ1 R) (he : starEach [e] X.env = (false, eval e X.env) :: starEach [] X.env := by rfl) :
    Ev X (.Call (.Name "len" p) [e] [] pos) ρ μ R := .callB call_len len_S hg hm boot_len h (by decide) (by decide) he rfl
def sInt : SA := fun ds μ R => (∃ i, ds = [.int i] ∧ R (.int i) μ) ∨ ∃ k, ds = [.bl k] ∧ R (.int (if k then 1 else 0)) μ
theorem int_S : RaS X (fun xs H Q => (∃ i, xs = [.int i] ∧ Q (.int i) H) ∨ ∃ k, xs = [.bl k] ∧ Q (.int (if k then 1 else 0)) H) sInt := fun α μ H σ ρ vs ds R Q E hv h q => by
  rcases h with ⟨i, rfl, hR⟩ | ⟨i, rfl, hR⟩
  · obtain ⟨v, rfl, hw⟩ := hasL1 hv
    clear hv
    have hv := hw
    cases hv
    exact .inl ⟨i, rfl, q.sc E hR .int⟩
  · obtain ⟨v, rfl, hw⟩ := hasL1 hv
    clear hv
    have hv := hw
    cases hv
    exact .inr ⟨i, rfl, q.sc E hR .int⟩
theorem Ev.toInt {R : Cn} {p : Pos} (hg : Gl X "int") (hm : X.mg "int" = none) (h : EvA X [e] ρ μ fun ds μ1 => sInt ds μ1 R) (he : starEach [e] X.env = (false, eval e X.env) :: starEach [] X.env := by rfl) :
    Ev X (.Call (.Name "int" p) [e] [] pos) ρ μ R := .callTy call_int1 int_S hg hm PyProof.Rows.boot_int h (by decide) (by decide) he rfl
def sAbs : SA := fun ds μ R => ∃ i, ds = [.int i] ∧ R (.int (if i < 0 then -i else i)) μ
theorem abs_S : RaS X (fun xs H Q => ∃ i, xs = [.int i] ∧ Q (.int (if i < 0 then -i else i)) H) sAbs := fun α μ H σ ρ vs ds R Q E hv h q => by
  obtain ⟨i, rfl, hR⟩ := h
  obtain ⟨v, rfl, hw⟩ := hasL1 hv
  clear hv
  have hv := hw
  cases hv
  exact ⟨i, rfl, q.sc E hR .int⟩
theorem Ev.abs {R : Cn} {p : Pos} (hg : Gl X "abs") (hm : X.mg "abs" = none) (h : EvA X [e] ρ μ fun ds μ1 => sAbs ds μ1 R) (he : starEach [e] X.env = (false, eval e X.env) :: starEach [] X.env := by rfl) :
    Ev X (.Call (.Name "abs" p) [e] [] pos) ρ μ R := .callB call_abs abs_S hg hm PyProof.Rows.boot_abs h (by decide) (by decide) he rfl
def sMM (g : Int → Int → Int) : SA := fun ds μ R => ∃ i j, ds = [.int i, .int j] ∧ R (.int (g i j)) μ
theorem mm_S {g : Int → Int → Int} : RaS X (fun xs H Q => ∃ i j, xs = [.int i, .int j] ∧ Q (.int (g i j)) H) (sMM g) := fun α μ H σ ρ vs ds R Q E hv h q => by
  obtain ⟨i, j, rfl, hR⟩ := h
  obtain ⟨v, u, rfl, hw, hu⟩ := hasL2 hv
  clear hv
  have hv := hw
  cases hv
  cases hu
  exact ⟨i, j, rfl, q.sc E hR .int⟩
theorem Ev.max2 {R : Cn} {p : Pos} (hc : X.calm = true) (hg : Gl X "max") (hm : X.mg "max" = none) (h : EvA X [a, b] ρ μ fun ds μ1 => sMM (fun i j => if j > i then j else i) ds μ1 R) (he : starEach [a, b] X.env = (false, eval a X.env) :: starEach [b] X.env := by rfl) (hpl : (backTo pos (starEach [b] X.env)).any (·.1) = false := by rfl) :
    Ev X (.Call (.Name "max" p) [a, b] [] pos) ρ μ R := .callB (call_max2 hc) mm_S hg hm PyProof.Rows.boot_max h (by decide) (by decide) he hpl
theorem Ev.min2 {R : Cn} {p : Pos} (hc : X.calm = true) (hg : Gl X "min") (hm : X.mg "min" = none) (h : EvA X [a, b] ρ μ fun ds μ1 => sMM (fun i j => if j < i then j else i) ds μ1 R) (he : starEach [a, b] X.env = (false, eval a X.env) :: starEach [b] X.env := by rfl) (hpl : (backTo pos (starEach [b] X.env)).any (·.1) = false := by rfl) :
    Ev X (.Call (.Name "min" p) [a, b] [] pos) ρ μ R := .callB (call_min2 hc) mm_S hg hm PyProof.Rows.boot_min h (by decide) (by decide) he hpl
def sDivmod : SA := fun ds μ R => ∃ i j, ds = [.int i, .int j] ∧ CDiv i j ∧ R (.tup [.int (i / j), .int (i % j)]) μ
theorem divmod_S : RaS X (fun xs H Q => ∃ i j, xs = [.int i, .int j] ∧ CDiv i j ∧ ∀ p, H p = none → Q (.ref p) (upd H p (.tup [.int (i / j), .int (i % j)]))) sDivmod := fun α μ H σ ρ vs ds R Q E hv h q => by
  obtain ⟨i, j, rfl, c, hR⟩ := h
  obtain ⟨v, u, rfl, hw, hu⟩ := hasL2 hv
  clear hv
  have hv := hw
  cases hv
  cases hu
  refine ⟨i, j, rfl, c, fun p np => ?_⟩
  obtain ⟨k, l⟩ := E.live.lay (o := .tup [.int (i / j), .int (i % j)]) np
  exact q _ _ α μ _ hR (E.ext k l) k (.tup (.of upd_same) (.cons .int (.cons .int .nil)))
theorem Ev.divmod {R : Cn} {p : Pos} (hg : Gl X "divmod") (hm : X.mg "divmod" = none) (h : EvA X [a, b] ρ μ fun ds μ1 => sDivmod ds μ1 R) (he : starEach [a, b] X.env = (false, eval a X.env) :: starEach [b] X.env := by rfl) (hpl : (backTo pos (starEach [b] X.env)).any (·.1) = false := by rfl) :
    Ev X (.Call (.Name "divmod" p) [a, b] [] pos) ρ μ R := .callB call_divmod divmod_S hg hm PyProof.Rows.boot_divmod h (by decide) (by decide) he hpl
/-- tuple(xs) -/
def sTuple : SA := fun ds μ R => ∃ d xs, ds = [d] ∧ itemsD μ d = some xs ∧ R (.tup xs) μ
theorem tuple_S : RaS X (fun xs H Q => ∃ p ys, xs = [.ref p] ∧ ((SqL X.K H p ys ∧ ∀ l, H l = none → Q (.ref l) (upd H l (.tup ys))) ∨ (SqT X.K H p ys ∧ Q (.ref p) H))) sTuple := fun α μ H σ ρ vs ds R Q E hv h q => by
  obtain ⟨d, xs, rfl, e, hR⟩ := h
  obtain ⟨v, rfl, hw⟩ := hasL1 hv
  clear hv
  have hv := hw
  obtain ⟨p, vs, rfl, hl, s⟩ := seq_of E.live hv e
  refine ⟨p, vs, rfl, ?_⟩
  rcases s with s | s
  · refine .inl ⟨s, fun l nl => ?_⟩
    obtain ⟨k, l⟩ := E.live.lay (o := .tup vs) nl
    exact q _ _ α μ _ hR (E.ext k l) k (.tup (.of upd_same) (k.hasL hl))
  · exact .inr ⟨s, q.sc E hR (.tup s hl)⟩
theorem Ev.tuple {R : Cn} {p : Pos} (hg : Gl X "tuple") (hm : X.mg "tuple" = none) (h : EvA X [e] ρ μ fun ds μ1 => sTuple ds μ1 R) (he : starEach [e] X.env = (false, eval e X.env) :: starEach [] X.env := by rfl) :
    Ev X (.Call (.Name "tuple" p) [e] [] pos) ρ μ R := .callTy call_tuple_of tuple_S hg hm PyProof.Rows.boot_tuple h (by decide) (by decide) he rfl
/-- all of a list of truths -/
def blD : DV → Option Bool
  | .bl b => some b
  | _ => none
theorem bls_has {w : Wd} : ∀ {vs : List V} {bs : List Bool}, HasL w vs (bs.map DV.bl) → vs = bs.map V.bl
  | _, [], .nil => rfl
  | _, b :: bs, .cons h t => by
    cases h
    rw [List.map_cons, bls_has t]
def sAll : SA := fun ds μ R => ∃ d bs, ds = [d] ∧ itemsD μ d = some (List.map DV.bl bs) ∧ (∀ xs, d ≠ .tup xs) ∧ R (.bl (bs.all id)) μ
theorem all_S : RaS X (rAll X.K) sAll := fun α μ H σ ρ vs ds R Q E hv h q => by
  obtain ⟨d, bs, rfl, e, nt, hR⟩ := h
  obtain ⟨v, rfl, hw⟩ := hasL1 hv
  clear hv
  have hv := hw
  have : ∃ p vs, v = .ref p ∧ HasL ⟨X.K, α, μ, H⟩ vs (bs.map DV.bl) ∧ SqL X.K H p vs := by
    cases hv with
    | tup h1 t => exact absurd rfl (nt _)
    | lst r t =>
      cases e
      rcases r with ⟨_, r⟩ | r
      · exact ⟨_, _, rfl, t, .inl r⟩
      · exact ⟨_, _, rfl, t, r.sq⟩
    | @mu k a h1 =>
      have e' : (match μ[k]? with | some (.lst ds) => some ds | _ => none) = some (List.map DV.bl bs) := e
      split at e'
      · rename_i ds' hk
        cases e'
        obtain ⟨vs, q1, q2⟩ := E.live.ob k a _ h1 hk
        exact ⟨a, vs, rfl, q2, .of q1⟩
      · cases e'
    | _ => cases e
  obtain ⟨p, vs, rfl, hl, s⟩ := this
  have ev := bls_has hl
  subst ev
  exact ⟨p, bs, rfl, s, q.sc E hR .bl⟩
theorem Ev.all {R : Cn} {p : Pos} (hc : X.calm = true) (hg : Gl X "all") (hm : X.mg "all" = none) (h : EvA X [e] ρ μ fun ds μ1 => sAll ds μ1 R) (he : starEach [e] X.env = (false, eval e X.env) :: starEach [] X.env := by rfl) :
    Ev X (.Call (.Name "all" p) [e] [] pos) ρ μ R := .callB (cr_all hc) all_S hg hm PyProof.Rows.boot_all h (by decide) (by decide) he rfl
/-! ### tests -/
theorem EvT.val {R : Ct} (h : Ev X e ρ μ fun d μ1 => ∃ k, d = .bl k ∧ R k μ1) (he : ∀ whole, isTrue e X.env whole = (do let v ← whole; standAt e.pos; holding [v] (truthy v)) := by intro _; rfl) : EvT X e ρ μ R :=
  PTw (pt_val pe_a he) fun σ H Q ⟨α, E, q⟩ => ⟨_, h, α, E, fun v d α1 μ1 H1 ⟨k, e, h1⟩ E1 X1 hv => by
    subst e
    cases hv
    exact ⟨k, rfl, q k α1 μ1 H1 h1 E1 X1⟩⟩
theorem EvT.not {R : Ct} (h : EvT X a ρ μ fun b μ1 => R (!b) μ1) : EvT X (.UnaryOp .Not a pos) ρ μ R :=
  PTw (pt_not pt_a) fun σ H Q ⟨α, E, q⟩ => ⟨_, h, α, E, fun b α1 μ1 H1 h1 E1 X1 => q _ α1 μ1 H1 h1 E1 X1⟩
theorem EvT.w {R : Ct} (h : EvW X e ρ μ R) : EvT X e ρ μ R := PW.pt h
theorem EvW.and1 {R : Ct} (h : EvT X a ρ μ R) : EvW X (.BoolOp .And [a] pos) ρ μ R := pw_and1 h
theorem EvW.or1 {R : Ct} (h : EvT X a ρ μ R) : EvW X (.BoolOp .Or [a] pos) ρ μ R := pw_or1 h
theorem EvW.and {rest : List Expr} {R : Ct} (h : EvT X a ρ μ fun k μ1 => if k = true then EvW X (.BoolOp .And (b :: rest) pos) ρ μ1 R else R false μ1) : EvW X (.BoolOp .And (a :: b :: rest) pos) ρ μ R :=
  PWw (pw_and pt_a pw_a) fun σ H Q ⟨α, E, q⟩ => ⟨_, h, α, E, fun k α1 μ1 H1 h1 E1 X1 => by
    cases k with
    | true => exact iteT ⟨_, show EvW X (.BoolOp .And (b :: rest) pos) ρ μ1 R from h1, α1, E1, fun k2 α2 μ2 H2 h2 E2 X2 => q k2 α2 μ2 H2 h2 E2 (X1.trans X2)⟩
    | false => exact iteF (q false α1 μ1 H1 h1 E1 X1)⟩
theorem EvW.or {rest : List Expr} {R : Ct} (h : EvT X a ρ μ fun k μ1 => if k = true then R true μ1 else EvW X (.BoolOp .Or (b :: rest) pos) ρ μ1 R) : EvW X (.BoolOp .Or (a :: b :: rest) pos) ρ μ R :=
  PWw (pw_or pt_a pw_a) fun σ H Q ⟨α, E, q⟩ => ⟨_, h, α, E, fun k α1 μ1 H1 h1 E1 X1 => by
    cases k with
    | true => exact iteT (q true α1 μ1 H1 h1 E1 X1)
    | false => exact iteF ⟨_, show EvW X (.BoolOp .Or (b :: rest) pos) ρ μ1 R from h1, α1, E1, fun k2 α2 μ2 H2 h2 E2 X2 => q k2 α2 μ2 H2 h2 E2 (X1.trans X2)⟩⟩
theorem Ev.ifE {R : Cn} (h : EvT X c ρ μ fun k μ1 => if k = true then Ev X a ρ μ1 R else Ev X b ρ μ1 R) : Ev X (.IfExp c a b pos) ρ μ R :=
  PEw (pe_ifExp pt_a pe_a pe_a) fun σ H Q ⟨α, E, q⟩ => ⟨_, h, α, E, fun k α1 μ1 H1 h1 E1 X1 => by
    cases k with
    | true => exact iteT ⟨_, show Ev X a ρ μ1 R from h1, α1, E1, fun v d α2 μ2 H2 h2 E2 X2 hv => q v d α2 μ2 H2 h2 E2 (X1.trans X2) hv⟩
    | false => exact iteF ⟨_, show Ev X b ρ μ1 R from h1, α1, E1, fun v d α2 μ2 H2 h2 E2 X2 hv => q v d α2 μ2 H2 h2 E2 (X1.trans X2) hv⟩⟩
/-! ### and, or, not as values -/
theorem Ev.one {R : Cn} {op} (h : Ev X a ρ μ R) : Ev X (.BoolOp op [a] pos) ρ μ R := pe_one h
theorem Ev.and {rest : List Expr} {R : Cn} (h : Ev X a ρ μ fun d μ1 => ∃ k, d = .bl k ∧ if k = true then Ev X (.BoolOp .And (b :: rest) pos) ρ μ1 R else R (.bl false) μ1) : Ev X (.BoolOp .And (a :: b :: rest) pos) ρ μ R :=
  PEw (pe_and pe_a pe_a) fun σ H Q ⟨α, E, q⟩ => ⟨_, h, α, E, fun v d α1 μ1 H1 ⟨k, e, h1⟩ E1 X1 hv => by
    subst e
    cases hv
    refine ⟨k, rfl, ?_⟩
    cases k with
    | true => exact iteT ⟨_, show Ev X (.BoolOp .And (b :: rest) pos) ρ μ1 R from h1, α1, E1, fun v d α2 μ2 H2 h2 E2 X2 hv => q v d α2 μ2 H2 h2 E2 (X1.trans X2) hv⟩
    | false => exact iteF (q _ _ α1 μ1 H1 h1 E1 X1 .bl)⟩
theorem Ev.or {rest : List Expr} {R : Cn} (h : Ev X a ρ μ fun d μ1 => ∃ k, d = .bl k ∧ if k = true then R (.bl true) μ1 else Ev X (.BoolOp .Or (b :: rest) pos) ρ μ1 R) : Ev X (.BoolOp .Or (a :: b :: rest) pos) ρ μ R :=
  PEw (pe_or pe_a pe_a) fun σ H Q ⟨α, E, q⟩ => ⟨_, h, α, E, fun v d α1 μ1 H1 ⟨k, e, h1⟩ E1 X1 hv => by
    subst e
    cases hv
    refine ⟨k, rfl, ?_⟩
    cases k with
    | true => exact iteT (q _ _ α1 μ1 H1 h1 E1 X1 .bl)
    | false => exact iteF ⟨_, show Ev X (.BoolOp .Or (b :: rest) pos) ρ μ1 R from h1, α1, E1, fun v d α2 μ2 H2 h2 E2 X2 hv => q v d α2 μ2 H2 h2 E2 (X1.trans X2) hv⟩⟩
theorem Ev.not {R : Cn} (h : Ev X a ρ μ fun d μ1 => ∃ k, d = .bl k ∧ R (.bl (!k)) μ1) : Ev X (.UnaryOp .Not a pos) ρ μ R :=
  PEw (pe_not pe_a) fun σ H Q ⟨α, E, q⟩ => ⟨_, h, α, E, fun v d α1 μ1 H1 ⟨k, e, h1⟩ E1 X1 hv => by
    subst e
    cases hv
    exact ⟨k, rfl, q _ _ α1 μ1 H1 h1 E1 X1 .bl⟩⟩
theorem Ev.neg {R : Cn} (h : Ev X a ρ μ fun d μ1 => ∃ i, d = .int i ∧ R (.int (-i)) μ1) : Ev X (.UnaryOp .USub a pos) ρ μ R :=
  PEw (pe_un un_neg pe_a) fun σ H Q ⟨α, E, q⟩ => ⟨_, h, α, E, fun v d α1 μ1 H1 ⟨k, e, h1⟩ E1 X1 hv => by
    subst e
    cases hv
    exact ⟨k, rfl, q _ _ α1 μ1 H1 h1 E1 X1 .int⟩⟩
/-- a < b < c of whole numbers -/
theorem Ev.chain {op op' : CmpOp} {r r' : R2} {S S' : S2} {R : Cn} (ho : OpR X (compareOp op) r) (k : R2S X r S) (ho' : OpR X (compareOp op') r') (k' : R2S X r' S')
    (h : Ev X a ρ μ fun da μ1 => Ev X b ρ μ1 fun db μ2 => S da db μ2 fun d μ3 => ∃ t, d = .bl t ∧ if t = true then Ev X c ρ μ3 fun dc μ4 => S' db dc μ4 R else R (.bl false) μ3) (hm : lastMarks [op, op'] [b, c] = false := by with_unfolding_all rfl) :
    Ev X (.Compare a [op, op'] [b, c] pos) ρ μ R := PEw (pe_chain ho ho' pe_a pe_a pe_a hm) fun σ H Q ⟨α, E, q⟩ =>
  ⟨_, h, α, E, fun x da α1 μ1 H1 h1 E1 X1 hx => ⟨_, h1, α1, E1, fun y db α2 μ2 H2 h2 E2 X2 hy =>
    k α2 μ2 H2 σ ρ x y da db _ _ E2 (X2.has hx) hy h2 fun v d α3 μ3 H3 ⟨t, e, h3⟩ E3 X3 hv => by
      subst e
      cases hv
      refine ⟨t, rfl, ?_⟩
      cases t with
      | true => exact iteT ⟨_, show Ev X c ρ μ3 _ from h3, α3, E3, fun z dc α4 μ4 H4 h4 E4 X4 hz => k' α4 μ4 H4 σ ρ y z db dc R Q E4 (X4.has (X3.has hy)) hz h4 fun v d α' μ' H' r' E' X' hv => q v d α' μ' H' r' E' (X1.trans (X2.trans (X3.trans (X4.trans X')))) hv⟩
      | false => exact iteF (q _ _ α3 μ3 H3 h3 E3 (X1.trans (X2.trans X3)) .bl)⟩⟩
end
end Eg

namespace Eg
open PySem PySem.Spec L2
inductive Out where
  | nx (ρ : RO) (μ : List MO) | rt (d : DV) (μ : List MO) | bk (ρ : RO) (μ : List MO) | ct (ρ : RO) (μ : List MO)
abbrev Co := Out → Prop
section
variable {X : Cx}
def tSt (X : Cx) (ρ : RO) (μ : List MO) (R : Co) : TS := fun D σ H => ∃ α, En ⟨X.K, α, μ, H⟩ σ ρ ∧
  (∀ ρ' σ' α' μ' H', R (.nx ρ' μ') → En ⟨X.K, α', μ', H'⟩ σ' ρ' → Kp ⟨X.K, α, μ, H⟩ ⟨X.K, α', μ', H'⟩ → D.nx σ' H') ∧
  (∀ v d α' μ' H', R (.rt d μ') → Live ⟨X.K, α', μ', H'⟩ → Kp ⟨X.K, α, μ, H⟩ ⟨X.K, α', μ', H'⟩ → Has ⟨X.K, α', μ', H'⟩ v d → D.rt v H') ∧
  (∀ ρ' σ' α' μ' H', R (.bk ρ' μ') → En ⟨X.K, α', μ', H'⟩ σ' ρ' → Kp ⟨X.K, α, μ, H⟩ ⟨X.K, α', μ', H'⟩ → D.bk σ' H') ∧
  (∀ ρ' σ' α' μ' H', R (.ct ρ' μ') → En ⟨X.K, α', μ', H'⟩ σ' ρ' → Kp ⟨X.K, α, μ, H⟩ ⟨X.K, α', μ', H'⟩ → D.ct σ' H')
def St (X : Cx) (s : Stmt) (ρ : RO) (μ : List MO) (R : Co) : Prop := PS X s (tSt X ρ μ R)
def Sts (X : Cx) (s : List Stmt) (ρ : RO) (μ : List MO) (R : Co) : Prop := PSs X s (tSt X ρ μ R)
def aS (X : Cx) (s : Stmt) : TS := fun D σ H => ∃ t, PS X s t ∧ t D σ H
def aSs (X : Cx) (s : List Stmt) : TS := fun D σ H => ∃ t, PSs X s t ∧ t D σ H
theorem ps_a {s : Stmt} : PS X s (aS X s) := ⟨fun pins s σ H D I ⟨_, h, q⟩ => h.run pins s σ H D I q⟩
theorem pss_a {s : List Stmt} : PSs X s (aSs X s) := ⟨fun pins s σ H D I ⟨_, h, q⟩ => h.run pins s σ H D I q⟩
theorem PSw {s : Stmt} {t t' : TS} (h : PS X s t) (k : ∀ D σ H, t' D σ H → t D σ H) : PS X s t' := ⟨fun pins s σ H D I q => h.run pins s σ H D I (k D σ H q)⟩
theorem PSsw {s : List Stmt} {t t' : TS} (h : PSs X s t) (k : ∀ D σ H, t' D σ H → t D σ H) : PSs X s t' := ⟨fun pins s σ H D I q => h.run pins s σ H D I (k D σ H q)⟩
section
variable {s : Stmt} {rest a b : List Stmt} {e c : Expr} {ρ : RO} {μ : List MO} {pos : Pos} {R : Co}
theorem St.mono {R' : Co} (h : St X s ρ μ R) (k : ∀ o, R o → R' o) : St X s ρ μ R' :=
  PSw h fun D σ H ⟨α, E, q1, q2, q3, q4⟩ => ⟨α, E, fun ρ' σ' α' μ' H' r => q1 ρ' σ' α' μ' H' (k _ r), fun v d α' μ' H' r => q2 v d α' μ' H' (k _ r), fun ρ' σ' α' μ' H' r => q3 ρ' σ' α' μ' H' (k _ r), fun ρ' σ' α' μ' H' r => q4 ρ' σ' α' μ' H' (k _ r)⟩
theorem Sts.mono {R' : Co} (h : Sts X a ρ μ R) (k : ∀ o, R o → R' o) : Sts X a ρ μ R' :=
  PSsw h fun D σ H ⟨α, E, q1, q2, q3, q4⟩ => ⟨α, E, fun ρ' σ' α' μ' H' r => q1 ρ' σ' α' μ' H' (k _ r), fun v d α' μ' H' r => q2 v d α' μ' H' (k _ r), fun ρ' σ' α' μ' H' r => q3 ρ' σ' α' μ' H' (k _ r), fun ρ' σ' α' μ' H' r => q4 ρ' σ' α' μ' H' (k _ r)⟩
theorem Sts.nil (h : R (.nx ρ μ)) : Sts X [] ρ μ R := PSsw pss_nil fun D σ H ⟨α, E, q1, _⟩ => q1 ρ σ α μ H h E E.live.refl
def seqR (X : Cx) (rest : List Stmt) (R : Co) : Co := fun o => match o with
  | .nx ρ μ => Sts X rest ρ μ R
  | o => R o
theorem Sts.cons (h : St X s ρ μ (seqR X rest R)) : Sts X (s :: rest) ρ μ R :=
  PSsw (pss_cons ps_a pss_a) fun D σ H ⟨α, E, q1, q2, q3, q4⟩ => by
    refine ⟨_, h, α, E, fun ρ' σ' α' μ' H' (r : Sts X rest ρ' μ' R) E' X' => ?_, q2, q3, q4⟩
    exact ⟨_, r, α', E', fun ρ2 σ2 α2 μ2 H2 r2 E2 X2 => q1 ρ2 σ2 α2 μ2 H2 r2 E2 (X'.trans X2), fun v d α2 μ2 H2 r2 l2 X2 => q2 v d α2 μ2 H2 r2 l2 (X'.trans X2),
      fun ρ2 σ2 α2 μ2 H2 r2 E2 X2 => q3 ρ2 σ2 α2 μ2 H2 r2 E2 (X'.trans X2), fun ρ2 σ2 α2 μ2 H2 r2 E2 X2 => q4 ρ2 σ2 α2 μ2 H2 r2 E2 (X'.trans X2)⟩
theorem Sts.one (h : St X s ρ μ R) : Sts X [s] ρ μ R := pss_one h
theorem St.expr (h : Ev X e ρ μ fun _ μ1 => R (.nx ρ μ1)) (hs : swapsWith e none pos.line X.env = pure false := by rfl) : St X (.Expr e pos) ρ μ R :=
  PSw (ps_expr pe_a hs) fun D σ H ⟨α, E, q1, q2, q3, q4⟩ => ⟨_, h, α, E, fun v d α1 μ1 H1 r E1 X1 _ => q1 ρ σ α1 μ1 H1 r E1 X1⟩
theorem St.ret (h : Ev X e ρ μ fun d μ1 => R (.rt d μ1)) : St X (.Return (some e) pos) ρ μ R :=
  PSw (ps_ret pe_a) fun D σ H ⟨α, E, q1, q2, q3, q4⟩ => ⟨_, h, α, E, fun v d α1 μ1 H1 r E1 X1 hv => q2 v d α1 μ1 H1 r E1.live X1 hv⟩
theorem St.retN (h : R (.rt .non μ)) : St X (.Return none pos) ρ μ R :=
  PSw ps_retN fun D σ H ⟨α, E, q1, q2, q3, q4⟩ => q2 .non .non α μ H h E.live E.live.refl .non
theorem St.pass (h : R (.nx ρ μ)) : St X (.Pass pos) ρ μ R := PSw ps_pass fun D σ H ⟨α, E, q1, _⟩ => q1 ρ σ α μ H h E E.live.refl
theorem St.brk (h : R (.bk ρ μ)) : St X (.Break pos) ρ μ R := PSw ps_break fun D σ H ⟨α, E, _, _, q3, _⟩ => q3 ρ σ α μ H h E E.live.refl
theorem St.cont (h : R (.ct ρ μ)) : St X (.Continue pos) ρ μ R := PSw ps_continue fun D σ H ⟨α, E, _, _, _, q4⟩ => q4 ρ σ α μ H h E E.live.refl
/-- from a state on -/
theorem tSt.from_ {D : Ends} {α α1 : List Addr} {μ1 : List MO} {H H1 : Hp} {σ1 : L2.St} {ρ1 : RO}
    (q : (∀ ρ' σ' α' μ' H', R (.nx ρ' μ') → En ⟨X.K, α', μ', H'⟩ σ' ρ' → Kp ⟨X.K, α, μ, H⟩ ⟨X.K, α', μ', H'⟩ → D.nx σ' H') ∧
  (∀ v d α' μ' H', R (.rt d μ') → Live ⟨X.K, α', μ', H'⟩ → Kp ⟨X.K, α, μ, H⟩ ⟨X.K, α', μ', H'⟩ → Has ⟨X.K, α', μ', H'⟩ v d → D.rt v H') ∧
  (∀ ρ' σ' α' μ' H', R (.bk ρ' μ') → En ⟨X.K, α', μ', H'⟩ σ' ρ' → Kp ⟨X.K, α, μ, H⟩ ⟨X.K, α', μ', H'⟩ → D.bk σ' H') ∧
  (∀ ρ' σ' α' μ' H', R (.ct ρ' μ') → En ⟨X.K, α', μ', H'⟩ σ' ρ' → Kp ⟨X.K, α, μ, H⟩ ⟨X.K, α', μ', H'⟩ → D.ct σ' H'))
    (E1 : En ⟨X.K, α1, μ1, H1⟩ σ1 ρ1) (X1 : Kp ⟨X.K, α, μ, H⟩ ⟨X.K, α1, μ1, H1⟩) : tSt X ρ1 μ1 R D σ1 H1 :=
  ⟨α1, E1, fun ρ2 σ2 α2 μ2 H2 r2 E2 X2 => q.1 ρ2 σ2 α2 μ2 H2 r2 E2 (X1.trans X2), fun v d α2 μ2 H2 r2 l2 X2 => q.2.1 v d α2 μ2 H2 r2 l2 (X1.trans X2),
      fun ρ2 σ2 α2 μ2 H2 r2 E2 X2 => q.2.2.1 ρ2 σ2 α2 μ2 H2 r2 E2 (X1.trans X2), fun ρ2 σ2 α2 μ2 H2 r2 E2 X2 => q.2.2.2 ρ2 σ2 α2 μ2 H2 r2 E2 (X1.trans X2)⟩
theorem St.ifS (h : EvT X c ρ μ fun k μ1 => if k = true then Sts X a ρ μ1 R else Sts X b ρ μ1 R) : St X (.If c a b pos) ρ μ R :=
  PSw (ps_if pt_a pss_a pss_a) fun D σ H ⟨α, E, q⟩ => ⟨_, h, α, E, fun k α1 μ1 H1 h1 E1 X1 => by
    cases k with
    | true => exact iteT ⟨_, show Sts X a ρ μ1 R from h1, tSt.from_ q E1 X1⟩
    | false => exact iteF ⟨_, show Sts X b ρ μ1 R from h1, tSt.from_ q E1 X1⟩⟩
/-! ### targets -/
def tG (X : Cx) (d : DV) (ρ : RO) (μ : List MO) (R : RO → List MO → Prop) : TG := fun v σ H Q => ∃ α, En ⟨X.K, α, μ, H⟩ σ ρ ∧ Has ⟨X.K, α, μ, H⟩ v d ∧
  ∀ ρ' σ' α' μ' H', R ρ' μ' → En ⟨X.K, α', μ', H'⟩ σ' ρ' → Kp ⟨X.K, α, μ, H⟩ ⟨X.K, α', μ', H'⟩ → Q σ' H'
def tGs (X : Cx) (ds : List DV) (ρ : RO) (μ : List MO) (R : RO → List MO → Prop) : TGs := fun vs σ H Q => ∃ α, En ⟨X.K, α, μ, H⟩ σ ρ ∧ HasL ⟨X.K, α, μ, H⟩ vs ds ∧
  ∀ ρ' σ' α' μ' H', R ρ' μ' → En ⟨X.K, α', μ', H'⟩ σ' ρ' → Kp ⟨X.K, α, μ, H⟩ ⟨X.K, α', μ', H'⟩ → Q σ' H'
def EvG (X : Cx) (t : Expr) (d : DV) (ρ : RO) (μ : List MO) (R : RO → List MO → Prop) : Prop := PG X t (tG X d ρ μ R)
def EvGs (X : Cx) (ts : List Expr) (ds : List DV) (ρ : RO) (μ : List MO) (R : RO → List MO → Prop) : Prop := PGs X ts (tGs X ds ρ μ R)
def aG (X : Cx) (t : Expr) : TG := fun v σ H Q => ∃ g, PG X t g ∧ g v σ H Q
def aGs (X : Cx) (t : List Expr) : TGs := fun v σ H Q => ∃ g, PGs X t g ∧ g v σ H Q
theorem pg_a {t : Expr} : PG X t (aG X t) := ⟨fun pins s σ H v u Q I r ⟨_, h, q⟩ => h.run pins s σ H v u Q I r q⟩
theorem pgs_a {t : List Expr} : PGs X t (aGs X t) := ⟨fun pins s σ H v u Q I r ⟨_, h, q⟩ => h.run pins s σ H v u Q I r q⟩
theorem PGw {e : Expr} {t t' : TG} (h : PG X e t) (k : ∀ v σ H Q, t' v σ H Q → t v σ H Q) : PG X e t' := ⟨fun pins s σ H v u Q I r q => h.run pins s σ H v u Q I r (k v σ H Q q)⟩
theorem PGsw {e : List Expr} {t t' : TGs} (h : PGs X e t) (k : ∀ v σ H Q, t' v σ H Q → t v σ H Q) : PGs X e t' := ⟨fun pins s σ H v u Q I r q => h.run pins s σ H v u Q I r (k v σ H Q q)⟩
theorem En.set {w : Wd} {σ : L2.St} {ρ : RO} {v : V} {d : DV} (E : En w σ ρ) (i : Nat) (h : Has w v d) : En w (σ.set i (some v)) (ρ.set i (some d)) :=
  ⟨E.live, by rw [List.length_set, List.length_set]; exact E.len, fun j d' e => by
    by_cases hj : i = j
    · subst hj
      by_cases hi : i < ρ.length
      · rw [List.getElem?_set_self hi] at e
        cases e
        exact ⟨v, by rw [List.getElem?_set_self (by rw [E.len]; exact hi)], h⟩
      · rw [List.getElem?_eq_none_iff.mpr (by rw [List.length_set]; omega)] at e
        cases e
    · rw [List.getElem?_set_ne hj] at e ⊢
      exact E.at_ j d' e⟩
theorem En.wipe {w : Wd} {σ : L2.St} {ρ : RO} (E : En w σ ρ) (i : Nat) : En w (σ.set i none) (ρ.set i none) :=
  ⟨E.live, by rw [List.length_set, List.length_set]; exact E.len, fun j d' e => by
    by_cases hj : i = j
    · subst hj
      by_cases hi : i < ρ.length
      · rw [List.getElem?_set_self hi] at e
        cases e
      · rw [List.getElem?_eq_none_iff.mpr (by rw [List.length_set]; omega)] at e
        cases e
    · rw [List.getElem?_set_ne hj] at e ⊢
      exact E.at_ j d' e⟩
variable {d : DV} {Rg : RO → List MO → Prop} {t : Expr} {ts : List Expr}
theorem EvG.name (i : Nat) {x : Str} (hN : X.N.Nodup) (hi : X.N[i]? = some x) (hx : Loc X.env.scope x) (hf : X.fn x = true ∨ X.env.scope.names.lookup x = some .local) (h : Rg (ρ.set i (some d)) μ) : EvG X (.Name x pos) d ρ μ Rg :=
  PGw (pg_name hN hi hx hf) fun v σ H Q ⟨α, E, hv, q⟩ => q _ _ α μ H h (E.set i hv) E.live.refl
theorem EvGs.nil (h : Rg ρ μ) : EvGs X [] [] ρ μ Rg := PGsw pgs_nil fun vs σ H Q ⟨α, E, hv, q⟩ => by
  cases hv
  exact ⟨rfl, q _ _ α μ H h E E.live.refl⟩
theorem EvGs.cons {ds : List DV} (h : EvG X t d ρ μ fun ρ1 μ1 => EvGs X ts ds ρ1 μ1 Rg) (hs : (assignEach (t :: ts) X.env).map (·.2) = assign t X.env :: (assignEach ts X.env).map (·.2) := by rfl) : EvGs X (t :: ts) (d :: ds) ρ μ Rg :=
  PGsw (pgs_cons pg_a pgs_a hs) fun vs σ H Q ⟨α, E, hv, q⟩ => by
    cases hv with
    | cons hv hvs => exact ⟨_, _, rfl, _, h, α, E, hv, fun ρ1 σ1 α1 μ1 H1 r1 E1 X1 => ⟨_, (show EvGs X ts ds ρ1 μ1 Rg from r1), α1, E1, X1.hasL hvs, fun ρ2 σ2 α2 μ2 H2 r2 E2 X2 => q ρ2 σ2 α2 μ2 H2 r2 E2 (X1.trans X2)⟩⟩
theorem EvG.tup {k} {ds : List DV} (hc : X.calm = true) (h : EvGs X ts ds ρ μ Rg) (hn : (assignEach ts X.env).length = ds.length := by rfl) (hst : (assignEach ts X.env).findIdx? (·.1) = none := by rfl) : EvG X (.Tuple ts k pos) (.tup ds) ρ μ Rg :=
  PGw (pg_tup (n := ds.length) hc pgs_a hn hst) fun v σ H Q ⟨α, E, hv, q⟩ => by
    cases hv with
    | tup s t => exact ⟨_, _, rfl, s, t.length, _, h, α, E, t, q⟩
/-- xs[i] = v of a list that may be changed -/
theorem EvG.sub {o i : Expr} (h : Ev X o ρ μ fun dO μ1 => Ev X i ρ μ1 fun dI μ2 => ∃ k xs z j, dO = .mu k ∧ dI = .int z ∧ μ2[k]? = some (.lst xs) ∧ ixN xs.length z = some j ∧ Rg ρ (μ2.set k (.lst (xs.set j d)))) (ha : ∀ v, assign (.Subscript o i pos) X.env v = (do
      let ov ← holding [v] (eval o X.env)
      let iv ← holding [v, ov] (eval i X.env)
      standAt pos
      holding [v, ov, iv] (setItem ov iv v)
      release [v, ov, iv] []) := by intro _; rfl) : EvG X (.Subscript o i pos) d ρ μ Rg :=
  PGw (pg_sub pe_a pe_a set_list ha) fun v σ H Q ⟨α, E, hv, q⟩ => ⟨_, h, α, E, fun o' dO α1 μ1 H1 h1 E1 X1 ho => ⟨_, h1, α1, E1, fun i' dI α2 μ2 H2 ⟨k, xs, z, j, e1, e2, hk, hj, r⟩ E2 X2 hi => by
    subst e1 e2
    cases hi
    cases X2.has ho with
    | mu ha =>
      obtain ⟨vs, e, hl⟩ := E2.live.ob k _ _ ha hk
      refine ⟨_, vs, z, j, rfl, rfl, e, by rw [hl.length]; exact hj, ?_⟩
      obtain ⟨kp, l⟩ := E2.live.put (o := .lst (vs.set j v)) (m := .lst (xs.set j d)) ha hk (fun z => nomatch z) fun kp => ⟨_, upd_same, HasL.set (kp.has (X2.has (X1.has hv))) j (kp.hasL hl)⟩
      exact q _ _ _ _ _ r (E2.ext kp l) (X1.trans (X2.trans kp))⟩⟩
theorem St.asg (h : Ev X e ρ μ fun d μ1 => EvG X t d ρ μ1 fun ρ2 μ2 => R (.nx ρ2 μ2)) (hs : swapsWithSole [t] e pos.line X.env = pure false := by rfl) (hw : swappedStores [t] e X.env = pure none := by rfl) (h1 : (assignEach [t] X.env).map (·.2) = [assign t X.env] := by rfl) : St X (.Assign [t] e pos) ρ μ R :=
  PSw (ps_asg pe_a pg_a hs hw h1) fun D σ H ⟨α, E, q⟩ => ⟨_, h, α, E, fun v d α1 μ1 H1 r1 E1 X1 hv => ⟨_, r1, α1, E1, hv, fun ρ2 σ2 α2 μ2 H2 r2 E2 X2 => q.1 ρ2 σ2 α2 μ2 H2 r2 E2 (X1.trans X2)⟩⟩
/-- x = e -/
theorem St.set (i : Nat) {x : Str} {pos' : Pos} (hN : X.N.Nodup) (hi : X.N[i]? = some x) (hx : Loc X.env.scope x) (hf : X.fn x = true ∨ X.env.scope.names.lookup x = some .local) (h : Ev X e ρ μ fun d μ1 => R (.nx (ρ.set i (some d)) μ1)) (hs : swapsWith e (some (.Name x pos')) pos.line X.env = pure false := by rfl) :
    St X (.Assign [.Name x pos'] e pos) ρ μ R :=
  PSw (ps_set hN hi hx pe_a hs hf) fun D σ H ⟨α, E, q⟩ => ⟨_, h, α, E, fun v d α1 μ1 H1 r1 E1 X1 hv => q.1 _ _ α1 μ1 H1 r1 (E1.set i hv) X1⟩
/-- a, b = e1, e2 -/
theorem St.par {e1 e2 : Expr} (i j : Nat) {x y : Str} {px py pt : Pos} {kt k2 pt2} (hc : X.calm = true) (hN : X.N.Nodup) (hi : X.N[i]? = some x) (hj : X.N[j]? = some y) (hij : i ≠ j) (hx : X.env.scope.names.lookup x = some .local) (hy : X.env.scope.names.lookup y = some .local)
    (h : EvA X [e1, e2] ρ μ fun ds μ1 => ∃ d1 d2, ds = [d1, d2] ∧ R (.nx ((ρ.set i (some d1)).set j (some d2)) μ1)) (hw : swappedStores [.Tuple [.Name x px, .Name y py] kt pt] (.Tuple [e1, e2] k2 pt2) X.env = pure (some [x, y]) := by rfl)
    (hs : swapsWithSole [.Tuple [.Name x px, .Name y py] kt pt] (.Tuple [e1, e2] k2 pt2) pos.line X.env = pure false := by rfl) :
    St X (.Assign [.Tuple [.Name x px, .Name y py] kt pt] (.Tuple [e1, e2] k2 pt2) pos) ρ μ R :=
  PSw (ps_par hc hN hi hj hij hx hy pa_a hw hs) fun D σ H ⟨α, E, q⟩ => ⟨_, h, α, E, fun vs ds α1 μ1 H1 ⟨d1, d2, e, r⟩ E1 X1 hv => by
    subst e
    obtain ⟨v, u, rfl, hv1, hv2⟩ := hasL2 hv
    exact ⟨v, u, rfl, q.1 _ _ α1 μ1 H1 r ((E1.set i hv1).set j hv2) X1⟩⟩
/-! ### what is walked -/
def ItOk (X : Cx) (J : It) (ds : List DV) (w : Wd) : Prop := ∀ α μ H, Kp w ⟨X.K, α, μ, H⟩ → Live ⟨X.K, α, μ, H⟩ → (∀ i d, ds[i]? = some d → J.go i H ∧ ∀ x H', J.yld i H x H' → Kp ⟨X.K, α, μ, H⟩ ⟨X.K, α, μ, H'⟩ ∧ Live ⟨X.K, α, μ, H'⟩ ∧ Has ⟨X.K, α, μ, H'⟩ x d) ∧ J.stop ds.length H
def tEvI (X : Cx) (ρ : RO) (μ : List MO) (R : Ca) : TI := fun σ H Rr => ∃ α, En ⟨X.K, α, μ, H⟩ σ ρ ∧ ∀ J ds α' μ' H', R ds μ' → En ⟨X.K, α', μ', H'⟩ σ ρ → Kp ⟨X.K, α, μ, H⟩ ⟨X.K, α', μ', H'⟩ → ItOk X J ds ⟨X.K, α', μ', H'⟩ → Rr J H'
def EvI (X : Cx) (tg e : Expr) (ρ : RO) (μ : List MO) (R : Ca) : Prop := PI X tg e (tEvI X ρ μ R)
theorem PIw {tg e : Expr} {t t' : TI} (h : PI X tg e t) (k : ∀ σ H Q, t' σ H Q → t σ H Q) : PI X tg e t' := ⟨fun pins s σ H Q I q => h.run pins s σ H Q I (k σ H Q q)⟩
def aI (X : Cx) (tg e : Expr) : TI := fun σ H Q => ∃ t, PI X tg e t ∧ t σ H Q
theorem pi_a {tg e : Expr} : PI X tg e (aI X tg e) := ⟨fun pins s σ H Q I ⟨_, h, q⟩ => h.run pins s σ H Q I q⟩
theorem EvI.lst {tg : Expr} {Ra : Ca} (h : Ev X e ρ μ fun d μ1 => ∃ ds, d = .lst ds ∧ Ra ds μ1) : EvI X tg e ρ μ Ra :=
  PIw (pi_list pe_a) fun σ H Q ⟨α, E, q⟩ => ⟨_, h, α, E, fun v d α1 μ1 H1 ⟨ds, e, r⟩ E1 X1 hv => by
    subst e
    cases hv with
    | @lst p vs _ rd hl =>
      have s0 : ∀ α2 μ2 H2, Kp ⟨X.K, α1, μ1, H1⟩ ⟨X.K, α2, μ2, H2⟩ → SqL X.K H2 p vs := fun α2 μ2 H2 k => by
        rcases rd with ⟨n, rd⟩ | rd
        · rcases rd with z | ⟨o, z⟩
          · exact .inl (.inl (k.H _ _ z n))
          · exact .inl (.inr ⟨o, k.H _ _ z n⟩)
        · exact rd.sq
      refine ⟨p, rfl, ⟨vs, s0 _ _ _ E1.live.refl⟩, q _ ds α1 μ1 H1 r E1 X1 fun α2 μ2 H2 k l => ?_⟩
      have s2 : SqL X.K H2 p vs := s0 _ _ _ k
      refine ⟨fun i d hd => ?_, ⟨vs, s2, Nat.le_of_eq hl.length⟩⟩
      obtain ⟨x, h1, h2⟩ := hl.get hd
      refine ⟨⟨vs, x, s2, h1⟩, fun y H' hy => ?_⟩
      obtain ⟨rfl, hy⟩ := hy
      have z := hy vs s2
      rw [h1] at z
      cases z
      exact ⟨l.refl, l, k.has h2⟩⟩
theorem EvI.tup {tg : Expr} {Ra : Ca} (h : Ev X e ρ μ fun d μ1 => ∃ ds, d = .tup ds ∧ Ra ds μ1) : EvI X tg e ρ μ Ra :=
  PIw (pi_tup pe_a) fun σ H Q ⟨α, E, q⟩ => ⟨_, h, α, E, fun v d α1 μ1 H1 ⟨ds, e, r⟩ E1 X1 hv => by
    subst e
    have hv0 := hv
    cases hv with
    | @tup p vs _ rd hl =>
      refine ⟨p, rfl, ⟨vs, rd⟩, q _ ds α1 μ1 H1 r E1 X1 fun α2 μ2 H2 k l => ?_⟩
      have s2 : SqT X.K H2 p vs := by
        have nl : ∀ {xs}, Rd H1 p (.tup xs) → ¬ Wd.lv ⟨X.K, α1, μ1, H1⟩ p := fun {xs} r z => by
          have m := k.tu p z
          rcases r with r | ⟨o, r⟩
          · have r' : (Wd.mk X.K α1 μ1 H1).H p = _ := r
            rw [r'] at m
            exact m
          · have r' : (Wd.mk X.K α1 μ1 H1).H p = _ := r
            rw [r'] at m
            exact m
        rcases rd with r | r
        · have n := nl r
          rcases r with r | ⟨o, r⟩
          · exact .inl (.inl (k.H _ _ r n))
          · exact .inl (.inr ⟨o, k.H _ _ r n⟩)
        · exact .inr r
      refine ⟨fun i d hd => ?_, ⟨vs, s2, Nat.le_of_eq hl.length⟩⟩
      obtain ⟨x, h1, h2⟩ := hl.get hd
      refine ⟨⟨vs, x, s2, h1⟩, fun y H' hy => ?_⟩
      obtain ⟨rfl, hy⟩ := hy
      have z := hy vs s2
      rw [h1] at z
      cases z
      exact ⟨l.refl, l, k.has h2⟩⟩
/-- the numbers lo, lo + 1, .. -/
def rgD (lo : Int) (n : Nat) : List DV := (List.range n).map fun (i : Nat) => DV.int (lo + (i : Int))
theorem rgD_len (lo : Int) (n : Nat) : (rgD lo n).length = n := by simp [rgD]
theorem itr_ok {w : Wd} (lo : Int) (n : Nat) : ItOk X (Itr lo n) (rgD lo n) w := fun α μ H k l => by
  refine ⟨fun i d hd => ?_, Nat.le_of_eq (rgD_len lo n).symm⟩
  obtain ⟨hi, e⟩ := List.getElem?_eq_some_iff.mp hd
  rw [rgD_len] at hi
  refine ⟨hi, fun x H' y => ?_⟩
  obtain ⟨rfl, rfl⟩ := y
  have e' : d = .int (lo + (i : Int)) := by
    rw [← e]
    simp [rgD]
  rw [e']
  exact ⟨l.refl, l, .int⟩
theorem EvI.range1 {tg a : Expr} {Ra : Ca} {p : Pos} (hg : Gl X "range") (hm : X.mg "range" = none) (h : EvA X [a] ρ μ fun ds μ1 => ∃ j : Int, ds = [.int j] ∧ -(2 ^ 62) ≤ j ∧ j < 2 ^ 62 ∧ Ra (rgD 0 j.toNat) μ1) (hs : starEach [a] X.env = [(false, eval a X.env)] := by rfl) :
    EvI X tg (.Call (.Name "range" p) [a] [] pos) ρ μ Ra :=
  PIw (pi_range1 hg hm pa_a hs) fun σ H Q ⟨α, E, q⟩ => ⟨_, h, α, E, fun vs ds α1 μ1 H1 ⟨j, e, h1, h2, r⟩ E1 X1 hv => by
    subst e
    obtain ⟨v, rfl, hw⟩ := hasL1 hv
    cases hw
    exact ⟨j, rfl, h1, h2, q _ _ α1 μ1 H1 r E1 X1 (itr_ok 0 j.toNat)⟩⟩
/-- for t in e: the items ds, one turn each; I: what holds behind i of them -/
theorem St.for_ {tg : Expr} {body : List Stmt} (hp : PassesOwn (model X.prog X.w) X.A X.env X.xe) (hc : X.calm = true)
    (h : EvI X tg e ρ μ fun ds μ1 => ∃ I : Nat → RO → List MO → Prop, I 0 ρ μ1 ∧
      (∀ i d ρ' μ', ds[i]? = some d → I i ρ' μ' → EvG X tg d ρ' μ' fun ρ2 μ2 => Sts X body ρ2 μ2 fun o => match o with
        | .nx ρ3 μ3 => I (i + 1) ρ3 μ3
        | .ct ρ3 μ3 => I (i + 1) ρ3 μ3
        | .bk ρ3 μ3 => R (.nx ρ3 μ3)
        | .rt d μ3 => R (.rt d μ3)) ∧
      ∀ ρ' μ', I ds.length ρ' μ' → R (.nx ρ' μ')) (hs : ∀ x, foldedSetIterable e X.env x = pure x := by intro _; rfl) : St X (.For tg e body [] pos) ρ μ R :=
  PSw (ps_for hp hc pi_a pg_a pss_a hs) fun D σ H ⟨α, E, q⟩ => ⟨_, h, α, E, fun J ds α1 μ1 H1 ⟨I, i0, turn, fin⟩ E1 X1 ok => by
    let P : Nat → L2.St → Hp → Prop := fun i σ H => ∃ α μ ρ, I i ρ μ ∧ En ⟨X.K, α, μ, H⟩ σ ρ ∧ Kp ⟨X.K, α1, μ1, H1⟩ ⟨X.K, α, μ, H⟩
    refine ⟨fun i m σ H => m = ds.length - i ∧ i ≤ ds.length ∧ P i σ H, ⟨ds.length, by simp, Nat.zero_le _, α1, μ1, ρ, i0, E1, E1.live.refl⟩, ?_⟩
    rintro i m σ2 H2 ⟨rfl, hi, α2, μ2, ρ2, hI, E2, X2⟩
    obtain ⟨go, stop⟩ := ok α2 μ2 H2 X2 E2.live
    by_cases hlt : i < ds.length
    · obtain ⟨g1, g2⟩ := go i ds[i] (by simp [hlt])
      refine .inr ⟨g1, P (i + 1), fun σ' H' p' => ⟨ds.length - (i + 1), by omega, rfl, hlt, p'⟩, fun x H' y => ?_⟩
      obtain ⟨k, l, hx⟩ := g2 x H' y
      have X2' := X2.trans k
      refine ⟨_, turn i ds[i] ρ2 μ2 (by simp [hlt]) hI, α2, E2.ext k l, hx, fun ρ3 σ3 α3 μ3 H3 r3 E3 X3 => ⟨_, r3, ?_⟩⟩
      have X3' := X2'.trans X3
      refine ⟨α3, E3, fun ρ4 σ4 α4 μ4 H4 r4 E4 X4 => ⟨α4, μ4, ρ4, r4, E4, X3'.trans X4⟩, fun v d α4 μ4 H4 r4 l4 X4 hv => q.2.1 v d α4 μ4 H4 r4 l4 (X1.trans (X3'.trans X4)) hv,
        fun ρ4 σ4 α4 μ4 H4 r4 E4 X4 => q.1 ρ4 σ4 α4 μ4 H4 r4 E4 (X1.trans (X3'.trans X4)), fun ρ4 σ4 α4 μ4 H4 r4 E4 X4 => ⟨α4, μ4, ρ4, r4, E4, X3'.trans X4⟩⟩
    · have e : i = ds.length := by omega
      subst e
      exact .inl ⟨stop, q.1 ρ2 σ2 α2 μ2 H2 (fin ρ2 μ2 hI) E2 (X1.trans X2)⟩⟩
/-- while c: I n: what holds, n falls at each turn -/
theorem St.while_ {c : Expr} {body : List Stmt} (hp : PassesOwn (model X.prog X.w) X.A X.env X.xe) (I : Nat → RO → List MO → Prop) (h0 : ∃ n, I n ρ μ)
    (turn : ∀ n ρ' μ', I n ρ' μ' → EvT X c ρ' μ' fun k μ2 => if k = true then Sts X body ρ' μ2 fun o => match o with
        | .nx ρ3 μ3 => ∃ m, m < n ∧ I m ρ3 μ3
        | .ct ρ3 μ3 => ∃ m, m < n ∧ I m ρ3 μ3
        | .bk ρ3 μ3 => R (.nx ρ3 μ3)
        | .rt d μ3 => R (.rt d μ3)
      else R (.nx ρ' μ2)) : St X (.While c body [] pos) ρ μ R :=
  PSw (ps_while hp pt_a pss_a) fun D σ H ⟨α, E, q⟩ => by
    let P : Nat → L2.St → Hp → Prop := fun i σ H' => ∃ α' μ' ρ', I i ρ' μ' ∧ En ⟨X.K, α', μ', H'⟩ σ ρ' ∧ Kp ⟨X.K, α, μ, H⟩ ⟨X.K, α', μ', H'⟩
    obtain ⟨n0, h0⟩ := h0
    refine ⟨P, ⟨n0, α, μ, ρ, h0, E, E.live.refl⟩, ?_⟩
    rintro m σ2 H2 ⟨α2, μ2, ρ2, hI, E2, X2⟩
    refine ⟨_, turn m ρ2 μ2 hI, α2, E2, fun k α3 μ3 H3 r3 E3 X3 => ?_⟩
    have X3' := X2.trans X3
    cases k with
    | true =>
      refine iteT ⟨fun σ' H' => ∃ m', m' < m ∧ P m' σ' H', fun σ' H' h => h, _, (show Sts X body ρ2 μ3 _ from r3), ?_⟩
      refine ⟨α3, E3, fun ρ4 σ4 α4 μ4 H4 ⟨m', hm, r4⟩ E4 X4 => ⟨m', hm, α4, μ4, ρ4, r4, E4, X3'.trans X4⟩, fun v d α4 μ4 H4 r4 l4 X4 hv => q.2.1 v d α4 μ4 H4 r4 l4 (X3'.trans X4) hv,
        fun ρ4 σ4 α4 μ4 H4 r4 E4 X4 => q.1 ρ4 σ4 α4 μ4 H4 r4 E4 (X3'.trans X4), fun ρ4 σ4 α4 μ4 H4 ⟨m', hm, r4⟩ E4 X4 => ⟨m', hm, α4, μ4, ρ4, r4, E4, X3'.trans X4⟩⟩
    | false => exact iteF (q.1 ρ2 σ2 α3 μ3 H3 r3 E3 X3')
/-! ### forgetting and freezing -/
/-- what was made beside is forgotten -/
theorem Ev.cut {R : Cn} (h : Ev X e ρ μ fun d μ1 => DV.bel μ.length d = true ∧ (μ1.take μ.length).all (MO.bel μ.length) = true ∧ R d (μ1.take μ.length)) : Ev X e ρ μ R :=
  PEw h fun σ H Q ⟨α, E, q⟩ => ⟨α, E, fun v d α1 μ1 H1 ⟨h1, h2, r⟩ E1 X1 hv => by
    have k := Live.cut E.live E1.live X1
    have l := E1.live.cutL μ.length h2
    exact q v d _ _ _ r (E.ext k l) k (hv.cut h1)⟩
/-- a list that was made to be changed is told to stay as it is -/
theorem Ev.frz {R : Cn} (h : Ev X e ρ μ fun d μ1 => ∃ k ds, d = .mu k ∧ μ1[k]? = some (.lst ds) ∧ R (.lst ds) (μ1.set k .dead)) : Ev X e ρ μ R :=
  PEw h fun σ H Q ⟨α, E, q⟩ => ⟨α, E, fun v d α1 μ1 H1 ⟨k, ds, e, hk, r⟩ E1 X1 hv => by
    subst e
    cases hv with
    | mu ha =>
      obtain ⟨kp, l, nl⟩ := E1.live.freeze (k := k)
      obtain ⟨vs, h1, h2⟩ := E1.live.ob k _ _ ha hk
      exact q _ _ _ _ _ r (E1.ext kp l) (X1.trans kp) (.lst (.inl ⟨nl _ ha, .inl h1⟩) (kp.hasL h2))⟩
/-! ### xs.append(e) -/
theorem tyv_of {w : Wd} {p : Addr} {xs : List V} (h : w.H p = some (.lst xs)) : tyV w.K "list" (.ref p) w.H := .inl ⟨rfl, _, .of h⟩
theorem Ev.append {o : Expr} {R : Cn} {apos cpos : Pos} (h : Ev X o ρ μ fun dO μ1 => ∃ k xs, dO = .mu k ∧ μ1[k]? = some (.lst xs) ∧ EvA X [e] ρ μ1 fun ds μ2 => ∃ d ys, ds = [d] ∧ μ2[k]? = some (.lst ys) ∧ ys.length < sizeLine ∧ R .non (μ2.set k (.lst (ys ++ [d]))))
    (hbase : attributeBase o "append" X.env (eval o X.env) = eval o X.env := by rfl)
    (hfew : ((backTo cpos (starEach [e] X.env)).all (fun x => !x.1) && (backToKw cpos (keywordEach [] X.env)).all (fun x => x.1.isSome)
      && decide ([e].length + ([] : List Keyword).length + (if ([] : List Keyword).isEmpty then 0 else 1) < 30)) = true := by rfl)
    (hline : (apos.endLine == cpos.line) = true := by rfl) (hs : starEach [e] X.env = (false, eval e X.env) :: starEach [] X.env := by rfl) :
    Ev X (.Call (.Attribute o "append" apos) [e] [] cpos) ρ μ R :=
  PEw (pe_bm PySem.F.plainAttrs_list PySem.F.slot_list_append PySem.F.type_list_append mt_append pe_a pa_a hbase hfew hline hs rfl) fun σ H Q ⟨α, E, q⟩ => ⟨_, h, α, E, fun v dO α1 μ1 H1 ⟨k, xs, e1, hk, h1⟩ E1 X1 hv => by
    subst e1
    cases hv with
    | mu ha =>
      obtain ⟨vs, z1, z2⟩ := E1.live.ob k _ _ ha hk
      refine ⟨tyv_of (w := ⟨X.K, α1, μ1, H1⟩) z1, _, h1, α1, E1, fun us ds α2 μ2 H2 ⟨d, ys, e2, hk2, hsz, r⟩ E2 X2 hus => ?_⟩
      subst e2
      obtain ⟨u, rfl, hu⟩ := hasL1 hus
      have ha2 := X2.α _ _ ha
      obtain ⟨vs2, y1, y2⟩ := E2.live.ob k _ _ ha2 hk2
      refine ⟨_, vs2, u, rfl, rfl, y1, by rw [y2.length]; exact hsz, ?_⟩
      obtain ⟨kp, l⟩ := E2.live.put (o := .lst (vs2 ++ [u])) (m := .lst (ys ++ [d])) ha2 hk2 (fun z => nomatch z) fun kp => ⟨_, upd_same, HasL.app (kp.hasL y2) (.cons (kp.has hu) .nil)⟩
      exact q _ _ _ _ _ r (E2.ext kp l) (X1.trans (X2.trans kp)) .non⟩
/-! ### xs[lo:hi] of a list -/
abbrev Cp := Option Int → List MO → Prop
def tEvP (X : Cx) (ρ : RO) (μ : List MO) (R : Cp) : TO := fun σ H Q => ∃ α, En ⟨X.K, α, μ, H⟩ σ ρ ∧ ∀ z α' μ' H', R z μ' → En ⟨X.K, α', μ', H'⟩ σ ρ → Kp ⟨X.K, α, μ, H⟩ ⟨X.K, α', μ', H'⟩ → Q z H'
def EvP (X : Cx) (e : Option Expr) (ρ : RO) (μ : List MO) (R : Cp) : Prop := PO X e (tEvP X ρ μ R)
def aP (X : Cx) (e : Option Expr) : TO := fun σ H Q => ∃ t, PO X e t ∧ t σ H Q
theorem po_a {e : Option Expr} : PO X e (aP X e) := ⟨fun pins s σ H Q I ⟨_, h, q⟩ => h.run pins s σ H Q I q⟩
theorem POw {e : Option Expr} {t t' : TO} (h : PO X e t) (k : ∀ σ H Q, t' σ H Q → t σ H Q) : PO X e t' := ⟨fun pins s σ H Q I q => h.run pins s σ H Q I (k σ H Q q)⟩
theorem EvP.none {R : Cp} (h : R none μ) : EvP X none ρ μ R := POw po_none fun σ H Q ⟨α, E, q⟩ => q _ α μ H h E E.live.refl
theorem EvP.some {R : Cp} (h : Ev X e ρ μ fun d μ1 => ∃ i, d = .int i ∧ R (some i) μ1) : EvP X (some e) ρ μ R :=
  POw (po_some pe_a) fun σ H Q ⟨α, E, q⟩ => ⟨_, h, α, E, fun v d α1 μ1 H1 ⟨i, e, r⟩ E1 X1 hv => by
    subst e
    cases hv
    exact ⟨i, rfl, q _ α1 μ1 H1 r E1 X1⟩⟩
def cutD (xs : List DV) (lo hi : Option Int) : List DV := (xs.drop (HT.sIx xs.length 0 lo)).take (HT.sIx xs.length xs.length hi - HT.sIx xs.length 0 lo)
theorem cut_has {w : Wd} {vs : List V} {ds : List DV} (h : HasL w vs ds) (lo hi : Option Int) : HasL w (cutV vs lo hi) (cutD ds lo hi) := by
  unfold cutV cutD
  rw [h.length]
  exact HasL.take _ (HasL.drop _ h)
theorem Ev.sliceL {a : Expr} {lo hi : Option Expr} {p2 : Pos} {R : Cn} (h : Ev X a ρ μ fun d μ1 => ∃ ds, d = .lst ds ∧ EvP X lo ρ μ1 fun l μ2 => EvP X hi ρ μ2 fun u μ3 => R (.lst (cutD ds l u)) μ3) : Ev X (.Subscript a (.Slice lo hi none p2) pos) ρ μ R :=
  PEw (pe_slice sl_list pe_a po_a po_a) fun σ H Q ⟨α, E, q⟩ => ⟨_, h, α, E, fun v d α1 μ1 H1 ⟨ds, e, h1⟩ E1 X1 hv => by
    subst e
    refine ⟨_, h1, α1, E1, fun l α2 μ2 H2 h2 E2 X2 => ⟨_, h2, α2, E2, fun u α3 μ3 H3 h3 E3 X3 => ?_⟩⟩
    have hv3 := X3.has (X2.has hv)
    cases hv3 with
    | @lst p vs _ rd hl =>
      have s3 : SqL X.K H3 p vs := by
        rcases rd with ⟨_, rd⟩ | rd
        · exact .inl rd
        · exact rd.sq
      refine ⟨p, vs, rfl, s3, fun b nb => ?_⟩
      obtain ⟨k, l'⟩ := E3.live.lay (o := .lst (cutV vs l u)) nb
      exact q _ _ _ _ _ h3 (E3.ext k l') (X1.trans (X2.trans (X3.trans k))) (.lst (.inl ⟨E3.live.fresh nb, .inl upd_same⟩) (k.hasL (cut_has hl l u)))⟩
end
end
end Eg

namespace Eg
open PySem PySem.Spec PyProof.Rows L2
/-! ### defs, called where nothing is being shown -/
structure FnG (P : Program) (w : World) (K : PySem.W.Frag) (mg : Str → Option Value) (base : Heap) (k : Nat) (f : Addr) (fd : FuncData) (ps : List Str) (sp : Sp) : Prop where
  len : ∀ vs H Q E, sp vs H Q E → vs.length = ps.length
  go : ∀ (A : Around) (outer : List Env) (s : Shared) (H : Hp) (args : Args) (us : List Value) (vs : List V) (Q : VK), A.guards = some [] → Room k A → Env0 P w K mg base A outer s H →
    BindsTo s fd args (ps.zip us) → Vals vs us → sp vs H Q E0 → codeAny (model P w) A (.call (.ref f) args) (CR CX0 outer P w H s Q E0) s
theorem guards_in {A : Around} (env : PySem.Env) (h : A.guards = some []) : (A.deeper env).guards = some [] := by
  first
    | exact h
    | (simpa [Around.deeper] using h)
/-- the context of a def's body -/
abbrev bx (P : Program) (w : World) (K : PySem.W.Frag) (mg : Str → Option Value) (base : Heap) (N : List Str) (qual : Str) (scope : Scope) (f : Addr) (cd : Value) (A : Around) (outer : List PySem.Env) (s : Shared) (H : Hp) : Cx :=
  (cxOf CX0 P w K mg base N qual scope f cd A outer s H E0).nox
section
variable {P : Program} {w : World} {K : PySem.W.Frag} {mg : Str → Option Value} {base : Heap}
theorem FnG.of {x qual : Str} {params : Arguments} {body : List Stmt} {scope : Scope} {dvs : List V} {kws : List (Str × V)} {f : Addr} {fd : FuncData} {N ps : List Str} {k : Nat} {sp : Sp}
    (F : FunD K x qual params body scope dvs kws f fd) (S : FnScope N ps scope) (len : ∀ vs H Q E, sp vs H Q E → vs.length = ps.length)
    (hb : ∀ (cd : Value) (A : Around) (outer : List PySem.Env) (s : Shared) (H : Hp) (vs : List V) (Q : VK), (A.deeper (envOfC qual scope s.heap.objs.size f cd)).guards = some [] → Room k (A.deeper (envOfC qual scope s.heap.objs.size f cd)) → sp vs H Q E0 →
      ∃ t, PSs (bx P w K mg base N qual scope f cd A outer s H) body t ∧ t { nx := fun _ H' => Q .non H', rt := Q } (L2.start N vs) H) : FnG P w K mg base (k + 1) f fd ps sp := by
  obtain ⟨oc, od, dV, kV, doc, pm, an, cd, ct, osl, rfl, lk, hcd, _, _⟩ := F.ex
  refine ⟨len, ?_⟩
  intro A outer s H args us vs Q hg hr e0 hbind rv hsp
  have room := hr.deeper (envOfC qual scope s.heap.objs.size f cd)
  obtain ⟨t, ht, hq⟩ := hb cd A outer s H vs Q (guards_in _ hg) room hsp
  have keep : ∀ b o, base.get? b = some o → s.heap.get? b = some o := fun b o z => (e0.bs b o z).1
  have KX : K.In s.heap := e0.mod.kin.keeps keep
  refine codeAny_call_function hr.depth (KX _ _ lk) rfl S.co S.gen rfl (PySem.W.codeRec_of KX hcd) (hbind _ _ _ _ ?_)
  have kinds : ∀ y ∈ ps.zip us, scope.names.lookup y.1 = some .local ∨ (scope.names.lookup y.1 = some .cell ∧ ((cellsFrom (s.heap.objs.size + 1) scope.names []).lookup y.1).isSome = true) := by
    rintro ⟨n, u⟩ hy
    have z := S.par n (List.of_mem_zip hy).1
    exact z.imp id fun z => ⟨z, PySem.W.cellsFrom_some _ _ _ (.inl z)⟩
  refine wpAny_newFunctionEnv_cells S.kind kinds fun env he s1 ic => ?_
  cases he
  refine ⟨(e0.mod.nolimit.keeps keep).keeps ic.toInCall.keep, codeAny_func ?_⟩
  have I := inv_start (CX := CX0) (E := E0) (qual := qual) (f := f) (cd := cd) S hr.hd e0 (len _ _ _ _ hsp) rv ic
  refine wpAny_mono (ht.run [] s1 (L2.start N vs) H _ (I.wish fun _ _ => False) hq) (fun fl s' q => ?_) (fun _ _ z => z.elim)
  cases fl with
  | ret u =>
    obtain ⟨v, σ', H', J, r, q⟩ := q
    exact ⟨v, H', J.os, J.bare, J.base, J.hok, r, q⟩
  | next =>
    obtain ⟨σ', H', J, q⟩ := q
    exact ⟨.non, H', J.os, J.bare, J.base, J.hok, rfl, q⟩
  | brk => exact (by obtain ⟨_, _, _, q⟩ := q; exact False.elim q)
  | cont => exact (by obtain ⟨_, _, _, q⟩ := q; exact False.elim q)
end
/-! ### promises over data -/
abbrev Ctr := List DV → List MO → Cn → Prop
def SpD (K : PySem.W.Frag) (C : Ctr) : Sp := fun vs H Q _ => ∃ α μ ds R, Live ⟨K, α, μ, H⟩ ∧ HasL ⟨K, α, μ, H⟩ vs ds ∧ C ds μ R ∧
  ∀ v d α' μ' H', R d μ' → Live ⟨K, α', μ', H'⟩ → Kp ⟨K, α, μ, H⟩ ⟨K, α', μ', H'⟩ → Has ⟨K, α', μ', H'⟩ v d → Q v H'
/-- the def of a name, its promise, how it is called -/
def Fn (P : Program) (w : World) (K : PySem.W.Frag) (mg : Str → Option Value) (base : Heap) (x : Str) (k : Nat) (C : Ctr) : Prop :=
  ∃ f fd ps, FnG P w K mg base k f fd ps (SpD K C) ∧ mg x = some (.ref f) ∧ PySem.W.keepIn K (.ref f) = true ∧ Binds K fd ps []
theorem Fn.mono {P : Program} {w : World} {K : PySem.W.Frag} {mg : Str → Option Value} {base : Heap} {x : Str} {j k : Nat} {C : Ctr} (F : Fn P w K mg base x j C) (h : j ≤ k) : Fn P w K mg base x k C := by
  obtain ⟨f, fd, ps, ⟨l, g⟩, r⟩ := F
  exact ⟨f, fd, ps, ⟨l, fun A outer s H args us vs Q hg hr => g A outer s H args us vs Q hg (hr.mono h)⟩, r⟩
/-- what is wanted behind a body; what was made beside may be forgotten -/
def fin (n : Nat) (R : Cn) : Co := fun o => match o with
  | .rt d μ => R d μ ∨ (DV.bel n d = true ∧ (μ.take n).all (MO.bel n) = true ∧ R d (μ.take n))
  | .nx _ μ => R .non μ ∨ ((μ.take n).all (MO.bel n) = true ∧ R .non (μ.take n))
  | _ => False
def startD (N : List Str) (ds : List DV) : RO := ds.map some ++ List.replicate (N.length - ds.length) none
theorem start_en {w : Wd} {N : List Str} {vs : List V} {ds : List DV} (l : Live w) (h : HasL w vs ds) : En w (L2.start N vs) (startD N ds) := by
  have hl := h.length
  refine ⟨l, ?_, fun i d e => ?_⟩
  · unfold L2.start startD
    simp [hl]
  · unfold startD at e
    unfold L2.start
    by_cases hi : i < ds.length
    · rw [List.getElem?_append_left (by simpa using hi), List.getElem?_map] at e
      rw [List.getElem?_append_left (by simpa [hl] using hi), List.getElem?_map]
      cases q : ds[i]? with
      | none => rw [q] at e; cases e
      | some d' =>
        rw [q] at e
        cases e
        obtain ⟨v, h1, h2⟩ := h.get q
        exact ⟨v, by rw [h1]; rfl, h2⟩
    · rw [List.getElem?_append_right (by simpa using Nat.le_of_not_lt hi), List.getElem?_replicate] at e
      split at e <;> cases e
section
variable {P : Program} {w : World} {K : PySem.W.Frag} {mg : Str → Option Value} {base : Heap}
/-- THE RULE for a def -/
theorem Fn.mk {x : Str} {params : Arguments} {body : List Stmt} {scope : Scope} {kws : List (Str × V)} {f : Addr} {fd : FuncData} {N ps : List Str} {k : Nat} {C : Ctr}
    (F : FunD K x x params body scope [] kws f fd) (S : FnScope N ps scope) (hm : mg x = some (.ref f))
    (hbd : ∀ (kV doc pm : Value) (an : Option Addr) (cdv ct : Value) (us : List Value), us.length = ps.length → bindArgs (PySem.W.fnOf x x params body scope .none kV doc pm an cdv ct) ⟨us, []⟩ = pure (ps.zip us))
    (len : ∀ ds μ R, C ds μ R → ds.length = ps.length)
    (hb : ∀ (cd : Value) (A : Around) (outer : List PySem.Env) (s : Shared) (H : Hp), (bx P w K mg base N x scope f cd A outer s H).A.guards = some [] → Room k (bx P w K mg base N x scope f cd A outer s H).A → (bx P w K mg base N x scope f cd A outer s H).N.Nodup →
      ∀ ds μ R, C ds μ R → Sts (bx P w K mg base N x scope f cd A outer s H) body (startD N ds) μ (fin μ.length R)) : Fn P w K mg base x (k + 1) C := by
  refine ⟨f, fd, ps, FnG.of F S (fun vs H Q E => ?_) (fun cd A outer s H vs Q hg hr => ?_), hm, F.kp, F.bindsN hbd⟩
  · rintro ⟨α, μ, ds, R, l, h, c, _⟩
    rw [h.length]
    exact len _ _ _ c
  · rintro ⟨α, μ, ds, R, l, h, c, q⟩
    refine ⟨_, hb cd A outer s H hg hr S.nd ds μ R c, α, start_en l h, ?_, ?_, ?_, ?_⟩
    · intro ρ' σ' α' μ' H' r E' k'
      rcases r with r | ⟨r1, r2⟩
      · exact q _ _ α' μ' H' r E'.live k' .non
      · exact q _ _ _ _ _ r2 (E'.live.cutL μ.length r1) (Live.cut l E'.live k') .non
    · intro v d α' μ' H' r l' k' hv
      rcases r with r | ⟨r0, r1, r2⟩
      · exact q _ _ α' μ' H' r l' k' hv
      · exact q _ _ _ _ _ r2 (l'.cutL μ.length r1) (Live.cut l l' k') (hv.cut r0)
    · intro _ _ _ _ _ r
      exact r.elim
    · intro _ _ _ _ _ r
      exact r.elim
end
/-! ### calls -/
section
variable {X : Cx} {e : Expr} {es : List Expr} {ρ : RO} {μ : List MO} {pos p : Pos} {R : Cn} {x : Str} {k : Nat} {C : Ctr}
theorem Ev.call (F : Fn X.prog X.w X.K X.mg X.base x k C) (hA : X.A.guards = some []) (hr : Room k X.A) (hg : Gl X x) (h : EvA X (e :: es) ρ μ fun ds μ1 => C ds μ1 R)
    (hdb : (x == ("__debug__" : Str)) = false := by decide) (he : starEach (e :: es) X.env = (false, eval e X.env) :: starEach es X.env := by rfl) (hpl : (backTo pos (starEach es X.env)).any (·.1) = false := by rfl) :
    Ev X (.Call (.Name x p) (e :: es) [] pos) ρ μ R := by
  obtain ⟨f, fd, ps, G, hm, hk, hb⟩ := F
  refine ⟨fun pins s σ H Q I ⟨α, E, q⟩ => wpAny_Call_Name_kw (ld_glob I hg hm ?_ hdb)⟩
  have ha : PA X (e :: es) (tEvA X ρ μ fun ds μ1 => C ds μ1 R) := h
  refine PySem.W.callWith_K (h₀ := X.base) I.ok.mod.kin hk (thn (ha.run pos pins s σ H (fun vs H1 => SpD X.K C vs H1 (fun v H' => Q v H') E0) I ⟨α, E, ?_⟩) ?_) he hpl
  · intro vs ds α1 μ1 H1 c E1 X1 hv
    exact ⟨α1, μ1, ds, R, E1.live, hv, c, fun v d α' μ' H' r l k' hd => q v d α' μ' H' r (E1.ext k' l) (X1.trans k') hd⟩
  · rintro us s1 ⟨vs, H1, I1, rv, sp⟩
    refine ⟨I1.kIn, ?_⟩
    have hl : us.length = ps.length := rv.length ▸ G.len _ _ _ _ sp
    refine wpAny_call (codeAny_mono (G.go X.A X.stack s1 H1 ⟨us, []⟩ us vs Q hA hr I1.env0 ?_ rv sp) fun r s2 hq => ?_)
    · have z := hb s1 us I1.kIn (by rw [List.append_nil]; exact hl)
      rw [List.append_nil] at z
      exact z
    · cases r with
      | error er => exact False.elim hq
      | ok fl =>
        cases fl with
        | ret u => exact I1.after hq
        | next => exact False.elim hq
        | brk => exact False.elim hq
        | cont => exact False.elim hq
end
end Eg

namespace Eg
open PySem PySem.Spec PyProof.Rows L2
/-! ### [e for x in xs] -/
section
variable {X : Cx} {ρ : RO} {μ : List MO} {pos : Pos} {R : Cn}
abbrev blkX (X : Cx) (s : Shared) (H : Hp) (scope : Scope) (C : Addr) (cl : List (Str × Addr)) (fp : List Addr) : Cx := X.blk s H scope (compEnvC scope cl C X.env) fp
def aB (X : Cx) (scope : Scope) (e : Expr) : TE := fun σ H Q => ∃ t, (∀ s H' C cl fp, PE (blkX X s H' scope C cl fp) e t) ∧ t σ H Q
def aBT (X : Cx) (scope : Scope) (ifs : List Expr) : TT := fun σ H Q => ∃ t, (∀ s H' C cl fp, PTs (blkX X s H' scope C cl fp) ifs t) ∧ t σ H Q
/-- the walk of a comprehension by what holds behind j items: I j what is made so far -/
theorem lc_S {elt iter : Expr} {ifs : List Expr} {scope : Scope} {x : Str} {px : Pos} (i : Nat)
    (h : EvI X (.Name x px) iter ρ μ fun ds μ1 => ds.length ≤ sizeLine ∧ ∃ I : Nat → List DV → List MO → Prop, I 0 [] μ1 ∧
      (∀ j d acc μ2, ds[j]? = some d → μ2.length = μ1.length → I j acc μ2 → ∃ tt : RO → List MO → Ct → TT, (∀ s H C cl fp, PTs (blkX X s H scope C cl fp) ifs (tt (ρ.set i (some d)) (μ2 ++ [.lst acc]) fun b μ3 =>
        if b = true then ∀ s H C cl fp, Ev (blkX X s H scope C cl fp) elt (ρ.set i (some d)) μ3 fun y μ5 => ∃ μ4, μ5 = μ4 ++ [.lst acc] ∧ μ4.length = μ1.length ∧ I (j + 1) (acc ++ [y]) μ4
        else ∃ μ4, μ3 = μ4 ++ [.lst acc] ∧ μ4.length = μ1.length ∧ I (j + 1) acc μ4)) ∧ ∀ ρ' μ' Rt σ H Q, tEvT X ρ' μ' Rt σ H Q → tt ρ' μ' Rt σ H Q) ∧
      ∀ acc μ2, μ2.length = μ1.length → I ds.length acc μ2 → R (.lst acc) (μ2 ++ [.dead]))
    (σ : L2.St) (H : Hp) (Q : VK) (q : tEv X ρ μ R σ H Q) : tLc (aI X (.Name x px) iter) (gName i) (aBT X scope ifs) (aB X scope elt) [i] σ H Q := by
  obtain ⟨α, E, q⟩ := q
  refine ⟨_, h, α, E, ?_⟩
  rintro J ds α1 μ1 H1 ⟨hz, I, i0, turn, done⟩ E1 X1 ok D hD
  have hlen : α1.length = μ1.length := E1.live.len
  obtain ⟨kM, lM, eM⟩ := E1.live.layM (o := .lst []) (m := .lst []) hD (fun _ k => ⟨[], upd_same, .nil⟩)
  let P : Nat → Hp → Prop := fun j H' => ∃ acc μ' α', acc.length ≤ j ∧ I j acc μ' ∧ μ'.length = μ1.length ∧ α'[μ1.length]? = some D ∧ Live ⟨X.K, α', μ' ++ [.lst acc], H'⟩ ∧ Kp ⟨X.K, α1, μ1, H1⟩ ⟨X.K, α', μ' ++ [.lst acc], H'⟩
  refine ⟨fun j m H' => m = ds.length - j ∧ j ≤ ds.length ∧ P j H', ⟨ds.length, by simp, Nat.zero_le _, [], μ1, α1 ++ [D], Nat.le_refl _, i0, rfl, eM, lM, kM⟩, ?_⟩
  rintro j m H2 ⟨rfl, hj, acc, μ2, α2, ha, hI, hμ, hα, l2, k2⟩
  obtain ⟨go, stop⟩ := ok α2 _ H2 k2 l2
  have kD : (μ2 ++ [MO.lst acc])[μ1.length]? = some (.lst acc) := by
    rw [List.getElem?_append_right (by omega), hμ, Nat.sub_self]
    rfl
  have setl : ∀ (μ4 : List MO) (m m' : MO), μ4.length = μ1.length → (μ4 ++ [m]).set μ1.length m' = μ4 ++ [m'] := fun μ4 m m' e => by
    rw [← e]
    simp
  by_cases hlt : j < ds.length
  · obtain ⟨g1, g2⟩ := go j ds[j] (by simp [hlt])
    refine .inr ⟨g1, P (j + 1), fun H' p => ⟨ds.length - (j + 1), by omega, rfl, hlt, p⟩, fun y H3 yy => ?_⟩
    obtain ⟨ky, ly, hy⟩ := g2 y H3 yy
    obtain ⟨tt, ht, hm⟩ := turn j ds[j] acc μ2 (by simp [hlt]) hμ hI
    show wipe ((wipe σ [i]).set i (some y)) [i] = wipe σ [i] ∧ _
    refine ⟨by simp [wipe], _, ht, ?_⟩
    have k3 := k2.trans ky
    have E3 : En ⟨X.K, α2, μ2 ++ [.lst acc], H3⟩ ((wipe σ [i]).set i (some y)) (ρ.set i (some ds[j])) := by
      have z := ((E1.ext k3 ly).wipe i).set i hy
      have eρ : (ρ.set i none).set i (some ds[j]) = ρ.set i (some ds[j]) := by simp
      rw [eρ] at z
      exact z
    refine hm _ _ _ _ _ _ ⟨α2, E3, ?_⟩
    intro b α3 μ3 H4 r3 E4 k4
    cases b with
    | false =>
      refine iteF ?_
      obtain ⟨μ4, rfl, h4, hI4⟩ := r3
      exact ⟨acc, μ4, α3, Nat.le_succ_of_le ha, hI4, h4, k4.α _ _ hα, E4.live, k3.trans k4⟩
    | true =>
      refine iteT ⟨tEv X (ρ.set i (some ds[j])) μ3 _, r3, α3, E4, ?_⟩
      rintro v d α5 μ5 H5 ⟨μ4, rfl, h4, hI4⟩ E5 k5 hv
      have hα5 := k5.α _ _ (k4.α _ _ hα)
      have kD5 : (μ4 ++ [MO.lst acc])[μ1.length]? = some (.lst acc) := by
        rw [List.getElem?_append_right (by omega), h4, Nat.sub_self]
        rfl
      obtain ⟨vs, e1, e2⟩ := E5.live.ob _ _ _ hα5 kD5
      have hl := e2.length
      refine ⟨vs, e1, by omega, ?_⟩
      obtain ⟨k6, l6⟩ := E5.live.put (o := .lst (vs ++ [v])) (m := .lst (acc ++ [d])) hα5 kD5 (fun z => nomatch z) fun k => ⟨_, upd_same, HasL.app (k.hasL e2) (.cons (k.has hv) .nil)⟩
      rw [setl _ _ _ h4] at k6 l6
      exact ⟨acc ++ [d], μ4, α5, by rw [List.length_append]; exact Nat.succ_le_succ ha, hI4, h4, hα5, l6, k3.trans (k4.trans (k5.trans k6))⟩
  · have e : j = ds.length := by omega
    subst e
    refine .inl ⟨stop, ?_⟩
    obtain ⟨vs, e1, e2⟩ := l2.ob _ _ _ hα kD
    obtain ⟨k6, l6, nl⟩ := l2.freeze (k := μ1.length)
    rw [setl _ _ _ hμ] at k6 l6 nl
    have k7 := k2.trans k6
    exact q _ _ _ _ _ (done acc μ2 hμ hI) (E1.ext k7 l6) (X1.trans k7) (.lst (.inl ⟨nl _ hα, .inl e1⟩) (k6.hasL e2))
theorem pe_aB {scope : Scope} {e : Expr} (s : Shared) (H : Hp) (C : Addr) (cl : List (Str × Addr)) (fp : List Addr) : PE (blkX X s H scope C cl fp) e (aB X scope e) := ⟨fun pins s' σ H' Q I ⟨_, h, q⟩ => (h s H C cl fp).run pins s' σ H' Q I q⟩
theorem pts_aB {scope : Scope} {ifs : List Expr} (s : Shared) (H : Hp) (C : Addr) (cl : List (Str × Addr)) (fp : List Addr) : PTs (blkX X s H scope C cl fp) ifs (aBT X scope ifs) := ⟨fun pins s' σ H' Q I ⟨_, h, q⟩ => (h s H C cl fp).run pins s' σ H' Q I q⟩
/-- what a comprehension without a test asks -/
def LcOk (X : Cx) (scope : Scope) (elt iter : Expr) (x : Str) (px : Pos) (i : Nat) (ρ : RO) (μ : List MO) (R : Cn) : Prop :=
  EvI X (.Name x px) iter ρ μ fun ds μ1 => ds.length ≤ sizeLine ∧ ∃ I : Nat → List DV → List MO → Prop, I 0 [] μ1 ∧
      (∀ j d acc μ2, ds[j]? = some d → μ2.length = μ1.length → I j acc μ2 → ∀ s H C cl fp, Ev (blkX X s H scope C cl fp) elt (ρ.set i (some d)) (μ2 ++ [.lst acc]) fun y μ5 => ∃ μ4, μ5 = μ4 ++ [.lst acc] ∧ μ4.length = μ1.length ∧ I (j + 1) (acc ++ [y]) μ4) ∧
      ∀ acc μ2, μ2.length = μ1.length → I ds.length acc μ2 → R (.lst acc) (μ2 ++ [.dead])
theorem EvI.mono {tg e : Expr} {Ra Ra' : Ca} (h : EvI X tg e ρ μ Ra) (k : ∀ ds μ', Ra ds μ' → Ra' ds μ') : EvI X tg e ρ μ Ra' :=
  PIw h fun σ H Q ⟨α, E, q⟩ => ⟨α, E, fun J ds α' μ' H' r => q J ds α' μ' H' (k _ _ r)⟩
theorem lc_S0 {elt iter : Expr} {scope : Scope} {x : Str} {px : Pos} {i : Nat} (h : LcOk X scope elt iter x px i ρ μ R) (σ : L2.St) (H : Hp) (Q : VK) (q : tEv X ρ μ R σ H Q) :
    tLc (aI X (.Name x px) iter) (gName i) (aBT X scope []) (aB X scope elt) [i] σ H Q :=
  lc_S i (EvI.mono h fun ds μ1 ⟨hz, I, i0, turn, done⟩ => ⟨hz, I, i0, fun j d acc μ2 h1 h2 h3 => ⟨fun ρ' μ' Rt σ H Q => ∃ α, En ⟨X.K, α, μ', H⟩ σ ρ' ∧ ∀ b α' μ'' H', Rt b μ'' → En ⟨X.K, α', μ'', H'⟩ σ ρ' → Kp ⟨X.K, α, μ', H⟩ ⟨X.K, α', μ'', H'⟩ → Q b H',
    fun s H C cl fp => ⟨fun pins s' σ H' Q' J ⟨α, E, q⟩ => pts_nil.run pins s' σ H' Q' J (q true α _ H' (turn j d acc μ2 h1 h2 h3) E E.live.refl)⟩, fun _ _ _ _ _ _ z => z⟩, done⟩) σ H Q q
theorem Ev.lc {elt iter : Expr} {scope : Scope} {x : Str} {px : Pos} (i : Nat) (hc : X.calm = true) (hN : X.N.Nodup) (hi : X.N[i]? = some x) (ok : BlkOk X.N X.env.scope scope [(x, i)])
    (hl : ∀ (s : Shared) (H : Hp) (C : Addr) (cl : List (Str × Addr)) (fp : List Addr), Loc (blkX X s H scope C cl fp).env.scope x ∧ ((blkX X s H scope C cl fp).fn x = true ∨ (blkX X s H scope C cl fp).env.scope.names.lookup x = some .local))
    (h : LcOk X scope elt iter x px i ρ μ R) (hs : ∀ x, foldedSetIterable iter X.env x = pure x := by intro _; rfl) : Ev X (.ListComp elt [⟨.Name x px, iter, [], 0⟩] scope pos) ρ μ R :=
  PEw (pe_lc (own := [(x, i)]) (g := gName i) hc hN pi_a ok (fun s H C cl fp => pg_name hN hi (hl s H C cl fp).1 (hl s H C cl fp).2) (fun s H C cl fp => pts_aB s H C cl fp) (fun s H C cl fp => pe_aB s H C cl fp) hs) (lc_S0 h)
end
/-! ### a law's end -/
section
variable {P : Program} {w : World} {K : PySem.W.Frag} {mg mb : Str → Option Value} {k : Nat} {fa a : Addr} {fd : FuncData} {x : Str} {sp : Sp} {s₁ : Shared} {vs : List Value} {ns : List Int}
/-- the heap at the call: the script alone is told of, and not that if the text itself holds it -/
theorem law_goG (KX : K.In s₁.heap) (hns : s₁.heap.Ns mainGlobals mg) (hbl : s₁.heap.Ns builtinsNs mb) (hbb : ∀ x : Str, x ≠ "__name__" → mb x = bootBuiltins x) (hlim : s₁.heap.NoLimit) (hgen : s₁.gens = #[])
    (ha : s₁.heap.get? a = some { cls := .type "list", data := .seq vs.toArray }) (hi : IntsAre vs ns) (hl : ns.length ≤ sizeLine) (hr : Room k callerA)
    (F : ∀ base : Heap, K.In base → base.Ns mainGlobals mg → FnG P w K mg base k fa fd [x] sp) (hbind : ∀ (s : Shared) (u : Value), BindsTo s fd ⟨[u], []⟩ [(x, u)])
    (hsp : ∀ H : Hp, ((∀ b, H b = none) ∧ WrL K a (ns.map V.int)) ∨ (∃ o, H = fun b => if b = a then some (.frz o (.lst (ns.map V.int))) else none) → sp [.ref a] H (fun v _ => v = .bl true) E0) :
    codeAny (model P w) callerA (.call (.ref fa) ⟨[.ref a], []⟩) (fun r s' => r = .ok (.ret (.bool true)) ∧ OldK s₁.heap s'.heap ∧ s'.os = s₁.os ∧ AllBare s'.gens) s₁ := by
  have rv := vals_ints hi
  -- whatever H tells: at most of a, and of a as it stands
  have main : ∀ H : Hp, (∀ b, b ≠ a → H b = none) → (∀ u, H a = some u → u = .frz { cls := .type "list", data := .seq vs.toArray } (.lst (ns.map V.int))) → (H a = none ∨ K.lookup a = none) → sp [.ref a] H (fun v _ => v = .bl true) E0 →
      codeAny (model P w) callerA (.call (.ref fa) ⟨[.ref a], []⟩) (fun r s' => r = .ok (.ret (.bool true)) ∧ OldK s₁.heap s'.heap ∧ s'.os = s₁.os ∧ AllBare s'.gens) s₁ := by
    intro H h1 h2 h3 hq
    have ok : HOk P w H s₁.heap := by
      intro b u e
      have eb : b = a := Classical.byContradiction fun z => by
        rw [h1 b z] at e
        cases e
      subst eb
      have eu := h2 u e
      subst eu
      exact ⟨ha, by rw [List.length_map]; exact hl, vs, 0, rv, ha⟩
    have none_of_dict : ∀ {b : Addr} {o : Obj} {es : Array DictEntry} {ep : Nat}, s₁.heap.get? b = some o → o.data = .dict es ep → H b = none := by
      intro b o es ep e d
      refine h1 b fun z => ?_
      rw [z, ha] at e
      have := Option.some.inj e
      subst this
      cases d
    have ns_of : ∀ {b : Addr} {m : Str → Option Value}, s₁.heap.Ns b m → (hidT s₁.heap H).Ns b m := by
      rintro b m ⟨o, es, ep, e, d, r⟩
      exact ⟨o, es, ep, hidT_get e (none_of_dict e d), d, r⟩
    have kin : K.In (hidT s₁.heap H) := by
      intro b o e
      refine hidT_get (KX b o e) ?_
      by_cases z : b = a
      · subst z
        rcases h3 with h3 | h3
        · exact h3
        · rw [h3] at e
          cases e
      · exact h1 b z
    obtain ⟨mc, c1, c2⟩ := hlim
    have env0 : Env0 P w K mg (hidT s₁.heap H) callerA [] s₁ H :=
      ⟨rfl, ⟨kin, ns_of hns, ⟨mb, ns_of hbl, hbb⟩, mc, ns_of c1, c2⟩, fun _ _ e => of_hidT e, Nat.le_of_eq (hidT_size _ _), trivial, fun b z => absurd (show b ∈ ([] : List Addr) from z) List.not_mem_nil, ok, .of_eq hgen⟩
    refine codeAny_mono ((F _ kin (ns_of hns)).go callerA [] s₁ H ⟨[.ref a], []⟩ [.ref a] [.ref a] _ rfl hr env0 (hbind s₁ (.ref a)) (.cons rfl .nil) hq) fun r s' z => ?_
    match r, z with
    | .ok (.ret u), ⟨v, H', os, bare, un, ok', rv', q⟩ =>
      have q' : v = .bl true := q
      subst q'
      have eu : u = Value.bool true := rv'
      subst eu
      refine ⟨rfl, OldK.of_keep fun b o e => ?_, os, bare⟩
      by_cases z : H b = none
      · exact un.keep b o e z (fun y => absurd (show b ∈ ([] : List Addr) from y) List.not_mem_nil) List.not_mem_nil
      · have eb : b = a := Classical.byContradiction fun y => z (h1 b y)
        subst eb
        cases hu : H b with
        | none => exact absurd hu z
        | some u =>
          have eu := h2 u hu
          rw [eu] at hu
          have t := (ok' b _ (un.frzs b _ _ hu)).1
          rw [ha] at e
          cases e
          exact t
    | .ok .next, z => exact z.elim
    | .ok .brk, z => exact z.elim
    | .ok .cont, z => exact z.elim
    | .error e, z => exact z.elim
  cases hk : K.lookup a with
  | none =>
    refine main (fun b => if b = a then some (.frz { cls := .type "list", data := .seq vs.toArray } (.lst (ns.map V.int))) else none) (fun b z => if_neg z) (fun u e => ?_) (.inr hk) (hsp _ (.inr ⟨_, rfl⟩))
    rw [if_pos rfl] at e
    exact (Option.some.inj e).symm
  | some o =>
    have eo : o = { cls := .type "list", data := .seq vs.toArray } := by
      have z := KX a o hk
      rw [ha] at z
      exact (Option.some.inj z).symm
    subst eo
    refine main (fun _ => none) (fun _ _ => rfl) (fun u e => nomatch e) (.inl rfl) (hsp _ (.inl ⟨fun _ => rfl, .inr ⟨_, vs.toArray, 0, hk, rfl, rfl, rfl, ?_, ?_⟩⟩))
    · have e1 := hi.length
      rw [List.size_toArray]
      omega
    · exact rv
end
/-- the script as data -/
def scD (ns : List Int) : DV := .lst (ns.map DV.int)
theorem sc_has {w : Wd} : ∀ ns : List Int, HasL w (ns.map V.int) (ns.map DV.int)
  | [] => .nil
  | _ :: r => .cons .int (sc_has r)
theorem walk_G {l : PySem.W.OpenLaw} {n k : Nat} {q : Program} {loose : List Str} {XP : (Str → Option Value) → Heap → Prop} {YP : World → Heap → Prop} {d : DefRec} {C : Ctr}
    (hn : l.most = some n) (hn2 : n ≤ sizeLine) (hdf : d.params.defaults = []) (hr : Room k callerA)
    (hC : ∀ ns : List Int, ns.length ≤ n → (∀ z ∈ ns, Builtin.Int.intBits z ≤ 1048576) → C [scD ns] [] fun d _ => d = .bl true)
    (F : ∀ (w : World) (mg : Str → Option Value) (fa : Addr) (h : Heap), YP w h → h.Ns mainGlobals mg → mg d.name = some (.ref fa) →
      ∃ (K : PySem.W.Frag) (fd : FuncData) (x : Str), K.In h ∧ (∀ (s : Shared) (u : Value), BindsTo s fd ⟨[u], []⟩ [(x, u)]) ∧ ∀ base : Heap, K.In base → base.Ns mainGlobals mg → FnG l.prog w K mg base k fa fd [x] (SpD K C)) :
    PySem.W.WalkO q loose XP YP l.row.toRowW d [] (fun f vs => PySem.call f vs) := by
  refine Att.attach_callB hn hdf fun w s₀ s₁ mg mb fa o pm cd doc a vs ns G Y ho hd hcd hmg hobj hints hlen hbits hg => ?_
  obtain ⟨K, fd, x, KX, hb, hF⟩ := F w mg fa _ Y G.T.g hmg
  refine law_goG KX G.T.g G.T.b G.T.builtins G.T.nolimit hg hobj hints (Nat.le_trans hlen hn2) hr hF hb fun H hH => ?_
  have l0 : Live ⟨K, [], [], H⟩ := ⟨rfl, List.nodup_nil, fun _ h => absurd h List.not_mem_nil, fun k a o h => by simp at h⟩
  refine ⟨[], [], [scD ns], fun d _ => d = .bl true, l0, .cons (.lst ?_ (sc_has ns)) .nil, hC ns hlen hbits, ?_⟩
  · rcases hH with ⟨_, h⟩ | ⟨o, rfl⟩
    · exact .inr h
    · refine .inl ⟨?_, .inr ⟨o, if_pos rfl⟩⟩
      rintro ⟨k, u, h1, _⟩
      simp at h1
  · rintro v d α' μ' H' rfl _ _ hv
    cases hv
    rfl
end Eg

namespace Eg
open PySem PySem.Spec L2
section
variable {M : Model} {A : Around} {E : Value → Shared → Prop} {h : Heap} {g : Array GenState} {d : Drawn} {t : Nat} {os : OsState}
variable {nm q : Str} {C N : Addr} {bs bm bmB : List Value} {hdct : Bool} {sn : List Str} {sub : List Value} {ab : Bool} {col : Option Bool} {dd : Option Addr} {k0 k1 k2 k3 k5 : Option Value} {B newId initId : String}
theorem chk_call {rest : List Value} {kw : List (Str × Value)} {Q : Unit → Shared → Prop} (hC : h.get? C = some (excClassObj nm q C N bs bm hdct sn sub ab col dd k0 k1 k2 k3 k5 newId)) (hq : Q () ⟨h, g, d, t, os⟩) :
    wpAny M A (checkBuiltinCall "type.__call__" ⟨.ref C :: rest, kw⟩) Q E ⟨h, g, d, t, os⟩ := by
  have sb := tc_sub
  have ty : (⟨h, g, d, t, os⟩ : Shared).TypeIs (.ref C) "type" := ⟨_, hC, rfl⟩
  simp only [checkBuiltinCall, tc_kind, tc_split]
  repeat (any_goals (first | assumption | (with_reducible refine wpAny_loadPart_at hC ?_) | (with_reducible refine wpAny_onRaise ?_) | (with_reducible refine wpAny_map ?_) | wp_step))

/-- the class's own chain holds what its base's holds of types -/
abbrev TyAs (bm bmB : List Value) : Prop := ∀ X : String, bm.contains (.type X) = bmB.contains (.type X)
theorem hasTy {c : Addr} (hT : TyAs bm bmB) {T : String} (h : bmB.contains (.type T) = true) : (Value.ref c :: bm).contains (.type T) = true := by
  rw [List.contains_cons, hT, h, Bool.or_true]
theorem noTy {c : Addr} (hT : TyAs bm bmB) {T : String} (h : bmB.contains (.type T) = false) : (Value.ref c :: bm).contains (.type T) = false := by
  rw [List.contains_cons, hT, h]
  rfl
theorem chk_new (F : ExcBaseFacts B newId initId bmB) (hT : TyAs bm bmB) {rest : List Value} {kw : List (Str × Value)} {Q : Unit → Shared → Prop}
    (hC : h.get? C = some (excClassObj nm q C N bs bm hdct sn sub ab col dd k0 k1 k2 k3 k5 newId)) (hq : Q () ⟨h, g, d, t, os⟩) :
    wpAny M A (checkBuiltinCall newId ⟨.ref C :: rest, kw⟩) Q E ⟨h, g, d, t, os⟩ := by
  have inB := hasTy (c := C) hT F.hasB
  have ns := F.noStar
  simp only [checkBuiltinCall, F.newSplit, F.newKind, F.newRow]
  repeat (first
    | refine wpAny_loadPart_at hC ?_
    | (refine wpAny_isSubtype_exc hC ?_; rw [inB])
    | refine wpAny_staticBase_exc hC ?_
    | refine wpAny_madeBy_exc hC ?_
    | simp only [if_false, Bool.false_eq_true, bne_self_eq_false]
    | wp_step)
  exact hq
end
section
variable {prog : Program} {w : World} {A : Around} {E : Value → Shared → Prop} {R : Result → Shared → Prop} {h : Heap} {g : Array GenState} {d : Drawn} {t : Nat} {os : OsState}
variable {nm q : Str} {C N : Addr} {bs bm bmB : List Value} {hdct : Bool} {sn : List Str} {sub : List Value} {ab : Bool} {col : Option Bool} {dd : Option Addr} {k0 k1 k2 k3 k5 : Option Value} {B newId initId : String}
/-- an exception object just made, its args at t -/
abbrev exO0 (C t : Addr) : Obj := { cls := .ref C, data := .fields #[.ref t, .none, .none, .none, .bool false, .none] }
abbrev made (h : Heap) (C : Addr) (rest : List Value) : Heap := (h.push { cls := .type "tuple", data := .seq rest.toArray }).push (exO0 C h.objs.size)
theorem new_kw (F : ExcBaseFacts B newId initId bmB) (hT : TyAs bm bmB) {rest : List Value} {kw : List (Str × Value)}
    (hC : h.get? C = some (excClassObj nm q C N bs bm hdct sn sub ab col dd k0 k1 k2 k3 k5 newId)) (hz : rest.length ≤ sizeLine)
    (hq : R (.ok (.ret (.ref (h.objs.size + 1)))) ⟨made h C rest, g, d, t, os⟩) : codeAny (model prog w) A (.builtin newId ⟨.ref C :: rest, kw⟩) R ⟨h, g, d, t, os⟩ := by
  have en := F.ends
  have inB := hasTy (c := C) hT F.hasB
  have noA := noTy (c := C) hT F.noAttr
  have noN := noTy (c := C) hT F.noName
  refine codeAny_builtinAt F.entry ?_
  unfold Builtin.«BaseException.__new__»
  refine wpAt_bind ?_
  show wpAt _ _ _ (stack >>= _) _ _ _
  refine wpAt_bind (wpAt_stack fun p below => wpAt_of_wpAny ?_)
  wp_walk
  refine wpAt_of_wpAny ?_
  rw [F.owner]
  repeat (first
    | (with_reducible refine wpAny_madeHere_exc F.canon hC ?_)
    | (with_reducible refine wpAny_loadPart_at hC ?_)
    | (with_reducible refine wpAny_isSubtype_exc hC ?_; first | rw [inB] | rw [noA] | rw [noN])
    | wp_step)
  show R _ _
  rw [Heap.size_push]
  exact hq
/-- type.__call__ of an own exception class with its own __init__ -/
theorem tcall_kw (F : ExcBaseFacts B newId initId bmB) (hT : TyAs bm bmB) {rest : List Value} {kw : List (Str × Value)} {fI : Addr} {Q : Fin → Shared → Prop}
    (hC : h.get? C = some (excClassObj nm q C N bs bm hdct sn sub ab col dd k0 k1 k2 k3 k5 newId)) (hz : rest.length ≤ sizeLine)
    (hi : W.Looks (model prog w) h (typeLookup (.ref C) "__init__") (some (.ref fI))) (hb : ∀ self, W.Looks (model prog w) h (bindSpecial (.ref fI) self) (.ref fI, [self]))
    (hq : codeAny (model prog w) A (.call (.ref fI) ⟨.ref (h.objs.size + 1) :: rest, kw⟩)
      (fun r s' => match r with | .ok (.ret v) => v = .none ∧ Q (.done (.ret (.ref (h.objs.size + 1)))) s' | .ok _ => False | .error e => E e s') ⟨made h C rest, g, d, t, os⟩) :
    wpAny (model prog w) A (Builtin.«type.__call__» ⟨.ref C :: rest, kw⟩) Q E ⟨h, g, d, t, os⟩ := by
  repeat (first | (with_reducible refine wpAny_loadPart_at hC ?_) | (with_reducible refine wpAny_madeBy_exc hC ?_) | wp_step)
  refine codeAny_call_builtin_code (Code.quiet_builtin _ F.quiet) (chk_new F hT hC ?_)
  refine new_kw F hT hC hz ?_
  show wpAny _ _ _ _ _ _
  have k : ∀ b o, h.get? b = some o → (made h C rest).get? b = some o := fun b o e => Heap.get?_push_of_some _ (Heap.get?_push_of_some _ e)
  have hC1 := k _ _ hC
  have there : (made h C rest).get? (h.objs.size + 1) = some (exO0 C h.objs.size) := by heap_get
  have self : (Value.ref C :: bm).contains (.ref C) = true := by simp
  have li := hi.keeps k
  have lb := (hb (.ref (h.objs.size + 1))).keeps k
  unfold isInstance
  repeat (first | (with_reducible refine wpAny_loadPart_at there ?_) | (with_reducible refine wpAny_isSubtype_exc hC1 ?_; rw [self]) | wp_step)
  show wpAny _ _ (typeLookup (.ref C) _) _ _ _
  refine li.at (wpAny_holding (wpAny_bind (lb.at (wpAny_bind ?_))))
  refine wpAny_call (codeAny_mono hq fun r s' z => ?_)
  match r, z with
  | .ok (.ret v), ⟨e, z⟩ =>
    subst e
    first
      | exact wpAny_pure (wpAny_pure z)
      | (wp_walk; exact z)
  | .error e, z => exact z
theorem call_kwE (F : ExcBaseFacts B newId initId bmB) (hT : TyAs bm bmB) {rest : List Value} {kw : List (Str × Value)} {fI : Addr}
    (hC : h.get? C = some (excClassObj nm q C N bs bm hdct sn sub ab col dd k0 k1 k2 k3 k5 newId)) (hz : rest.length ≤ sizeLine)
    (hi : W.Looks (model prog w) h (typeLookup (.ref C) "__init__") (some (.ref fI))) (hb : ∀ self, W.Looks (model prog w) h (bindSpecial (.ref fI) self) (.ref fI, [self]))
    (hq : codeAny (model prog w) (A.under (.builtin "type.__call__" ⟨.ref C :: rest, kw⟩)) (.call (.ref fI) ⟨.ref (h.objs.size + 1) :: rest, kw⟩) (W.InitBack (h.objs.size + 1) R) ⟨made h C rest, g, d, t, os⟩) :
    codeAny (model prog w) A (.call (.ref C) ⟨rest, kw⟩) R ⟨h, g, d, t, os⟩ := by
  have lk := tc_lookup
  have bd := tc_bind (.ref C)
  have ty : (⟨h, g, d, t, os⟩ : Shared).TypeIs (.ref C) "type" := ⟨_, hC, rfl⟩
  refine codeAny_of_tree ?_
  show wpAny _ _ (callAny (.ref C) _) _ _ _
  repeat (any_goals (first | assumption | (with_reducible refine wpAny_loadPart_at hC ?_) | wp_step))
  refine ⟨rfl, codeAny_call_builtin_at (Code.quiet_builtin _ (by decide +kernel)) entry_typeCall (chk_call hC (tcall_kw F hT hC hz hi hb ?_))⟩
  refine codeAny_mono hq fun r s' z => ?_
  rcases r with e | (v | _ | _ | _) <;> exact z
end
end Eg

namespace Eg
open PySem PySem.Spec L2
mutual
def toPy : DV → Option PyData
  | .non => some .none
  | .bl b => some (.bool b)
  | .int i => some (.int i)
  | .str x => some (.str x)
  | .tup xs => (toPyL xs).map .tuple
  | .lst xs => (toPyL xs).map .list
  | .dic [] => some (.dict [])
  | .dic (_ :: _) => none
  | .exc _ _ => none
  | .mu _ => none
  | .rg _ _ => none
  | .fn _ => none
def toPyL : List DV → Option (List PyData)
  | [] => some []
  | x :: r => (toPy x).bind fun d => (toPyL r).map fun ds => d :: ds
end
section
variable {X : Cx} {pins : List (Addr × Obj)} {σ : L2.St} {α : List Addr} {μ : List MO} {H : Hp} {s : Shared}
mutual
theorem rd_of (I : Inv X pins σ H s) (hB : ∃ mm, X.base.Ns sysModules mm) : ∀ {v : V} {u : Value} {d : DV} {pd : PyData}, Has ⟨X.K, α, μ, H⟩ v d → RelV v u → toPy d = some pd → ∃ as, Reads s.heap u pd as ∧ sysModules ∉ as
  | _, _, _, _, .non, r, e => by cases e; cases r; exact ⟨_, .none, List.not_mem_nil⟩
  | _, _, _, _, .bl, r, e => by cases e; cases r; exact ⟨_, .bool _, List.not_mem_nil⟩
  | _, _, _, _, .int, r, e => by cases e; obtain ⟨t, rfl⟩ := r; exact ⟨_, .int _ _, List.not_mem_nil⟩
  | _, _, _, _, .str, r, e => by cases e; obtain ⟨t, rfl⟩ := r; exact ⟨_, .str _ _, List.not_mem_nil⟩
  | _, _, _, _, .tup h t, r, e => by
    have er : _ = Value.ref _ := r
    subst er
    obtain ⟨ds, e1, e2⟩ := Option.map_eq_some_iff.mp e
    subst e2
    obtain ⟨its, rv, ⟨o, ho, hc, n, hd⟩, _⟩ := I.tuple h
    obtain ⟨as, q1, q2⟩ := rdL_of I hB t rv e1
    exact ⟨as, .tuple ho hc hd (by simpa using q1), q2⟩
  | _, _, _, _, @Has.lst _ p vs0 _ h t, r, e => by
    have er : _ = Value.ref _ := r
    subst er
    obtain ⟨ds, e1, e2⟩ := Option.map_eq_some_iff.mp e
    subst e2
    have sq : SqL X.K H p vs0 := by
      rcases h with ⟨_, h⟩ | h
      · exact .inl h
      · exact h.sq
    obtain ⟨its, rv, ⟨o, n, ho, hc, _, hd⟩, _⟩ := I.list sq
    obtain ⟨as, q1, q2⟩ := rdL_of I hB t rv e1
    refine ⟨p :: as, .list ho hc hd (by simpa using q1), fun z => ?_⟩
    rcases List.mem_cons.mp z with z | z
    · obtain ⟨mm, od, es, ep, z1, z2, _⟩ := hB
      have z3 := (I.bs _ _ z1).1
      rw [z, ho] at z3
      cases z3
      rw [hd] at z2
      cases z2
    · exact q2 z
  | _, _, _, _, @Has.dic _ p kvs kds _ h t, r, e => by
    have er : _ = Value.ref _ := r
    subst er
    cases t with
    | cons _ _ => cases e
    | nil =>
      cases e
      obtain ⟨_, ns, vs, kv, o, es, ep, ho, hx, hd, _, he, _⟩ := I.hok p _ h
      cases kv
      have hes : es.toList = [] := by
        generalize hz : es.toList = l at he
        cases he
        rfl
      refine ⟨p :: [] ++ [], .dict ho hx.1 hd (by rw [hes]; exact .nil) (by rw [hes]; exact .nil), fun z => ?_⟩
      have z' : sysModules = p := by simpa using z
      rw [← z'] at ns
      exact absurd ns (by decide)
  | _, _, _, _, .exc _ _ _, _, e => by cases e
  | _, _, _, _, .exc0 _, _, e => by cases e
  | _, _, _, _, .mu _, _, e => by cases e
  | _, _, _, _, .rg _, _, e => by cases e
  | _, _, _, _, .fn _, _, e => by cases e
theorem rdL_of (I : Inv X pins σ H s) (hB : ∃ mm, X.base.Ns sysModules mm) : ∀ {vs : List V} {us : List Value} {ds : List DV} {pds : List PyData}, HasL ⟨X.K, α, μ, H⟩ vs ds → Vals vs us → toPyL ds = some pds → ∃ as, ReadsAll s.heap us pds as ∧ sysModules ∉ as
  | _, _, _, _, .nil, r, e => by cases e; cases r; exact ⟨_, .nil, List.not_mem_nil⟩
  | _, _, _, _, .cons h t, r, e => by
    obtain ⟨d, e1, e2⟩ := Option.bind_eq_some_iff.mp e
    obtain ⟨ds, e3, e4⟩ := Option.map_eq_some_iff.mp e2
    subst e4
    cases r with
    | cons r1 r2 =>
      obtain ⟨as, q1, n1⟩ := rd_of I hB h r1 e1
      obtain ⟨bs, q2, n2⟩ := rdL_of I hB t r2 e3
      exact ⟨as ++ bs, .cons q1 q2, fun z => (List.mem_append.mp z).elim n1 n2⟩
end
end
section
variable {X : Cx} {e : Expr} {ρ : RO} {μ : List MO} {pos p : Pos} {R : Cn}
/-- repr of a list or tuple of data that nobody changes -/
def sRepr : SA := fun ds μ R => ∃ d pd, ds = [d] ∧ ((∃ xs, d = .lst xs) ∨ ∃ xs, d = .tup xs) ∧ toPy d = some pd ∧ pd.showable = true ∧ pd.depth ≤ 100 ∧ pd.shown.length ≤ sizeLine ∧ R (.str pd.shown) μ
theorem Ev.repr (hA : X.A.guards = some []) (hu : X.A.units + 200 < cLine) (hB : ∃ mm, X.base.Ns sysModules mm) (hg : Gl X "repr") (hm : X.mg "repr" = none) (h : EvA X [e] ρ μ fun ds μ1 => sRepr ds μ1 R) (he : starEach [e] X.env = (false, eval e X.env) :: starEach [] X.env := by rfl) :
    Ev X (.Call (.Name "repr" p) [e] [] pos) ρ μ R := by
  refine ⟨fun pins s σ H Q I ⟨α, E, q⟩ => ?_⟩
  refine wpAny_Call_Name_kw (ld_blt I hg hm PyProof.Rows.boot_repr ?_ (by decide) (by decide))
  have ha : PA X [e] (tEvA X ρ μ fun ds μ1 => sRepr ds μ1 R) := h
  refine PyProof.Rows.callWith_builtin1 (thn (ha.run pos pins s σ H (fun vs H1 => ∃ α1 μ1 ds, sRepr ds μ1 R ∧ En ⟨X.K, α1, μ1, H1⟩ σ ρ ∧ Kp ⟨X.K, α, μ, H⟩ ⟨X.K, α1, μ1, H1⟩ ∧ HasL ⟨X.K, α1, μ1, H1⟩ vs ds) I ⟨α, E, fun vs ds α1 μ1 H1 c E1 X1 hv => ⟨α1, μ1, ds, c, E1, X1, hv⟩⟩) ?_) he rfl
  rintro us s1 ⟨vs, H1, I1, rv, α1, μ1, ds, ⟨d, pd, rfl, hk, e1, h1, h2, h3, r⟩, E1, X1, hv⟩
  obtain ⟨v, rfl, hw⟩ := hasL1 hv
  clear hv
  have hv := hw
  obtain ⟨u, rfl, ru⟩ := vals1 rv
  have isref : ∃ a, u = Value.ref a := by
    rcases hk with ⟨xs, rfl⟩ | ⟨xs, rfl⟩
    · cases hv with
      | lst _ _ => exact ⟨_, ru⟩
    · cases hv with
      | tup _ _ => exact ⟨_, ru⟩
  obtain ⟨a, rfl⟩ := isref
  obtain ⟨as, rd, ns⟩ := rd_of I1 hB hv ru e1
  refine PySem.repr_of_reads' rd h1 (fun _ => ns) hA (by omega) (fun _ _ z => z) (fun h' t tk k => ?_) h3
  exact ⟨.str pd.shown, H1, I1.kept k, ⟨_, rfl⟩, q _ _ α1 μ1 H1 r E1 X1 .str⟩
end
end Eg

namespace Eg
open PySem PySem.Spec L2
/-! ### keywords -/
section
variable {X : Cx} {e : Expr} {es : List Expr} {kws : List Keyword} {ρ : RO} {μ : List MO} {pos p kpos : Pos} {R : Cn} {nmO : Option Str}
def EvK (X : Cx) (ks : List Keyword) (ρ : RO) (μ : List MO) (R : Ca) : Prop := PK X ks (tEvA X ρ μ R)
def aK (X : Cx) (ks : List Keyword) : TA := fun σ H Q => ∃ t, PK X ks t ∧ t σ H Q
theorem pk_a {ks : List Keyword} : PK X ks (aK X ks) := ⟨fun pos pins s σ H Q I ⟨_, h, q⟩ => h.run pos pins s σ H Q I q⟩
theorem PKw {ks : List Keyword} {t t' : TA} (h : PK X ks t) (k : ∀ σ H Q, t' σ H Q → t σ H Q) : PK X ks t' := ⟨fun pos pins s σ H Q I q => h.run pos pins s σ H Q I (k σ H Q q)⟩
theorem EvK.nil {R : Ca} (h : R [] μ) : EvK X [] ρ μ R := PKw pk_nil fun σ H Q ⟨α, E, q⟩ => q [] [] α μ H h E E.live.refl .nil
theorem EvK.cons {R : Ca} (h : Ev X e ρ μ fun d μ1 => EvK X kws ρ μ1 fun ds μ2 => R (d :: ds) μ2) : EvK X (⟨nmO, e, kpos⟩ :: kws) ρ μ R :=
  PKw (pk_cons pe_a pk_a) fun σ H Q ⟨α, E, q⟩ => ⟨_, h, α, E, fun v d α1 μ1 H1 h1 E1 X1 hv => ⟨_, h1, α1, E1, fun vs ds α2 μ2 H2 h2 E2 X2 hvs => q _ _ α2 μ2 H2 h2 E2 (X1.trans X2) (.cons (X2.has hv) hvs)⟩⟩
end
/-! ### own exceptions as values -/
/-- __init__(self, ..) that stores: fl: what stands in the dict behind it -/
def spI (C : Addr) (n : Nat) (fl : List V → List (Str × V)) : Sp := fun vs H Q _ => ∃ a ys, vs = .ref a :: ys ∧ ys.length = n ∧ H a = some (exo a C none) ∧
  ∀ d H', H d = none → H' a = some (exo a C (some d)) → H' d = some (exd d (fl ys)) → (∀ b, H b ≠ none → b ≠ a → H' b = H b) → Q .non H'
/-- the class x of the text, at C: made by its own __init__ of n arguments besides self -/
structure XI (P : Program) (w : World) (K : PySem.W.Frag) (mg : Str → Option Value) (base : Heap) (x : Str) (C : Addr) (k n : Nat) (fl : List V → List (Str × V)) (ks : List Str) (perm : List Value → List Value) : Prop where
  gC : mg x = some (.ref C)
  oc : OexC K C
  ini : ∃ fI fd ps, ps.length = n + 1 ∧ PySem.W.findIn K (.ref C) "__init__" = some (some (.ref fI)) ∧ PySem.W.typeIn K (.ref fI) = some (.type "function") ∧ FnG P w K mg base k fI fd ps (spI C n fl) ∧
    (∀ (s : Shared) (us : List Value), us.length = ps.length → BindsTo s fd ⟨us, []⟩ (ps.zip us)) ∧
    ∀ (s : Shared) (u : Value) (us : List Value), us.length = n → BindsTo s fd ⟨[u], ks.zip us⟩ (ps.zip (u :: perm us))
theorem guards_call {A : Around} {args : Args} (h : A.guards = some []) : (A.under (.builtin "type.__call__" args)).guards = some [] := by
  have e : (Code.builtin "type.__call__" args).isGuard = false := by
    show guardIds.contains "type.__call__" = false
    decide +kernel
  simp [Around.under, Code.guards, e, pushGuards, h]
section
variable {X : Cx} {e : Expr} {es : List Expr} {kws : List Keyword} {ρ : RO} {μ : List MO} {pos p : Pos} {R : Cn} {x : Str} {k n : Nat} {C : Addr} {fl : List V → List (Str × V)} {ks : List Str} {perm : List Value → List Value}
/-- the call, the arguments being there -/
theorem make_E {pins : List (Addr × Obj)} {s : Shared} {σ : L2.St} {H : Hp} {Q : VK} {us rest : List Value} {kw : List (Str × Value)} {ys : List V} (oc : OexC X.K C) {fI : Addr} {fd : FuncData} {ps : List Str}
    (iC : PySem.W.findIn X.K (.ref C) "__init__" = some (some (.ref fI))) (tI : PySem.W.typeIn X.K (.ref fI) = some (.type "function")) (G : FnG X.prog X.w X.K X.mg X.base k fI fd ps (spI C n fl))
    (hA : X.A.guards = some []) (hr : Room (k + 1) X.A) (I : Inv X pins σ H s) (hz : rest.length ≤ sizeLine) (hb : ∀ s u, BindsTo s fd ⟨u :: rest, kw⟩ (ps.zip (u :: us))) (hn : ys.length = n) (rv : Vals ys us)
    (q : ∀ a d H', H a = none → H d = none → H' a = some (exo a C (some d)) → H' d = some (exd d (fl ys)) → (∀ b, H b ≠ none → H' b = H b) → Q (.ref a) H') :
    wpAny (model X.prog X.w) X.A (PySem.call (.ref C) rest kw) (EP X pins σ Q) X.xe s := by
  obtain ⟨nm, qn, N, bs, bm, sn, sub, ab, col, dd, k0, k1, k2, k3, k5, hC, hbm⟩ := oc.cls
  obtain ⟨hp, g, dr, tk, os⟩ := s
  have nw : H (hp.objs.size + 1) = none := I.hok.fresh (Nat.le_succ _)
  have kk : ∀ b o, hp.get? b = some o → (made hp C rest).get? b = some o := fun b o z => Heap.get?_push_of_some _ (Heap.get?_push_of_some _ z)
  have there : (made hp C rest).get? (hp.objs.size + 1) = some (exO0 C hp.objs.size) := by heap_get
  have I2 : Inv X pins σ (upd H (hp.objs.size + 1) (exo (hp.objs.size + 1) C none)) ⟨made hp C rest, g, dr, tk, os⟩ :=
    I.laid (t' := tk) (h' := made hp C rest) kk (Nat.le_succ _) (exo_ok there)
  have hsp : spI C n fl (.ref (hp.objs.size + 1) :: ys) (upd H (hp.objs.size + 1) (exo (hp.objs.size + 1) C none)) (fun v H2 => v = .non ∧ Q (.ref (hp.objs.size + 1)) H2) E0 := by
    refine ⟨_, ys, rfl, hn, upd_same, fun d H' h1 h2 h3 h4 => ⟨rfl, ?_⟩⟩
    have nd : d ≠ hp.objs.size + 1 := fun z => by
      rw [z, upd_same] at h1
      cases h1
    rw [upd_ne nd] at h1
    refine q _ d H' nw h1 h2 h3 fun b hb => ?_
    have nb : b ≠ hp.objs.size + 1 := fun z => hb (by rw [z]; exact nw)
    rw [h4 b (by rw [upd_ne nb]; exact hb) nb, upd_ne nb]
  refine wpAny_call (call_kwE F.excBase_ValueError (fun Y => PySem.HandSPX.refsVE_contains Y bm hbm) (I.kIn _ _ hC) hz (PySem.W.looks_findIn I.kIn iC) (fun self => PySem.W.bind_fn I.kIn self tI) ?_)
  refine codeAny_mono (G.go _ X.stack _ _ ⟨Value.ref (hp.objs.size + 1) :: rest, kw⟩ (Value.ref (hp.objs.size + 1) :: us) _ _ (guards_call hA) (hr.make C rest kw) (I2.env0.make C rest kw) (hb _ _) (Paired.cons (a := V.ref (hp.objs.size + 1)) (b := Value.ref (hp.objs.size + 1)) rfl rv) hsp) fun r s' hq => ?_
  match r, hq with
  | .ok (.ret u), hq =>
    obtain ⟨v, H', J, rr, ev, q'⟩ := I2.after hq
    have eu : u = Value.none := by
      subst ev
      exact rr
    exact ⟨eu, .ref _, H', J, rfl, q'⟩
  | .ok .next, z => exact False.elim z
  | .ok .brk, z => exact False.elim z
  | .ok .cont, z => exact False.elim z
  | .error _, z => exact False.elim z
/-- what is then to be shown, of the data ds of the arguments in the parameters' order -/
theorem made_ok {α1 : List Addr} {μ1 : List MO} {H1 : Hp} {σ : L2.St} {Q : VK} {ys : List V} {ds : List DV} {fd : List (Str × DV)} (E1 : En ⟨X.K, α1, μ1, H1⟩ σ ρ) (hv : HasL ⟨X.K, α1, μ1, H1⟩ ys ds)
    (hf : ∀ w, HasL w ys ds → HasF w (fl ys) fd) (q : Stp X ρ ⟨X.K, α1, μ1, H1⟩ σ R Q) (hR : R (.exc C fd) μ1) (a d : Addr) (H' : Hp) (_ : H1 a = none) (_ : H1 d = none) (h1 : H' a = some (exo a C (some d))) (h2 : H' d = some (exd d (fl ys))) (h3 : ∀ b, H1 b ≠ none → H' b = H1 b) : Q (.ref a) H' := by
  obtain ⟨k, l⟩ := E1.live.lays h3
  exact q _ _ α1 μ1 H' hR (E1.ext k l) k (.exc h1 h2 (hf _ (k.hasL hv)))
/-- X(e, ..) -/
theorem Ev.mkE {fdf : List DV → List (Str × DV)} (T : XI X.prog X.w X.K X.mg X.base x C k n fl ks perm) (hA : X.A.guards = some []) (hr : Room (k + 1) X.A) (hg : Gl X x) (hf : ∀ ys ds w, HasL w ys ds → ys.length = n → HasF w (fl ys) (fdf ds)) (h0 : n ≤ 1000)
    (h : EvA X (e :: es) ρ μ fun ds μ1 => ds.length = n ∧ R (.exc C (fdf ds)) μ1)
    (hdb : (x == ("__debug__" : Str)) = false := by decide) (he : starEach (e :: es) X.env = (false, eval e X.env) :: starEach es X.env := by rfl) (hpl : (backTo pos (starEach es X.env)).any (·.1) = false := by rfl) :
    Ev X (.Call (.Name x p) (e :: es) [] pos) ρ μ R := by
  obtain ⟨gC, oc, fI, fd, ps, hps, iC, tI, G, hb, _⟩ := T
  refine ⟨fun pins s σ H Q I ⟨α, E, q⟩ => wpAny_Call_Name_kw (ld_glob I hg gC ?_ hdb)⟩
  have ha : PA X (e :: es) (tEvA X ρ μ fun ds μ1 => ds.length = n ∧ R (.exc C (fdf ds)) μ1) := h
  refine PySem.W.callWith_K (h₀ := X.base) I.ok.mod.kin oc.kC (thn (ha.run pos pins s σ H (fun vs H1 => ∃ α1 μ1 ds, (ds.length = n ∧ R (.exc C (fdf ds)) μ1) ∧ En ⟨X.K, α1, μ1, H1⟩ σ ρ ∧ Kp ⟨X.K, α, μ, H⟩ ⟨X.K, α1, μ1, H1⟩ ∧ HasL ⟨X.K, α1, μ1, H1⟩ vs ds) I
    ⟨α, E, fun vs ds α1 μ1 H1 c E1 X1 hv => ⟨α1, μ1, ds, c, E1, X1, hv⟩⟩) ?_) he hpl
  rintro us s1 ⟨vs, H1, I1, rv, α1, μ1, ds, ⟨hn, r⟩, E1, X1, hv⟩
  refine ⟨I1.kIn, ?_⟩
  have hl : vs.length = n := hv.length.trans hn
  have hu : us.length = n := rv.length.symm.trans hl
  refine make_E (us := us) (rest := us) (kw := []) (ys := vs) oc iC tI G hA hr I1 (by rw [hu, PySem.sizeLine_eq]; omega) (fun s' u => hb s' (u :: us) (by rw [List.length_cons, hu, hps])) hl rv fun a d H' z1 z2 z3 z4 z5 => ?_
  exact made_ok (fd := fdf ds) E1 hv (fun w hw => hf _ _ w hw hl) (fun v d' α' μ' H'' r' E' k' hv' => q v d' α' μ' H'' r' E' (X1.trans k') hv') r a d H' z1 z2 z3 z4 z5
/-- X(f = e, ..) -/
theorem Ev.mkEK {fdf : List DV → List (Str × DV)} (T : XI X.prog X.w X.K X.mg X.base x C k n fl ks perm) (hA : X.A.guards = some []) (hr : Room (k + 1) X.A) (hg : Gl X x) (permV : List V → List V) (permD : List DV → List DV)
    (hp1 : ∀ vs us, Vals vs us → vs.length = n → Vals (permV vs) (perm us) ∧ (permV vs).length = n) (hp2 : ∀ w vs ds, HasL w vs ds → vs.length = n → HasL w (permV vs) (permD ds))
    (hf : ∀ ys ds w, HasL w ys ds → ys.length = n → HasF w (fl ys) (fdf ds))
    (h : EvK X kws ρ μ fun ds μ1 => ds.length = n ∧ R (.exc C (fdf (permD ds))) μ1) (hall : (backToKw pos (keywordEach kws X.env)).all (·.1.isSome) = true := by rfl) (hks : (backToKw pos (keywordEach kws X.env)).filterMap (·.1) = ks := by rfl)
    (hpl : ((backTo pos (starEach [] X.env)).any (·.1) || (backToKw pos (keywordEach kws X.env)).any (·.1.isNone)) = false := by rfl) (hdb : (x == ("__debug__" : Str)) = false := by decide) :
    Ev X (.Call (.Name x p) [] kws pos) ρ μ R := by
  obtain ⟨gC, oc, fI, fd, ps, hps, iC, tI, G, _, hb⟩ := T
  refine ⟨fun pins s σ H Q I ⟨α, E, q⟩ => wpAny_Call_Name_kw (ld_glob I hg gC ?_ hdb)⟩
  have ha : PK X kws (tEvA X ρ μ fun ds μ1 => ds.length = n ∧ R (.exc C (fdf (permD ds))) μ1) := h
  refine PySem.W.callWith_KW0 (h₀ := X.base) I.ok.mod.kin oc.kC hall (thn (ha.run pos pins s σ H (fun vs H1 => ∃ α1 μ1 ds, (ds.length = n ∧ R (.exc C (fdf (permD ds))) μ1) ∧ En ⟨X.K, α1, μ1, H1⟩ σ ρ ∧ Kp ⟨X.K, α, μ, H⟩ ⟨X.K, α1, μ1, H1⟩ ∧ HasL ⟨X.K, α1, μ1, H1⟩ vs ds) I
    ⟨α, E, fun vs ds α1 μ1 H1 c E1 X1 hv => ⟨α1, μ1, ds, c, E1, X1, hv⟩⟩) ?_) hpl
  rintro us s1 ⟨vs, H1, I1, rv, α1, μ1, ds, ⟨hn, r⟩, E1, X1, hv⟩
  refine ⟨I1.kIn, ?_⟩
  rw [hks]
  have hl : vs.length = n := hv.length.trans hn
  have hu : us.length = n := rv.length.symm.trans hl
  obtain ⟨pv, pl⟩ := hp1 vs us rv hl
  show wpAny _ _ (PySem.call (.ref C) [] (ks.zip us)) _ _ s1
  refine make_E (us := perm us) (rest := []) (kw := ks.zip us) (ys := permV vs) oc iC tI G hA hr I1 (Nat.zero_le _) (fun s' u => hb s' u us hu) pl pv fun a d H' z1 z2 z3 z4 z5 => ?_
  exact made_ok (fd := fdf (permD ds)) E1 (hp2 _ _ _ hv hl) (fun w hw => hf _ _ w hw pl) (fun v d' α' μ' H'' r' E' k' hv' => q v d' α' μ' H'' r' E' (X1.trans k') hv') r a d H' z1 z2 z3 z4 z5
/-- X() of a class without own __init__ -/
theorem Ev.mkE0 {bmB : List Value} {B newId initId : String} (F : ExcBaseFacts B newId initId bmB) (qx : PySem.W.excIn X.K C bmB newId = true) (gC : X.mg x = some (.ref C)) (kC : PySem.W.keepIn X.K (.ref C) = true) (hg : Gl X x)
    (h : R (.exc C []) μ) (hdb : (x == ("__debug__" : Str)) = false := by decide) : Ev X (.Call (.Name x p) [] [] pos) ρ μ R := by
  refine ⟨fun pins s σ H Q I ⟨α, E, q⟩ => wpAny_Call_Name_kw (ld_glob I hg gC ?_ hdb)⟩
  refine PySem.W.callWith_K0 I.kIn kC ?_
  obtain ⟨bm, N, nm, qn, bs, hdct, sn, sub, ab, col, dd, k0, k1, k2, k3, k5, mN, hC, hN, hni, T⟩ := exc_obj I.kIn qx
  refine wpAny_call_exc_subT F T hC hN hni (fun h' a hm => ?_) (Nat.zero_le _)
  have hn : H a = none := I.hok.gone hm.new
  obtain ⟨t, ht, _, _⟩ := hm.there
  obtain ⟨k, l⟩ := E.live.lay (o := ExO (.ref C) a) hn
  exact ⟨.ref a, upd H a (ExO (.ref C) a), I.laidN hm.keeps hm.new hn (exO_ok ht ⟨rfl, rfl⟩ rfl rfl rfl (show 4 < 6 by decide)), rfl, q _ _ α μ _ h (E.ext k l) k (.exc0 upd_same)⟩
/-! ### e.f, isinstance(e, T) -/
/-- what an own exception class says of its instances -/
structure XC (K : PySem.W.Frag) (C : Addr) : Prop where
  cl : (PySem.W.clsIn K C).isSome = true
  ga : PySem.W.findIn K (.ref C) "__getattribute__" = some (some (.builtin "BaseException.__getattribute__"))
  gg : PySem.W.findIn K (.ref C) "__getattr__" = some none
  sb : PySem.W.subIn K (.ref C) (.type "BaseException") = some true
  hd : PySem.W.hasDictIn K C = true
  ca : PySem.W.findIn K (.ref C) "__class__" = some (some (.builtin "object.__class__"))
  sp : PySem.W.specialIn K (.builtin "object.__class__") "__get__" = some (some (.builtin "getset_descriptor.__get__"))
  tk : PySem.W.takesIn K (.builtin "object.__class__") = some true
  mr : PySem.W.mroIn K C (.type "object") = some true
theorem hasF_look {w : Wd} {f : Str} {d : DV} : ∀ {fs : List (Str × V)} {ds : List (Str × DV)}, HasF w fs ds → ds.lookup f = some d → ∃ v, fs.lookup f = some v ∧ Has w v d
  | _, _, .nil, e => by cases e
  | _, _, .cons (k := g) h t, e => by
    by_cases c : f = g
    · subst c
      simp only [List.lookup, beq_self_eq_true] at e ⊢
      cases e
      exact ⟨_, rfl, h⟩
    · have c' : (f == g) = false := by simpa using c
      simp only [List.lookup, c'] at e ⊢
      exact hasF_look t e
end
section
variable {X : Cx} {e : Expr} {ρ : RO} {μ : List MO} {pos p py : Pos} {R : Cn} {f : Str}
/-- e.f of an own exception -/
theorem Ev.attrE (h : Ev X e ρ μ fun d μ1 => ∃ C fs v, d = .exc C fs ∧ XC X.K C ∧ PySem.W.findIn X.K (.ref C) f = some none ∧ fs.lookup f = some v ∧ R v μ1)
    (hb : attributeBase e f X.env (eval e X.env) = eval e X.env := by rfl) : Ev X (.Attribute e f pos) ρ μ R := by
  refine ⟨fun pins s σ H Q I ⟨α, E, q⟩ => attr_of hb (thn (h.run pins s σ H (fun v H1 => ∃ α1 μ1 d, (∃ C fs v, d = .exc C fs ∧ XC X.K C ∧ PySem.W.findIn X.K (.ref C) f = some none ∧ fs.lookup f = some v ∧ R v μ1) ∧ En ⟨X.K, α1, μ1, H1⟩ σ ρ ∧ Kp ⟨X.K, α, μ, H⟩ ⟨X.K, α1, μ1, H1⟩ ∧ Has ⟨X.K, α1, μ1, H1⟩ v d) I
    ⟨α, E, fun v d α1 μ1 H1 c E1 X1 hv => ⟨α1, μ1, d, c, E1, X1, hv⟩⟩) ?_)⟩
  rintro u s1 ⟨v, H1, I1, rv, α1, μ1, d, ⟨C, fs, y, rfl, T, hno, hl, r⟩, E1, X1, hv⟩
  cases hv with
  | exc0 _ => cases hl
  | @exc a _ dd ws _ h1 h2 hf =>
    have eu : u = Value.ref a := rv
    subst eu
    obtain ⟨t1, ho⟩ := exo_at I1.hok h1
    obtain ⟨mA, hns, rel⟩ := exd_at I1.hok h2
    obtain ⟨od, hod, hlk⟩ := lookIn_ns hns
    obtain ⟨z, hz, hy⟩ := hasF_look hf hl
    obtain ⟨u', hu', ru⟩ := RelO.some_of (v := z) (o := mA f) (by rw [← hz]; exact rel f)
    have J : PySem.W.InstAt s1.heap a _ C (some od) := ⟨ho, rfl, rfl, hod⟩
    exact HandSPX.exc_get I1.kIn J T.ga T.gg T.sb (PySem.W.findObj_own T.hd hno rfl (by rw [hlk, hu'])) (handed_of ru) ⟨z, H1, I1.tok _, ru, q _ _ α1 μ1 H1 r E1 X1 hy⟩
/-- an own exception of the class at C stands at a -/
def ExAt (H : Hp) (a C : Addr) : Prop := (∃ d fs, H a = some (exo a C (some d)) ∧ H d = some (exd d fs)) ∨ H a = some (ExO (.ref C) a)
theorem exAt_inst {pins : List (Addr × Obj)} {σ : L2.St} {H : Hp} {s : Shared} {a C : Addr} (I : Inv X pins σ H s) (h : ExAt H a C) : ∃ ox od, PySem.W.InstAt s.heap a ox C od := by
  rcases h with ⟨d, fs, h1, h2⟩ | h
  · obtain ⟨t1, ho⟩ := exo_at I.hok h1
    obtain ⟨mA, ⟨od, es, ep, hod, _⟩, rel⟩ := exd_at I.hok h2
    exact ⟨_, some od, ho, rfl, rfl, hod⟩
  · obtain ⟨⟨oe, vs, ho, hz, hd, _⟩, _, _⟩ := I.hok a _ h
    obtain ⟨oc, odd, oda, osl⟩ := oe
    obtain ⟨e1, e2⟩ := hz
    dsimp only at e1 e2 hd
    subst e1 e2 hd
    exact ⟨_, none, ho, rfl, rfl, trivial⟩
def rIsX (K : PySem.W.Frag) : List V → Hp → VK → Prop := fun xs H Q => ∃ a C c cv b, xs = [.ref a, c] ∧ ExAt H a C ∧ XC K C ∧ (∀ u, RelV c u → u = cv) ∧ PySem.W.kitOne K (.ref C) cv = some b ∧ Q (.bl b) H
theorem call_isX : CallR X (.builtin "isinstance") (rIsX X.K) := by
  intro pins s σ H xs us Q I r h
  obtain ⟨a, C, c, cv, b, rfl, ex, T, hc, hk, q⟩ := h
  obtain ⟨u, u', rfl, r1, r2⟩ := vals2 r
  have e1 : u = Value.ref a := r1
  have e2 := hc _ r2
  subst e1 e2
  obtain ⟨ox, od, J⟩ := exAt_inst I ex
  exact PySem.W.kia_one (PySem.W.kitx_exc T.cl T.ga T.gg T.sb T.ca T.sp T.tk T.mr) I.kIn J hk (fun z => nomatch z) fun tk => ⟨.bl b, H, I.kept (t' := tk) fun _ _ z => z, rfl, q⟩
theorem exAt_of {w : Wd} {v : V} {C : Addr} {fs : List (Str × DV)} (h : Has w v (.exc C fs)) : ∃ a, v = .ref a ∧ ExAt w.H a C := by
  cases h with
  | exc h1 h2 _ => exact ⟨_, rfl, .inl ⟨_, _, h1, h2⟩⟩
  | exc0 h1 => exact ⟨_, rfl, .inr h1⟩
/-- isinstance(e, y), y a class: own or built in -/
theorem Ev.isE {y : Str} {c : V} {cv : Value} (hg : Gl X "isinstance") (hm : X.mg "isinstance" = none) (hy : PE X (.Name y py) (tC c)) (hcv : ∀ u, RelV c u → u = cv)
    (h : Ev X e ρ μ fun d μ1 => ∃ C fs b, d = .exc C fs ∧ XC X.K C ∧ PySem.W.kitOne X.K (.ref C) cv = some b ∧ R (.bl b) μ1)
    (he : starEach [e, .Name y py] X.env = (false, eval e X.env) :: starEach [.Name y py] X.env := by rfl) (hpl : (backTo pos (starEach [.Name y py] X.env)).any (·.1) = false := by rfl)
    (hs : starEach [.Name y py] X.env = (false, eval (.Name y py) X.env) :: starEach [] X.env := by rfl) : Ev X (.Call (.Name "isinstance" p) [e, .Name y py] [] pos) ρ μ R :=
  PEw (pe_callB call_isX hg hm PyProof.Rows.boot_isinstance (pa_cons pe_a (pa_cons hy pa_nil hs) he) (by decide) (by decide) he hpl) fun σ H Q ⟨α, E, q⟩ => ⟨_, h, α, E, fun v d α1 μ1 H1 ⟨C, fs, b, e, T, hk, r⟩ E1 X1 hv => by
    subst e
    obtain ⟨a, rfl, ex⟩ := exAt_of hv
    exact ⟨a, C, c, cv, b, rfl, ex, T, hcv, hk, q _ _ α1 μ1 H1 r E1 X1 .bl⟩⟩
end
end Eg

namespace Eg
open PySem PySem.Spec L2
section
variable {X : Cx} {a b c : Expr} {ρ : RO} {μ : List MO} {pos : Pos}
abbrev toT (R : Ct) : Cn := fun d μ' => ∃ k, d = .bl k ∧ R k μ'
theorem EvT.cmpS {op : CmpOp} {R : Ct} {r : R2} {S : S2} (hr : OpR X (compareOp op) r) (k : R2S X r S) (hm : behindInMarks op b = false) (h : Ev X a ρ μ fun da μ1 => Ev X b ρ μ1 fun db μ2 => S da db μ2 (toT R)) : EvT X (.Compare a [op] [b] pos) ρ μ R :=
  PTw (pt_cmpR hr pe_a pe_a hm) fun σ H Q ⟨α, E, q⟩ => ⟨_, h, α, E, fun x da α1 μ1 H1 h1 E1 X1 hx => ⟨_, h1, α1, E1, fun y db α2 μ2 H2 h2 E2 X2 hy =>
    k α2 μ2 H2 σ ρ x y da db _ _ E2 (X2.has hx) hy h2 fun v d α' μ' H' ⟨t, e, r'⟩ E' X' hv => by
      subst e
      cases hv
      exact ⟨t, rfl, q t α' μ' H' r' E' (X1.trans (X2.trans X'))⟩⟩⟩
theorem EvT.lt {R : Ct} (h : Ev X a ρ μ fun da μ1 => Ev X b ρ μ1 fun db μ2 => sLt da db μ2 (toT R)) : EvT X (.Compare a [.Lt] [b] pos) ρ μ R := .cmpS op_lt (rI0_S fun _ _ _ => .bl) (nomark _) h
theorem EvT.le {R : Ct} (h : Ev X a ρ μ fun da μ1 => Ev X b ρ μ1 fun db μ2 => sLe da db μ2 (toT R)) : EvT X (.Compare a [.LtE] [b] pos) ρ μ R := .cmpS op_le (rI0_S fun _ _ _ => .bl) (nomark _) h
theorem EvT.gt {R : Ct} (h : Ev X a ρ μ fun da μ1 => Ev X b ρ μ1 fun db μ2 => sGt da db μ2 (toT R)) : EvT X (.Compare a [.Gt] [b] pos) ρ μ R := .cmpS op_gt (rI0_S fun _ _ _ => .bl) (nomark _) h
theorem EvT.ge {R : Ct} (h : Ev X a ρ μ fun da μ1 => Ev X b ρ μ1 fun db μ2 => sGe da db μ2 (toT R)) : EvT X (.Compare a [.GtE] [b] pos) ρ μ R := .cmpS op_ge (rI0_S fun _ _ _ => .bl) (nomark _) h
theorem EvT.eq {R : Ct} (h : Ev X a ρ μ fun da μ1 => Ev X b ρ μ1 fun db μ2 => sEq da db μ2 (toT R)) : EvT X (.Compare a [.Eq] [b] pos) ρ μ R := .cmpS op_eq rEq_S (nomark _) h
theorem EvT.ne {R : Ct} (h : Ev X a ρ μ fun da μ1 => Ev X b ρ μ1 fun db μ2 => sNe da db μ2 (toT R)) : EvT X (.Compare a [.NotEq] [b] pos) ρ μ R := .cmpS op_ne rNe_S (nomark _) h
theorem EvT.chain {op op' : CmpOp} {r r' : R2} {S S' : S2} {R : Ct} (ho : OpR X (compareOp op) r) (k : R2S X r S) (ho' : OpR X (compareOp op') r') (k' : R2S X r' S')
    (h : Ev X a ρ μ fun da μ1 => Ev X b ρ μ1 fun db μ2 => S da db μ2 fun d μ3 => ∃ t, d = .bl t ∧ if t = true then Ev X c ρ μ3 fun dc μ4 => S' db dc μ4 (toT R) else R false μ3) (hm : lastMarks [op, op'] [b, c] = false := by with_unfolding_all rfl) :
    EvT X (.Compare a [op, op'] [b, c] pos) ρ μ R := PTw (pt_chain ho ho' pe_a pe_a pe_a hm) fun σ H Q ⟨α, E, q⟩ =>
  ⟨_, h, α, E, fun x da α1 μ1 H1 h1 E1 X1 hx => ⟨_, h1, α1, E1, fun y db α2 μ2 H2 h2 E2 X2 hy =>
    k α2 μ2 H2 σ ρ x y da db _ _ E2 (X2.has hx) hy h2 fun v d α3 μ3 H3 ⟨t, e, h3⟩ E3 X3 hv => by
      subst e
      cases hv
      refine ⟨t, rfl, ?_⟩
      cases t with
      | true =>
        refine iteT ⟨_, show Ev X c ρ μ3 _ from h3, α3, E3, fun z dc α4 μ4 H4 h4 E4 X4 hz => k' α4 μ4 H4 σ ρ y z db dc _ _ E4 (X4.has (X3.has hy)) hz h4 fun v d α' μ' H' ⟨t2, e2, r'⟩ E' X' hv => ?_⟩
        subst e2
        cases hv
        exact ⟨t2, rfl, q t2 α' μ' H' r' E' (X1.trans (X2.trans (X3.trans (X4.trans X'))))⟩
      | false => exact iteF ⟨false, rfl, q _ α3 μ3 H3 h3 E3 (X1.trans (X2.trans X3))⟩⟩⟩
/-! ### lists of truths, whole numbers .. compared: == and != of data -/

mutual
theorem dp_has {w : Wd} : ∀ {v : V} {d : DV} {pd : PyData}, Has w v d → toPy d = some pd → pd.hasDict = false → Dp w.K w.H v pd
  | _, _, _, .non, e, _ => by cases e; exact .non
  | _, _, _, .bl, e, _ => by cases e; exact .bl _
  | _, _, _, .int, e, _ => by cases e; exact .int _
  | _, _, _, .str, e, _ => by cases e; exact .str _
  | _, _, _, .tup h t, e, nd => by
    obtain ⟨ds, e1, e2⟩ := Option.map_eq_some_iff.mp e
    subst e2
    exact .tup h (dpL_has t e1 (by simpa [PyData.hasDict] using nd))
  | _, _, _, @Has.lst _ p vs _ h t, e, nd => by
    obtain ⟨ds, e1, e2⟩ := Option.map_eq_some_iff.mp e
    subst e2
    have sq : SqL w.K w.H p vs := by
      rcases h with ⟨_, h⟩ | h
      · exact .inl h
      · exact h.sq
    exact .lst sq (dpL_has t e1 (by simpa [PyData.hasDict] using nd))
  | _, _, _, @Has.dic _ _ _ kds _ _ _, e, nd => by
    cases kds with
    | nil => cases e; simp [PyData.hasDict] at nd
    | cons _ _ => cases e
  | _, _, _, .exc _ _ _, e, _ => by cases e
  | _, _, _, .exc0 _, e, _ => by cases e
  | _, _, _, .mu _, e, _ => by cases e
  | _, _, _, .rg _, e, _ => by cases e
  | _, _, _, .fn _, e, _ => by cases e
theorem dpL_has {w : Wd} : ∀ {vs : List V} {ds : List DV} {pds : List PyData}, HasL w vs ds → toPyL ds = some pds → PyData.hasDictAll pds = false → DpAll w.K w.H vs pds
  | _, _, _, .nil, e, _ => by cases e; exact .nil
  | _, _, _, .cons h t, e, nd => by
    obtain ⟨d, e1, e2⟩ := Option.bind_eq_some_iff.mp e
    obtain ⟨ds, e3, e4⟩ := Option.map_eq_some_iff.mp e2
    subst e4
    have nd' : (PyData.hasDict d || PyData.hasDictAll ds) = false := by simpa [PyData.hasDictAll] using nd
    exact .cons (dp_has h e1 (Bool.or_eq_false_iff.mp nd').1) (dpL_has t e3 (Bool.or_eq_false_iff.mp nd').2)
end
def sEqD : S2 := fun x y μ R => ∃ d e, toPy x = some d ∧ toPy y = some e ∧ d.hasDict = false ∧ e.hasDict = false ∧ SeqAt.shaped d = true ∧ SeqAt.shaped e = true ∧ R (.bl (PyData.eqv d e)) μ
def sNeD : S2 := fun x y μ R => ∃ d e, toPy x = some d ∧ toPy y = some e ∧ d.hasDict = false ∧ e.hasDict = false ∧ SeqAt.shaped d = true ∧ SeqAt.shaped e = true ∧ R (.bl (!PyData.eqv d e)) μ
theorem rEqD_S : R2S X (rEqD X.K) sEqD := fun α μ H σ ρ x y da db R Q E hx hy h q => by
  obtain ⟨d, e, e1, e2, n1, n2, s1, s2, r⟩ := h
  exact ⟨d, e, dp_has hx e1 n1, dp_has hy e2 n2, s1, s2, q.sc E r .bl⟩
theorem rNeD_S : R2S X (rNeD X.K) sNeD := fun α μ H σ ρ x y da db R Q E hx hy h q => by
  obtain ⟨d, e, e1, e2, n1, n2, s1, s2, r⟩ := h
  exact ⟨d, e, dp_has hx e1 n1, dp_has hy e2 n2, s1, s2, q.sc E r .bl⟩
theorem EvT.neD {R : Ct} (hu : X.A.units + 64 < cLine) (h : Ev X a ρ μ fun da μ1 => Ev X b ρ μ1 fun db μ2 => sNeD da db μ2 (toT R)) : EvT X (.Compare a [.NotEq] [b] pos) ρ μ R := .cmpS (op_neD hu) rNeD_S (nomark _) h
theorem EvT.eqD {R : Ct} (hu : X.A.units + 64 < cLine) (h : Ev X a ρ μ fun da μ1 => Ev X b ρ μ1 fun db μ2 => sEqD da db μ2 (toT R)) : EvT X (.Compare a [.Eq] [b] pos) ρ μ R := .cmpS (op_eqD hu) rEqD_S (nomark _) h
/-! ### short words -/
theorem items_mu {k : Nat} {ds : List DV} (h : μ[k]? = some (.lst ds)) : itemsD μ (.mu k) = some ds := by
  show (match μ[k]? with | some (.lst ds) => some ds | _ => none) = some ds
  rw [h]
theorem sIx.mu {k : Nat} {ds : List DV} {i : Int} {d : DV} {R : Cn} (h : μ[k]? = some (.lst ds)) (e : atI ds i = some d) (r : R d μ) : sIx (.mu k) (.int i) μ R := .inl ⟨ds, i, d, items_mu h, rfl, e, r⟩
theorem sIx.tup {ds : List DV} {i : Int} {d : DV} {R : Cn} (e : atI ds i = some d) (r : R d μ) : sIx (.tup ds) (.int i) μ R := .inl ⟨ds, i, d, rfl, rfl, e, r⟩
theorem sIx.lst {ds : List DV} {i : Int} {d : DV} {R : Cn} (e : atI ds i = some d) (r : R d μ) : sIx (.lst ds) (.int i) μ R := .inl ⟨ds, i, d, rfl, rfl, e, r⟩
theorem ifd {p : Prop} [Decidable p] {A B : Prop} (h1 : p → A) (h2 : ¬ p → B) : if decide p = true then A else B := by
  by_cases h : p
  · rw [decide_eq_true h]
    exact iteT (h1 h)
  · rw [decide_eq_false h]
    exact iteF (h2 h)
theorem ifdT {p : Prop} [Decidable p] {A B : Prop} (h : p) (h1 : A) : if decide p = true then A else B := ifd (fun _ => h1) fun z => absurd h z
theorem ifdF {p : Prop} [Decidable p] {A B : Prop} (h : ¬ p) (h1 : B) : if decide p = true then A else B := ifd (fun z => absurd z h) fun _ => h1
theorem ifnT {p : Prop} [Decidable p] {A B : Prop} (h : ¬ p) (h1 : A) : if (!decide p) = true then A else B := by
  rw [decide_eq_false h]
  exact iteT h1
theorem ifnF {p : Prop} [Decidable p] {A B : Prop} (h : p) (h1 : B) : if (!decide p) = true then A else B := by
  rw [decide_eq_true h]
  exact iteF h1
theorem atI_of {α : Type} {xs : List α} {i : Int} {d : α} (h0 : 0 ≤ i) (h : xs[i.toNat]? = some d) : atI xs i = some d := by
  obtain ⟨hl, _⟩ := List.getElem?_eq_some_iff.mp h
  unfold atI ixN
  rw [if_pos h0, if_pos (by omega)]
  exact h
/-! ### the leaves -/
theorem sAdd.mk {i j : Int} {R : Cn} (r : R (.int (i + j)) μ) : sAdd (.int i) (.int j) μ R := ⟨i, j, rfl, rfl, r⟩
theorem sSub.mk {i j : Int} {R : Cn} (r : R (.int (i - j)) μ) : sSub (.int i) (.int j) μ R := ⟨i, j, rfl, rfl, r⟩
theorem sMul.mk {i j : Int} {R : Cn} (h : CMulW i j) (r : R (.int (i * j)) μ) : sMul (.int i) (.int j) μ R := ⟨i, j, rfl, rfl, h, r⟩
theorem sMod.mk {i j : Int} {R : Cn} (h : j ≠ 0) (r : R (.int (i.fmod j)) μ) : sMod (.int i) (.int j) μ R := ⟨i, j, rfl, rfl, h, r⟩
theorem sDiv.mk {i j : Int} {R : Cn} (h : CDivW i j) (r : R (.int (i / j)) μ) : sDiv (.int i) (.int j) μ R := ⟨i, j, rfl, rfl, h, r⟩
theorem sPow.mk {i j : Int} {R : Cn} (h : CPow i j) (r : R (.int (i ^ j.toNat)) μ) : sPow (.int i) (.int j) μ R := ⟨i, j, rfl, rfl, h, r⟩
theorem sLt.mk {i j : Int} {R : Cn} (r : R (.bl (decide (i < j))) μ) : sLt (.int i) (.int j) μ R := ⟨i, j, rfl, rfl, r⟩
theorem sLe.mk {i j : Int} {R : Cn} (r : R (.bl (decide (i ≤ j))) μ) : sLe (.int i) (.int j) μ R := ⟨i, j, rfl, rfl, r⟩
theorem sGt.mk {i j : Int} {R : Cn} (r : R (.bl (decide (j < i))) μ) : sGt (.int i) (.int j) μ R := ⟨i, j, rfl, rfl, r⟩
theorem sGe.mk {i j : Int} {R : Cn} (r : R (.bl (decide (j ≤ i))) μ) : sGe (.int i) (.int j) μ R := ⟨i, j, rfl, rfl, r⟩
theorem v_int {i j : Int} : decide (V.int i = V.int j) = decide (i = j) := by
  by_cases h : i = j
  · rw [h]; simp
  · rw [decide_eq_false h, decide_eq_false fun z => h (V.int.inj z)]
theorem sEq.int {i j : Int} {R : Cn} (r : R (.bl (decide (i = j))) μ) : sEq (.int i) (.int j) μ R := ⟨_, _, rfl, rfl, rfl, by rw [v_int]; exact r⟩
theorem sNe.int {i j : Int} {R : Cn} (r : R (.bl (!decide (i = j))) μ) : sNe (.int i) (.int j) μ R := ⟨_, _, rfl, rfl, rfl, by rw [v_int]; exact r⟩
theorem toT.mk {k : Bool} {R : Ct} (r : R k μ) : toT R (.bl k) μ := ⟨k, rfl, r⟩
theorem mulok {i j : Int} (h1 : i.natAbs < 18446744073709551616) (h2 : j.natAbs < 18446744073709551616) : CMulW i j :=
  wide_mul (a := 64) (b := 64) h1 h2 (by decide) (by decide) (by decide)
theorem divok {i j : Int} (h1 : 0 < j) (h2 : j.natAbs < 18446744073709551616) : CDivW i j := wide_div (b := 64) h1 h2 (by decide) (by decide)
theorem fmod_in {i j : Int} (h : 0 < j) : 0 ≤ i.fmod j ∧ i.fmod j < j := by
  rw [Int.fmod_eq_emod_of_nonneg _ (by omega)]
  exact ⟨Int.emod_nonneg _ (by omega), Int.emod_lt_of_pos _ h⟩
end
theorem Fn.imp {P : Program} {w : World} {K : PySem.W.Frag} {mg : Str → Option Value} {base : Heap} {x : Str} {k : Nat} {C C' : Ctr} (F : Fn P w K mg base x k C) (h : ∀ ds μ R, C' ds μ R → C ds μ R) : Fn P w K mg base x k C' := by
  obtain ⟨f, fd, ps, ⟨l, g⟩, r⟩ := F
  have imp : ∀ vs H Q E, SpD K C' vs H Q E → SpD K C vs H Q E := fun vs H Q E ⟨α, μ, ds, R, z1, z2, z3, z4⟩ => ⟨α, μ, ds, R, z1, z2, h _ _ _ z3, z4⟩
  exact ⟨f, fd, ps, ⟨fun vs H Q E z => l vs H Q E (imp _ _ _ _ z), fun A outer s H args us vs Q h1 h2 h3 h4 h5 h6 => g A outer s H args us vs Q h1 h2 h3 h4 h5 (imp _ _ _ _ h6)⟩, r⟩
end Eg

namespace Eg
open PySem PySem.Spec L2
section
variable {X : Cx} {ρ : RO} {μ : List MO} {pos : Pos}
theorem hasL3 {w : Wd} {vs : List V} {d e f : DV} (h : HasL w vs [d, e, f]) : ∃ v u t, vs = [v, u, t] ∧ Has w v d ∧ Has w u e ∧ Has w t f := by
  cases h with
  | cons h t =>
    obtain ⟨u, x, rfl, h2, h3⟩ := hasL2 t
    exact ⟨_, u, x, rfl, h, h2, h3⟩
/-- a, b, c = e1, e2, e3 -/
theorem St.par3 {R : Co} {e1 e2 e3 : Expr} (i j l : Nat) {x y z : Str} {px py pz pt : Pos} {kt k2 pt2} (hc : X.calm = true) (hN : X.N.Nodup) (hi : X.N[i]? = some x) (hj : X.N[j]? = some y) (hl : X.N[l]? = some z) (hij : i ≠ j) (hil : i ≠ l) (hjl : j ≠ l)
    (hx : X.env.scope.names.lookup x = some .local) (hy : X.env.scope.names.lookup y = some .local) (hz : X.env.scope.names.lookup z = some .local)
    (h : EvA X [e1, e2, e3] ρ μ fun ds μ1 => ∃ d1 d2 d3, ds = [d1, d2, d3] ∧ R (.nx (((ρ.set i (some d1)).set j (some d2)).set l (some d3)) μ1))
    (hw : swappedStores [.Tuple [.Name x px, .Name y py, .Name z pz] kt pt] (.Tuple [e1, e2, e3] k2 pt2) X.env = pure (some [x, y, z]) := by rfl)
    (hs : swapsWithSole [.Tuple [.Name x px, .Name y py, .Name z pz] kt pt] (.Tuple [e1, e2, e3] k2 pt2) pos.line X.env = pure false := by rfl) :
    St X (.Assign [.Tuple [.Name x px, .Name y py, .Name z pz] kt pt] (.Tuple [e1, e2, e3] k2 pt2) pos) ρ μ R :=
  PSw (ps_par3 hc hN hi hj hl hij hil hjl hx hy hz pa_a hw hs) fun D σ H ⟨α, E, q⟩ => ⟨_, h, α, E, fun vs ds α1 μ1 H1 ⟨d1, d2, d3, e, r⟩ E1 X1 hv => by
    subst e
    obtain ⟨v, u, t, rfl, hv1, hv2, hv3⟩ := hasL3 hv
    exact ⟨v, u, t, rfl, q.1 _ _ α1 μ1 H1 r (((E1.set i hv1).set j hv2).set l hv3) X1⟩⟩
/-- y = [e for x in xs] -/
theorem St.setLc {R : Co} {elt iter : Expr} {scope : Scope} {x y : Str} {px py spos : Pos} (i j : Nat) (hc : X.calm = true) (hN : X.N.Nodup) (hy : X.N[i]? = some y) (hyl : X.env.scope.names.lookup y = some .local)
    (hsw : swapsWith (.ListComp elt [⟨.Name x px, iter, [], 0⟩] scope pos) (some (.Name y py)) spos.line X.env = pure true) (hj : X.N[j]? = some x) (ok : BlkOk X.N X.env.scope scope [(x, j)])
    (hl : ∀ (s : Shared) (H : Hp) (C : Addr) (cl : List (Str × Addr)) (fp : List Addr), Loc (blkX X s H scope C cl fp).env.scope x ∧ ((blkX X s H scope C cl fp).fn x = true ∨ (blkX X s H scope C cl fp).env.scope.names.lookup x = some .local))
    (h : LcOk X scope elt iter x px j ρ μ fun d μ1 => R (.nx (ρ.set i (some d)) μ1)) (hs : ∀ x, foldedSetIterable iter X.env x = pure x := by intro _; rfl) :
    St X (.Assign [.Name y py] (.ListComp elt [⟨.Name x px, iter, [], 0⟩] scope pos) spos) ρ μ R :=
  PSw (ps_setLc (own := [(x, j)]) (g := gName j) hc hN hy hyl hsw pi_a ok (fun s H C cl fp => pg_name hN hj (hl s H C cl fp).1 (hl s H C cl fp).2) (fun s H C cl fp => pts_aB s H C cl fp) (fun s H C cl fp => pe_aB s H C cl fp) hs)
    fun D σ H ⟨α, E, q⟩ => lc_S0 h σ H _ ⟨α, E, fun v d α1 μ1 H1 r1 E1 X1 hv => q.1 _ _ α1 μ1 H1 r1 (E1.set i hv) X1⟩
end
end Eg

namespace Eg
open PySem PySem.Spec PyProof.Rows L2
section
variable {P : Program} {w : World} {K : PySem.W.Frag} {mg : Str → Option Value} {base : Heap}
/-- THE RULE for a def -/
theorem FnG.mk2 {x : Str} {params : Arguments} {body : List Stmt} {scope : Scope} {kws : List (Str × V)} {f : Addr} {fd : FuncData} {N ps : List Str} {k : Nat} {C : Ctr}
    (F : FunD K x x params body scope [] kws f fd) (S : FnScope N ps scope) 
    (len : ∀ ds μ R, C ds μ R → ds.length = ps.length)
    (hb : ∀ (cd : Value) (A : Around) (outer : List PySem.Env) (s : Shared) (H : Hp), (bx P w K mg base N x scope f cd A outer s H).A.guards = some [] → Room k (bx P w K mg base N x scope f cd A outer s H).A → (bx P w K mg base N x scope f cd A outer s H).N.Nodup →
      ∀ ds μ R, C ds μ R → Sts (bx P w K mg base N x scope f cd A outer s H) body (startD N ds) μ (fin μ.length R)) : FnG P w K mg base (k + 1) f fd ps (SpD K C) := by
  refine FnG.of F S (fun vs H Q E => ?_) (fun cd A outer s H vs Q hg hr => ?_)
  · rintro ⟨α, μ, ds, R, l, h, c, _⟩
    rw [h.length]
    exact len _ _ _ c
  · rintro ⟨α, μ, ds, R, l, h, c, q⟩
    refine ⟨_, hb cd A outer s H hg hr S.nd ds μ R c, α, start_en l h, ?_, ?_, ?_, ?_⟩
    · intro ρ' σ' α' μ' H' r E' k'
      rcases r with r | ⟨r1, r2⟩
      · exact q _ _ α' μ' H' r E'.live k' .non
      · exact q _ _ _ _ _ r2 (E'.live.cutL μ.length r1) (Live.cut l E'.live k') .non
    · intro v d α' μ' H' r l' k' hv
      rcases r with r | ⟨r0, r1, r2⟩
      · exact q _ _ α' μ' H' r l' k' hv
      · exact q _ _ _ _ _ r2 (l'.cutL μ.length r1) (Live.cut l l' k') (hv.cut r0)
    · intro _ _ _ _ _ r
      exact r.elim
    · intro _ _ _ _ _ r
      exact r.elim
end
theorem seer_sys {h : Heap} (n : h.NoSeer) : ∃ mm, h.Ns sysModules mm := by
  obtain ⟨mm, z, _⟩ := n.mods
  exact ⟨mm, z⟩
/-! ### a law's end -/
section
variable {P : Program} {w : World} {K : PySem.W.Frag} {mg mb : Str → Option Value} {k : Nat} {fa a : Addr} {fd : FuncData} {x : Str} {sp : Sp} {s₁ : Shared} {vs : List Value} {ns : List Int}
/-- the heap at the call: the script alone is told of, and not that if the text itself holds it -/
theorem law_goS (KX : K.In s₁.heap) (hns : s₁.heap.Ns mainGlobals mg) (hbl : s₁.heap.Ns builtinsNs mb) (hbb : ∀ x : Str, x ≠ "__name__" → mb x = bootBuiltins x) (hlim : s₁.heap.NoLimit) (hgen : s₁.gens = #[]) (hsys : ∃ mm, s₁.heap.Ns sysModules mm)
    (ha : s₁.heap.get? a = some { cls := .type "list", data := .seq vs.toArray }) (hi : IntsAre vs ns) (hl : ns.length ≤ sizeLine) (hr : Room k callerA)
    (F : ∀ base : Heap, K.In base → base.Ns mainGlobals mg → (∃ mm, base.Ns sysModules mm) → FnG P w K mg base k fa fd [x] sp) (hbind : ∀ (s : Shared) (u : Value), BindsTo s fd ⟨[u], []⟩ [(x, u)])
    (hsp : ∀ H : Hp, ((∀ b, H b = none) ∧ WrL K a (ns.map V.int)) ∨ (∃ o, H = fun b => if b = a then some (.frz o (.lst (ns.map V.int))) else none) → sp [.ref a] H (fun v _ => v = .bl true) E0) :
    codeAny (model P w) callerA (.call (.ref fa) ⟨[.ref a], []⟩) (fun r s' => r = .ok (.ret (.bool true)) ∧ OldK s₁.heap s'.heap ∧ s'.os = s₁.os ∧ AllBare s'.gens) s₁ := by
  have rv := vals_ints hi
  -- whatever H tells: at most of a, and of a as it stands
  have main : ∀ H : Hp, (∀ b, b ≠ a → H b = none) → (∀ u, H a = some u → u = .frz { cls := .type "list", data := .seq vs.toArray } (.lst (ns.map V.int))) → (H a = none ∨ K.lookup a = none) → sp [.ref a] H (fun v _ => v = .bl true) E0 →
      codeAny (model P w) callerA (.call (.ref fa) ⟨[.ref a], []⟩) (fun r s' => r = .ok (.ret (.bool true)) ∧ OldK s₁.heap s'.heap ∧ s'.os = s₁.os ∧ AllBare s'.gens) s₁ := by
    intro H h1 h2 h3 hq
    have ok : HOk P w H s₁.heap := by
      intro b u e
      have eb : b = a := Classical.byContradiction fun z => by
        rw [h1 b z] at e
        cases e
      subst eb
      have eu := h2 u e
      subst eu
      exact ⟨ha, by rw [List.length_map]; exact hl, vs, 0, rv, ha⟩
    have none_of_dict : ∀ {b : Addr} {o : Obj} {es : Array DictEntry} {ep : Nat}, s₁.heap.get? b = some o → o.data = .dict es ep → H b = none := by
      intro b o es ep e d
      refine h1 b fun z => ?_
      rw [z, ha] at e
      have := Option.some.inj e
      subst this
      cases d
    have ns_of : ∀ {b : Addr} {m : Str → Option Value}, s₁.heap.Ns b m → (hidT s₁.heap H).Ns b m := by
      rintro b m ⟨o, es, ep, e, d, r⟩
      exact ⟨o, es, ep, hidT_get e (none_of_dict e d), d, r⟩
    have kin : K.In (hidT s₁.heap H) := by
      intro b o e
      refine hidT_get (KX b o e) ?_
      by_cases z : b = a
      · subst z
        rcases h3 with h3 | h3
        · exact h3
        · rw [h3] at e
          cases e
      · exact h1 b z
    obtain ⟨mc, c1, c2⟩ := hlim
    have env0 : Env0 P w K mg (hidT s₁.heap H) callerA [] s₁ H :=
      ⟨rfl, ⟨kin, ns_of hns, ⟨mb, ns_of hbl, hbb⟩, mc, ns_of c1, c2⟩, fun _ _ e => of_hidT e, Nat.le_of_eq (hidT_size _ _), trivial, fun b z => absurd (show b ∈ ([] : List Addr) from z) List.not_mem_nil, ok, .of_eq hgen⟩
    refine codeAny_mono ((F _ kin (ns_of hns) (hsys.imp fun _ z => ns_of z)).go callerA [] s₁ H ⟨[.ref a], []⟩ [.ref a] [.ref a] _ rfl hr env0 (hbind s₁ (.ref a)) (.cons rfl .nil) hq) fun r s' z => ?_
    match r, z with
    | .ok (.ret u), ⟨v, H', os, bare, un, ok', rv', q⟩ =>
      have q' : v = .bl true := q
      subst q'
      have eu : u = Value.bool true := rv'
      subst eu
      refine ⟨rfl, OldK.of_keep fun b o e => ?_, os, bare⟩
      by_cases z : H b = none
      · exact un.keep b o e z (fun y => absurd (show b ∈ ([] : List Addr) from y) List.not_mem_nil) List.not_mem_nil
      · have eb : b = a := Classical.byContradiction fun y => z (h1 b y)
        subst eb
        cases hu : H b with
        | none => exact absurd hu z
        | some u =>
          have eu := h2 u hu
          rw [eu] at hu
          have t := (ok' b _ (un.frzs b _ _ hu)).1
          rw [ha] at e
          cases e
          exact t
    | .ok .next, z => exact z.elim
    | .ok .brk, z => exact z.elim
    | .ok .cont, z => exact z.elim
    | .error e, z => exact z.elim
  cases hk : K.lookup a with
  | none =>
    refine main (fun b => if b = a then some (.frz { cls := .type "list", data := .seq vs.toArray } (.lst (ns.map V.int))) else none) (fun b z => if_neg z) (fun u e => ?_) (.inr hk) (hsp _ (.inr ⟨_, rfl⟩))
    rw [if_pos rfl] at e
    exact (Option.some.inj e).symm
  | some o =>
    have eo : o = { cls := .type "list", data := .seq vs.toArray } := by
      have z := KX a o hk
      rw [ha] at z
      exact (Option.some.inj z).symm
    subst eo
    refine main (fun _ => none) (fun _ _ => rfl) (fun u e => nomatch e) (.inl rfl) (hsp _ (.inl ⟨fun _ => rfl, .inr ⟨_, vs.toArray, 0, hk, rfl, rfl, rfl, ?_, ?_⟩⟩))
    · have e1 := hi.length
      rw [List.size_toArray]
      omega
    · exact rv
end
theorem walk_S {l : PySem.W.OpenLaw} {n k : Nat} {q : Program} {loose : List Str} {XP : (Str → Option Value) → Heap → Prop} {YP : World → Heap → Prop} {d : DefRec} {C : Ctr}
    (hn : l.most = some n) (hn2 : n ≤ sizeLine) (hdf : d.params.defaults = []) (himp : PyProof.Rows.importsNone q = true) (hr : Room k callerA)
    (hC : ∀ ns : List Int, ns.length ≤ n → (∀ z ∈ ns, Builtin.Int.intBits z ≤ 1048576) → C [scD ns] [] fun d _ => d = .bl true)
    (F : ∀ (w : World) (mg : Str → Option Value) (fa : Addr) (h : Heap), YP w h → h.Ns mainGlobals mg → mg d.name = some (.ref fa) →
      ∃ (K : PySem.W.Frag) (fd : FuncData) (x : Str), K.In h ∧ (∀ (s : Shared) (u : Value), BindsTo s fd ⟨[u], []⟩ [(x, u)]) ∧ ∀ base : Heap, K.In base → base.Ns mainGlobals mg → (∃ mm, base.Ns sysModules mm) → FnG l.prog w K mg base k fa fd [x] (SpD K C)) :
    PySem.W.WalkO q loose XP YP l.row.toRowW d [] (fun f vs => PySem.call f vs) := by
  refine Att.attach_callB hn hdf fun w s₀ s₁ mg mb fa o pm cd doc a vs ns G Y ho hd hcd hmg hobj hints hlen hbits hg => ?_
  obtain ⟨K, fd, x, KX, hb, hF⟩ := F w mg fa _ Y G.T.g hmg
  refine law_goS KX G.T.g G.T.b G.T.builtins G.T.nolimit hg (seer_sys (G.T.seer himp)) hobj hints (Nat.le_trans hlen hn2) hr hF hb fun H hH => ?_
  have l0 : Live ⟨K, [], [], H⟩ := ⟨rfl, List.nodup_nil, fun _ h => absurd h List.not_mem_nil, fun k a o h => by simp at h⟩
  refine ⟨[], [], [scD ns], fun d _ => d = .bl true, l0, .cons (.lst ?_ (sc_has ns)) .nil, hC ns hlen hbits, ?_⟩
  · rcases hH with ⟨_, h⟩ | ⟨o, rfl⟩
    · exact .inr h
    · refine .inl ⟨?_, .inr ⟨o, if_pos rfl⟩⟩
      rintro ⟨k, u, h1, _⟩
      simp at h1
  · rintro v d α' μ' H' rfl _ _ hv
    cases hv
    rfl
end Eg

namespace Eg
open PySem PySem.Spec L2
/-! ### x is None -/
def DV.isN : DV → Bool
  | .non => true
  | _ => false
theorem isN_has {w : Wd} {v : V} {d : DV} (h : Has w v d) : decide (v = V.non) = DV.isN d := by
  cases h <;> simp [DV.isN]
def sIsN : S2 := fun x y μ R => y = .non ∧ R (.bl (DV.isN x)) μ
def sNotN : S2 := fun x y μ R => y = .non ∧ R (.bl (!DV.isN x)) μ
section
variable {X : Cx} {a b c e o : Expr} {ρ : RO} {μ : List MO} {pos p : Pos}
theorem rIsN_S : R2S X (fun x y H Q => y = .non ∧ Q (.bl (decide (x = .non))) H) sIsN := fun α μ H σ ρ x y da db R Q E hx hy h q => by
  obtain ⟨rfl, r⟩ := h
  cases hy
  refine ⟨rfl, ?_⟩
  rw [isN_has hx]
  exact q.sc E r .bl
theorem rNotN_S : R2S X (fun x y H Q => y = .non ∧ Q (.bl (!decide (x = .non))) H) sNotN := fun α μ H σ ρ x y da db R Q E hx hy h q => by
  obtain ⟨rfl, r⟩ := h
  cases hy
  refine ⟨rfl, ?_⟩
  rw [isN_has hx]
  exact q.sc E r .bl
theorem Ev.isN {R : Cn} (h : Ev X a ρ μ fun da μ1 => Ev X b ρ μ1 fun db μ2 => sIsN da db μ2 R) : Ev X (.Compare a [.Is] [b] pos) ρ μ R := .cmp op_isN rIsN_S (nomark _) h
theorem Ev.notN {R : Cn} (h : Ev X a ρ μ fun da μ1 => Ev X b ρ μ1 fun db μ2 => sNotN da db μ2 R) : Ev X (.Compare a [.IsNot] [b] pos) ρ μ R := .cmp op_notN rNotN_S (nomark _) h
theorem EvT.isN {R : Ct} (h : Ev X a ρ μ fun da μ1 => Ev X b ρ μ1 fun db μ2 => sIsN da db μ2 (toT R)) : EvT X (.Compare a [.Is] [b] pos) ρ μ R := .cmpS op_isN rIsN_S (nomark _) h
theorem EvT.notN {R : Ct} (h : Ev X a ρ μ fun da μ1 => Ev X b ρ μ1 fun db μ2 => sNotN da db μ2 (toT R)) : EvT X (.Compare a [.IsNot] [b] pos) ρ μ R := .cmpS op_notN rNotN_S (nomark _) h
theorem sIsN.mk {d : DV} {R : Cn} (r : R (.bl (DV.isN d)) μ) : sIsN d .non μ R := ⟨rfl, r⟩
theorem sNotN.mk {d : DV} {R : Cn} (r : R (.bl (!DV.isN d)) μ) : sNotN d .non μ R := ⟨rfl, r⟩
/-! ### == and != of data as values -/
theorem Ev.eqD {R : Cn} (hu : X.A.units + 64 < cLine) (h : Ev X a ρ μ fun da μ1 => Ev X b ρ μ1 fun db μ2 => sEqD da db μ2 R) : Ev X (.Compare a [.Eq] [b] pos) ρ μ R := .cmp (op_eqD hu) rEqD_S (nomark _) h
theorem Ev.neD {R : Cn} (hu : X.A.units + 64 < cLine) (h : Ev X a ρ μ fun da μ1 => Ev X b ρ μ1 fun db μ2 => sNeD da db μ2 R) : Ev X (.Compare a [.NotEq] [b] pos) ρ μ R := .cmp (op_neD hu) rNeD_S (nomark _) h
/-! ### texts: +, order, in -/
def sStr (C : Str → Str → Prop) (g : Str → Str → DV) : S2 := fun x y μ R => ∃ i j, x = .str i ∧ y = .str j ∧ C i j ∧ R (g i j) μ
def sAddS : S2 := sStr (fun i j => i.length + j.length ≤ sizeLine) fun i j => .str (i ++ j)
theorem rAddS_S : R2S X (fun x y H Q => ∃ i j, x = .str i ∧ y = .str j ∧ i.length + j.length ≤ sizeLine ∧ Q (.str (i ++ j)) H) sAddS := fun α μ H σ ρ x y da db R Q E hx hy h q => by
  obtain ⟨i, j, rfl, rfl, c, r⟩ := h
  cases hx
  cases hy
  exact ⟨i, j, rfl, rfl, c, q.sc E r .str⟩
theorem Ev.addS {R : Cn} (h : Ev X a ρ μ fun da μ1 => Ev X b ρ μ1 fun db μ2 => sAddS da db μ2 R) : Ev X (.BinOp a .Add b pos) ρ μ R := .op op_add_str rAddS_S h
def sCmpS (g : Str → Str → Bool) : S2 := fun x y μ R => ∃ i j, x = .str i ∧ y = .str j ∧ R (.bl (g i j)) μ
theorem rCmpS_S {g : Str → Str → Bool} : R2S X (fun x y H Q => ∃ i j, x = .str i ∧ y = .str j ∧ Q (.bl (g i j)) H) (sCmpS g) := fun α μ H σ ρ x y da db R Q E hx hy h q => by
  obtain ⟨i, j, rfl, rfl, r⟩ := h
  cases hx
  cases hy
  exact ⟨i, j, rfl, rfl, q.sc E r .bl⟩
/-- one sign in a text -/
def sSign : S2 := fun x y μ R => ∃ (c : Nat) (z : Str), x = .str ⟨#[c]⟩ ∧ y = .str z ∧ R (.bl (decide (c ∈ z.cps.toList))) μ
theorem rSign_S : R2S X (fun x y H Q => ∃ (c : Nat) (z : Str), x = .str ⟨#[c]⟩ ∧ y = .str z ∧ Q (.bl (decide (c ∈ z.cps.toList))) H) sSign := fun α μ H σ ρ x y da db R Q E hx hy h q => by
  obtain ⟨i, j, rfl, rfl, r⟩ := h
  cases hx
  cases hy
  exact ⟨i, j, rfl, rfl, q.sc E r .bl⟩
theorem EvT.inSign {R : Ct} (h : Ev X a ρ μ fun da μ1 => Ev X b ρ μ1 fun db μ2 => sSign da db μ2 (toT R)) (hmk : behindInMarks .In b = false := by rfl) : EvT X (.Compare a [.In] [b] pos) ρ μ R := .cmpS op_in_sign rSign_S hmk h
theorem Ev.inSign {R : Cn} (h : Ev X a ρ μ fun da μ1 => Ev X b ρ μ1 fun db μ2 => sSign da db μ2 R) (hmk : behindInMarks .In b = false := by rfl) : Ev X (.Compare a [.In] [b] pos) ρ μ R := .cmp op_in_sign rSign_S hmk h
/-! ### x in xs, all of it flat -/
def flatL : List DV → Option (List V)
  | [] => some []
  | d :: r => (DV.flat d).bind fun v => (flatL r).map (v :: ·)
theorem flatL_has {w : Wd} : ∀ {vs : List V} {ds : List DV} {us : List V}, HasL w vs ds → flatL ds = some us → vs = us
  | _, _, _, .nil, e => by cases e; rfl
  | _, _, _, .cons h t, e => by
    obtain ⟨u, e1, e2⟩ := Option.bind_eq_some_iff.mp e
    obtain ⟨us, e3, e4⟩ := Option.map_eq_some_iff.mp e2
    subst e4
    rw [flat_has h e1, flatL_has t e3]
theorem flat_flatV {d : DV} {v : V} (e : DV.flat d = some v) : flatV v = true := by
  cases d <;> first | (cases e; rfl) | cases e
theorem flatL_all : ∀ {ds : List DV} {us : List V}, flatL ds = some us → us.all flatV = true
  | [], _, e => by cases e; rfl
  | d :: r, _, e => by
    obtain ⟨u, e1, e2⟩ := Option.bind_eq_some_iff.mp e
    obtain ⟨us, e3, e4⟩ := Option.map_eq_some_iff.mp e2
    subst e4
    rw [List.all_cons, flat_flatV e1, flatL_all e3]
    rfl
def sIn (neg : Bool) : S2 := fun x y μ R => ∃ ds u us, itemsD μ y = some ds ∧ DV.flat x = some u ∧ flatL ds = some us ∧ R (.bl (if neg then !inV u us else inV u us)) μ
theorem rIn_S {neg : Bool} : R2S X (rIn X.K neg) (sIn neg) := fun α μ H σ ρ x y da db R Q E hx hy h q => by
  obtain ⟨ds, u, us, e1, e2, e3, r⟩ := h
  obtain ⟨p, vs, rfl, hl, s⟩ := seq_of E.live hy e1
  have ex := flat_has hx e2
  have es := flatL_has hl e3
  subst ex es
  exact ⟨p, vs, rfl, s, flat_flatV e2, flatL_all e3, q.sc E r .bl⟩
theorem Ev.inL {R : Cn} (h : Ev X a ρ μ fun da μ1 => Ev X b ρ μ1 fun db μ2 => sIn false da db μ2 R) (hmk : behindInMarks .In b = false := by rfl) : Ev X (.Compare a [.In] [b] pos) ρ μ R := .cmp op_in_seq rIn_S hmk h
theorem EvT.inL {R : Ct} (h : Ev X a ρ μ fun da μ1 => Ev X b ρ μ1 fun db μ2 => sIn false da db μ2 (toT R)) (hmk : behindInMarks .In b = false := by rfl) : EvT X (.Compare a [.In] [b] pos) ρ μ R := .cmpS op_in_seq rIn_S hmk h
theorem Ev.notInL {R : Cn} (h : Ev X a ρ μ fun da μ1 => Ev X b ρ μ1 fun db μ2 => sIn true da db μ2 R) (hmk : behindInMarks .NotIn b = false := by rfl) : Ev X (.Compare a [.NotIn] [b] pos) ρ μ R := .cmp op_notIn_seq rIn_S hmk h
theorem EvT.notInL {R : Ct} (h : Ev X a ρ μ fun da μ1 => Ev X b ρ μ1 fun db μ2 => sIn true da db μ2 (toT R)) (hmk : behindInMarks .NotIn b = false := by rfl) : EvT X (.Compare a [.NotIn] [b] pos) ρ μ R := .cmpS op_notIn_seq rIn_S hmk h
/-! ### tuples and lists put behind each other -/
def sCatT : S2 := fun x y μ R => ∃ xs ys, x = .tup xs ∧ y = .tup ys ∧ xs.length + ys.length ≤ sizeLine ∧ R (.tup (xs ++ ys)) μ
theorem rCatT_S : R2S X (rCatA X.K) sCatT := fun α μ H σ ρ x y da db R Q E hx hy h q => by
  obtain ⟨xs, ys, rfl, rfl, c, r⟩ := h
  cases hx with
  | @tup a vs _ s1 t1 =>
    cases hy with
    | @tup b us _ s2 t2 =>
      refine ⟨a, b, vs, us, rfl, rfl, s1, s2, by rw [t1.length, t2.length]; exact c, ?_, ?_, ?_⟩
      · rintro rfl
        have e : xs = [] := List.length_eq_zero_iff.mp t1.length.symm
        subst e
        exact q.sc E r (.tup s2 t2)
      · rintro _ rfl
        have e : ys = [] := List.length_eq_zero_iff.mp t2.length.symm
        subst e
        rw [List.append_nil] at r
        exact q.sc E r (.tup s1 t1)
      · intro _ _ p np
        obtain ⟨k, l⟩ := E.live.lay (o := .tup (vs ++ us)) np
        exact q _ _ α μ _ r (E.ext k l) k (.tup (.of upd_same) (k.hasL (HasL.app t1 t2)))
theorem Ev.catT {R : Cn} (h : Ev X a ρ μ fun da μ1 => Ev X b ρ μ1 fun db μ2 => sCatT da db μ2 R) : Ev X (.BinOp a .Add b pos) ρ μ R := .op op_catA rCatT_S h
/-- both are lists that may be changed; the new one is such a list too -/
def sCatM : S2 := fun x y μ R => ∃ i j xs ys, x = .mu i ∧ y = .mu j ∧ μ[i]? = some (.lst xs) ∧ μ[j]? = some (.lst ys) ∧ xs.length + ys.length ≤ sizeLine ∧ R (.mu μ.length) (μ ++ [.lst (xs ++ ys)])
theorem rCatM_S : R2S X rCat sCatM := fun α μ H σ ρ x y da db R Q E hx hy h q => by
  obtain ⟨i, j, xs, ys, rfl, rfl, h1, h2, c, r⟩ := h
  cases hx with
  | mu ha =>
    cases hy with
    | mu hb =>
      obtain ⟨vs, z1, z2⟩ := E.live.ob i _ _ ha h1
      obtain ⟨us, y1, y2⟩ := E.live.ob j _ _ hb h2
      refine ⟨_, _, vs, us, rfl, rfl, z1, y1, by rw [z2.length, y2.length]; exact c, fun p np => ?_⟩
      obtain ⟨k, l, e⟩ := E.live.layM (o := .lst (vs ++ us)) (m := .lst (xs ++ ys)) np (fun _ k => ⟨_, upd_same, k.hasL (HasL.app z2 y2)⟩)
      exact q _ _ _ _ _ r (E.ext k l) k (.mu e)
theorem Ev.catM {R : Cn} (h : Ev X a ρ μ fun da μ1 => Ev X b ρ μ1 fun db μ2 => sCatM da db μ2 R) : Ev X (.BinOp a .Add b pos) ρ μ R := .op op_cat rCatM_S h
/-! ### max, min of numbers -/
def sMax : SA := fun ds μ R => ∃ d ns, ds = [d] ∧ itemsD μ d = some (List.map DV.int ns) ∧ (∀ xs, d ≠ .tup xs) ∧ 0 < ns.length ∧ ∀ m, m ∈ ns → (∀ y, y ∈ ns → y ≤ m) → R (.int m) μ
def sMin : SA := fun ds μ R => ∃ d ns, ds = [d] ∧ itemsD μ d = some (List.map DV.int ns) ∧ (∀ xs, d ≠ .tup xs) ∧ 0 < ns.length ∧ ∀ m, m ∈ ns → (∀ y, y ∈ ns → m ≤ y) → R (.int m) μ
theorem ints_has {w : Wd} : ∀ {vs : List V} {ns : List Int}, HasL w vs (ns.map DV.int) → vs = ns.map V.int
  | _, [], .nil => rfl
  | _, n :: r, .cons h t => by
    cases h
    rw [List.map_cons, ints_has t]
theorem lst_of {w : Wd} {v : V} {d : DV} {ds : List DV} (l : Live w) (h : Has w v d) (e : itemsD w.μ d = some ds) (n : ∀ xs, d ≠ .tup xs) : ∃ p vs, v = .ref p ∧ HasL w vs ds ∧ SqL w.K w.H p vs := by
  cases d with
  | tup xs => exact absurd rfl (n xs)
  | lst xs =>
    cases e
    cases h with
    | lst hz t =>
      rcases hz with ⟨_, hz⟩ | hz
      · exact ⟨_, _, rfl, t, .inl hz⟩
      · exact ⟨_, _, rfl, t, hz.sq⟩
  | mu k =>
    cases h with
    | mu ha =>
      have e' : (match w.μ[k]? with | some (.lst ds) => some ds | _ => none) = some ds := e
      cases hk : w.μ[k]? with
      | none => rw [hk] at e'; cases e'
      | some m =>
        rw [hk] at e'
        cases m with
        | lst zs =>
          cases e'
          obtain ⟨vs, z1, z2⟩ := l.ob k _ _ ha hk
          exact ⟨_, vs, rfl, z2, .inl (.inl z1)⟩
        | _ => cases e'
  | _ => cases e
theorem max_S : RaS X (rMax X.K) sMax := fun α μ H σ ρ vs ds R Q E hv h q => by
  obtain ⟨d, ns, rfl, e, nt, h0, r⟩ := h
  obtain ⟨v, rfl, hw⟩ := hasL1 hv
  obtain ⟨p, us, rfl, hl, s⟩ := lst_of E.live hw e nt
  have eu := ints_has hl
  subst eu
  exact ⟨p, ns, rfl, s, h0, fun m h1 h2 => q.sc E (r m h1 h2) .int⟩
theorem min_S : RaS X (rMin X.K) sMin := fun α μ H σ ρ vs ds R Q E hv h q => by
  obtain ⟨d, ns, rfl, e, nt, h0, r⟩ := h
  obtain ⟨v, rfl, hw⟩ := hasL1 hv
  obtain ⟨p, us, rfl, hl, s⟩ := lst_of E.live hw e nt
  have eu := ints_has hl
  subst eu
  exact ⟨p, ns, rfl, s, h0, fun m h1 h2 => q.sc E (r m h1 h2) .int⟩
theorem Ev.max1 {R : Cn} (hc : X.calm = true) (hg : Gl X "max") (hm : X.mg "max" = none) (h : EvA X [a] ρ μ fun ds μ1 => sMax ds μ1 R) (he : starEach [a] X.env = (false, eval a X.env) :: starEach [] X.env := by rfl) :
    Ev X (.Call (.Name "max" p) [a] [] pos) ρ μ R := .callB (cr_max hc) max_S hg hm PyProof.Rows.boot_max h (by decide) (by decide) he rfl
theorem Ev.min1 {R : Cn} (hc : X.calm = true) (hg : Gl X "min") (hm : X.mg "min" = none) (h : EvA X [a] ρ μ fun ds μ1 => sMin ds μ1 R) (he : starEach [a] X.env = (false, eval a X.env) :: starEach [] X.env := by rfl) :
    Ev X (.Call (.Name "min" p) [a] [] pos) ρ μ R := .callB (cr_min hc) min_S hg hm PyProof.Rows.boot_min h (by decide) (by decide) he rfl
/-! ### isinstance of data -/
def DV.ty : DV → Option String
  | .non => some "NoneType"
  | .bl _ => some "bool"
  | .int _ => some "int"
  | .str _ => some "str"
  | .tup _ => some "tuple"
  | .lst _ => some "list"
  | .dic _ => some "dict"
  | _ => none
theorem ty_has {w : Wd} {v : V} {d : DV} {t : String} (h : Has w v d) (e : DV.ty d = some t) : TyX w.K w.H v (.type t) := by
  cases h with
  | non => cases e; exact .base .non
  | bl => cases e; exact .base (.bl _)
  | int => cases e; exact .base (.int _)
  | str => cases e; exact .base (.str _)
  | tup s _ =>
    cases e
    rcases s with (s | ⟨o, s⟩) | ⟨o, its, n, s, s1, _⟩
    · exact .base (.tup s)
    · exact .fTuple s
    · exact .kTuple s s1
  | lst s _ =>
    cases e
    have sq : ∀ {p : Addr} {vs : List V}, (¬w.lv p ∧ Rd w.H p (HO.lst vs) ∨ WrL w.K p vs) → SqL w.K w.H p vs := fun s => by
      rcases s with ⟨_, s⟩ | s
      · exact .inl s
      · exact s.sq
    rcases sq s with (s | ⟨o, s⟩) | ⟨o, its, n, s, s1, _⟩
    · exact .base (.lst s)
    · exact .base (.frz s)
    · exact .kList s s1
  | dic _ s _ => cases e; exact .base (.dK s)
  | exc _ _ _ => cases e
  | exc0 _ => cases e
  | mu _ => cases e
  | rg _ => cases e
  | fn _ => cases e
theorem Ev.isi {R : Cn} {y : Str} {py : Pos} {T : String} (hg : Gl X "isinstance") (hm : X.mg "isinstance" = none) (gy : Gl X y) (my : X.mg y = none) (hy : bootBuiltins y = some (.type T)) (ny : y ≠ "__name__") (dy : (y == ("__debug__" : Str)) = false)
    (h : Ev X e ρ μ fun d μ1 => ∃ t b, DV.ty d = some t ∧ PySem.W.kitOne X.K (.type t) (.type T) = some b ∧ R (.bl b) μ1)
    (he : starEach [e, .Name y py] X.env = (false, eval e X.env) :: starEach [.Name y py] X.env := by rfl) (hpl : (backTo pos (starEach [.Name y py] X.env)).any (·.1) = false := by rfl)
    (hs : starEach [.Name y py] X.env = (false, eval (.Name y py) X.env) :: starEach [] X.env := by rfl) : Ev X (.Call (.Name "isinstance" p) [e, .Name y py] [] pos) ρ μ R :=
  PEw (pe_callB call_isi hg hm PyProof.Rows.boot_isinstance (pa_cons pe_a (pa_cons (pe_bltn (v := .ty T) gy my hy rfl ny dy) pa_nil hs) he) (by decide) (by decide) he hpl) fun σ H Q ⟨α, E, q⟩ => ⟨_, h, α, E, fun v d α1 μ1 H1 ⟨t, b, e1, e2, r⟩ E1 X1 hv =>
    ⟨v, .ty T, .type t, .type T, b, rfl, .ty T, ty_has (w := ⟨X.K, α1, μ1, H1⟩) hv e1, e2, q _ _ α1 μ1 H1 r E1 X1 .bl⟩⟩
end
end Eg

namespace Eg
open PySem PySem.Spec L2
/-! ### own defs called by names -/
def permI {α : Type} (ix : List Nat) (xs : List α) : List α := ix.filterMap fun i => xs[i]?
theorem vals_at {vs : List V} {us : List Value} (h : Vals vs us) : ∀ i : Nat, (∃ v u, vs[i]? = some v ∧ us[i]? = some u ∧ RelV v u) ∨ (vs[i]? = none ∧ us[i]? = none) := by
  induction h with
  | nil => exact fun i => .inr ⟨rfl, rfl⟩
  | cons r t ih =>
    intro i
    cases i with
    | zero => exact .inl ⟨_, _, rfl, rfl, r⟩
    | succ i => exact ih i
theorem vals_perm {vs : List V} {us : List Value} (h : Vals vs us) : ∀ ix : List Nat, Vals (permI ix vs) (permI ix us)
  | [] => .nil
  | i :: r => by
    have ih := vals_perm h r
    unfold permI at ih ⊢
    rcases vals_at h i with ⟨v, u, e1, e2, rv⟩ | ⟨e1, e2⟩
    · rw [List.filterMap_cons_some (f := fun i => vs[i]?) e1, List.filterMap_cons_some (f := fun i => us[i]?) e2]
      exact .cons rv ih
    · rw [List.filterMap_cons_none (f := fun i => vs[i]?) e1, List.filterMap_cons_none (f := fun i => us[i]?) e2]
      exact ih
theorem hasL_perm {w : Wd} {vs : List V} {ds : List DV} (h : HasL w vs ds) : ∀ ix : List Nat, HasL w (permI ix vs) (permI ix ds)
  | [] => .nil
  | i :: r => by
    have ih := hasL_perm h r
    unfold permI at ih ⊢
    by_cases hi : i < ds.length
    · obtain ⟨v, e1, e2⟩ := h.get (List.getElem?_eq_getElem hi)
      rw [List.filterMap_cons_some (f := fun i => vs[i]?) e1, List.filterMap_cons_some (f := fun i => ds[i]?) (List.getElem?_eq_getElem hi)]
      exact .cons e2 ih
    · have e1 : ds[i]? = none := List.getElem?_eq_none (by omega)
      have e2 : vs[i]? = none := List.getElem?_eq_none (by rw [h.length]; omega)
      rw [List.filterMap_cons_none (f := fun i => vs[i]?) e2, List.filterMap_cons_none (f := fun i => ds[i]?) e1]
      exact ih
/-- the def of a name as Fn tells it, and how it takes the names ks -/
def FnW (P : Program) (w : World) (K : PySem.W.Frag) (mg : Str → Option Value) (base : Heap) (x : Str) (k : Nat) (C : Ctr) (ks : List Str) (ix : List Nat) : Prop :=
  ∃ f fd ps, FnG P w K mg base k f fd ps (SpD K C) ∧ mg x = some (.ref f) ∧ PySem.W.keepIn K (.ref f) = true ∧ ∀ (s : Shared) (us : List Value), us.length = ks.length → BindsTo s fd ⟨[], ks.zip us⟩ (ps.zip (permI ix us))
section
variable {P : Program} {w : World} {K : PySem.W.Frag} {mg : Str → Option Value} {base : Heap}
theorem FnW.mk {x : Str} {params : Arguments} {body : List Stmt} {scope : Scope} {kws : List (Str × V)} {f : Addr} {fd : FuncData} {ps : List Str} {k : Nat} {C : Ctr} (F : FunD K x x params body scope [] kws f fd) (G : FnG P w K mg base k f fd ps (SpD K C)) (hm : mg x = some (.ref f))
    (ks : List Str) (ix : List Nat) (hb : ∀ (kV doc pm : Value) (an : Option Addr) (cdv ct : Value) (us : List Value), us.length = ks.length → bindArgs (PySem.W.fnOf x x params body scope .none kV doc pm an cdv ct) ⟨[], ks.zip us⟩ = pure (ps.zip (permI ix us))) : FnW P w K mg base x k C ks ix := by
  refine ⟨f, fd, ps, G, hm, F.kp, ?_⟩
  obtain ⟨oc, od, dV, kV, doc, pm, an, cd, ct, osl, rfl, lk, hcd, hD, _⟩ := F.ex
  have hdV : dV = .none := by
    rcases hD with ⟨_, z⟩ | ⟨z, _⟩
    · exact z
    · exact absurd rfl z
  subst hdV
  intro s us hl M A E Q q
  rw [hb kV doc pm an cd ct us hl]
  exact wpAny_pure q
end
section
variable {X : Cx} {e : Expr} {es : List Expr} {kws : List Keyword} {ρ : RO} {μ : List MO} {pos p : Pos} {R : Cn} {x : Str} {k : Nat} {C : Ctr} {ks : List Str} {ix : List Nat}
theorem Ev.callW (F : FnW X.prog X.w X.K X.mg X.base x k C ks ix) (hA : X.A.guards = some []) (hr : Room k X.A) (hg : Gl X x) (h : EvK X kws ρ μ fun ds μ1 => ds.length = ks.length ∧ C (permI ix ds) μ1 R)
    (hdb : (x == ("__debug__" : Str)) = false := by decide) (hall : (backToKw pos (keywordEach kws X.env)).all (·.1.isSome) = true := by rfl) (hks : (backToKw pos (keywordEach kws X.env)).filterMap (·.1) = ks := by rfl)
    (hpl : ((backTo pos (starEach [] X.env)).any (·.1) || (backToKw pos (keywordEach kws X.env)).any (·.1.isNone)) = false := by rfl) : Ev X (.Call (.Name x p) [] kws pos) ρ μ R := by
  obtain ⟨f, fd, ps, G, hm, hk, hb⟩ := F
  refine ⟨fun pins s σ H Q I ⟨α, E, q⟩ => wpAny_Call_Name_kw (ld_glob I hg hm ?_ hdb)⟩
  have ha : PK X kws (tEvA X ρ μ fun ds μ1 => ds.length = ks.length ∧ C (permI ix ds) μ1 R) := h
  refine PySem.W.callWith_KW0 (h₀ := X.base) I.ok.mod.kin hk hall (thn (ha.run pos pins s σ H (fun vs H1 => vs.length = ks.length ∧ SpD X.K C (permI ix vs) H1 (fun v H' => Q v H') E0) I ⟨α, E, ?_⟩) ?_) hpl
  · intro vs ds α1 μ1 H1 ⟨hn, c⟩ E1 X1 hv
    exact ⟨hv.length.trans hn, α1, μ1, permI ix ds, R, E1.live, hasL_perm hv ix, c, fun v d α' μ' H' r l k' hd => q v d α' μ' H' r (E1.ext k' l) (X1.trans k') hd⟩
  · rintro us s1 ⟨vs, H1, I1, rv, hn, sp⟩
    refine ⟨I1.kIn, ?_⟩
    rw [hks]
    refine wpAny_call (codeAny_mono (G.go X.A X.stack s1 H1 ⟨[], ks.zip us⟩ (permI ix us) (permI ix vs) Q hA hr I1.env0 (hb s1 us (rv.length.symm.trans hn)) (vals_perm rv ix) sp) fun r s2 hq => ?_)
    cases r with
    | error er => exact False.elim hq
    | ok fl =>
      cases fl with
      | ret u => exact I1.after hq
      | next => exact False.elim hq
      | brk => exact False.elim hq
      | cont => exact False.elim hq
end
/-! ### [e for x in xs if c] -/
section
variable {X : Cx} {ρ : RO} {μ : List MO} {pos : Pos}
def LcIf (X : Cx) (scope : Scope) (elt iter c : Expr) (x : Str) (px : Pos) (i : Nat) (ρ : RO) (μ : List MO) (R : Cn) : Prop :=
  EvI X (.Name x px) iter ρ μ fun ds μ1 => ds.length ≤ sizeLine ∧ ∃ I : Nat → List DV → List MO → Prop, I 0 [] μ1 ∧
      (∀ j d acc μ2, ds[j]? = some d → μ2.length = μ1.length → I j acc μ2 → ∀ s H C cl fp, EvT (blkX X s H scope C cl fp) c (ρ.set i (some d)) (μ2 ++ [.lst acc]) fun b μ3 =>
        if b = true then ∀ s H C cl fp, Ev (blkX X s H scope C cl fp) elt (ρ.set i (some d)) μ3 fun y μ5 => ∃ μ4, μ5 = μ4 ++ [.lst acc] ∧ μ4.length = μ1.length ∧ I (j + 1) (acc ++ [y]) μ4
        else ∃ μ4, μ3 = μ4 ++ [.lst acc] ∧ μ4.length = μ1.length ∧ I (j + 1) acc μ4) ∧
      ∀ acc μ2, μ2.length = μ1.length → I ds.length acc μ2 → R (.lst acc) (μ2 ++ [.dead])
theorem lc_SI {R : Cn} {elt iter c : Expr} {scope : Scope} {x : Str} {px : Pos} {i : Nat} (h : LcIf X scope elt iter c x px i ρ μ R) (σ : L2.St) (H : Hp) (Q : VK) (q : tEv X ρ μ R σ H Q) :
    tLc (aI X (.Name x px) iter) (gName i) (aBT X scope [c]) (aB X scope elt) [i] σ H Q :=
  lc_S i (EvI.mono h fun ds μ1 ⟨hz, I, i0, turn, done⟩ => ⟨hz, I, i0, fun j d acc μ2 h1 h2 h3 => ⟨fun ρ' μ' Rt => tEvT X ρ' μ' Rt,
    fun s H C cl fp => pts_one (turn j d acc μ2 h1 h2 h3 s H C cl fp), fun _ _ _ _ _ _ z => z⟩, done⟩) σ H Q q
theorem Ev.lcIf {R : Cn} {elt iter c : Expr} {scope : Scope} {x : Str} {px : Pos} (i : Nat) (hc : X.calm = true) (hN : X.N.Nodup) (hi : X.N[i]? = some x) (ok : BlkOk X.N X.env.scope scope [(x, i)])
    (hl : ∀ (s : Shared) (H : Hp) (C : Addr) (cl : List (Str × Addr)) (fp : List Addr), Loc (blkX X s H scope C cl fp).env.scope x ∧ ((blkX X s H scope C cl fp).fn x = true ∨ (blkX X s H scope C cl fp).env.scope.names.lookup x = some .local))
    (h : LcIf X scope elt iter c x px i ρ μ R) (hs : ∀ x, foldedSetIterable iter X.env x = pure x := by intro _; rfl) : Ev X (.ListComp elt [⟨.Name x px, iter, [c], 0⟩] scope pos) ρ μ R :=
  PEw (pe_lc (own := [(x, i)]) (g := gName i) hc hN pi_a ok (fun s H C cl fp => pg_name hN hi (hl s H C cl fp).1 (hl s H C cl fp).2) (fun s H C cl fp => pts_aB s H C cl fp) (fun s H C cl fp => pe_aB s H C cl fp) hs) (lc_SI h)
theorem St.setLcIf {R : Co} {elt iter c : Expr} {scope : Scope} {x y : Str} {px py spos : Pos} (i j : Nat) (hc : X.calm = true) (hN : X.N.Nodup) (hy : X.N[i]? = some y) (hyl : X.env.scope.names.lookup y = some .local)
    (hsw : swapsWith (.ListComp elt [⟨.Name x px, iter, [c], 0⟩] scope pos) (some (.Name y py)) spos.line X.env = pure true) (hj : X.N[j]? = some x) (ok : BlkOk X.N X.env.scope scope [(x, j)])
    (hl : ∀ (s : Shared) (H : Hp) (C : Addr) (cl : List (Str × Addr)) (fp : List Addr), Loc (blkX X s H scope C cl fp).env.scope x ∧ ((blkX X s H scope C cl fp).fn x = true ∨ (blkX X s H scope C cl fp).env.scope.names.lookup x = some .local))
    (h : LcIf X scope elt iter c x px j ρ μ fun d μ1 => R (.nx (ρ.set i (some d)) μ1)) (hs : ∀ x, foldedSetIterable iter X.env x = pure x := by intro _; rfl) :
    St X (.Assign [.Name y py] (.ListComp elt [⟨.Name x px, iter, [c], 0⟩] scope pos) spos) ρ μ R :=
  PSw (ps_setLc (own := [(x, j)]) (g := gName j) hc hN hy hyl hsw pi_a ok (fun s H C cl fp => pg_name hN hj (hl s H C cl fp).1 (hl s H C cl fp).2) (fun s H C cl fp => pts_aB s H C cl fp) (fun s H C cl fp => pe_aB s H C cl fp) hs)
    fun D σ H ⟨α, E, q⟩ => lc_SI h σ H _ ⟨α, E, fun v d α1 μ1 H1 r1 E1 X1 hv => q.1 _ _ α1 μ1 H1 r1 (E1.set i hv) X1⟩
end
end Eg

namespace Eg
open PySem PySem.Spec L2
/-! ### for a, b in zip(xs, ys) -/
section
variable {X : Cx} {e e2 : Expr} {ρ : RO} {μ : List MO} {p pos tpos : Pos} {elts : List Expr} {kk : Nat} {Ra : Ca}
def zipD (xs ys : List DV) : List DV := List.zipWith (fun a b => DV.tup [a, b]) xs ys
theorem zipD_at {xs ys : List DV} {i : Nat} {d : DV} (h : (zipD xs ys)[i]? = some d) : ∃ x y, xs[i]? = some x ∧ ys[i]? = some y ∧ d = .tup [x, y] := by
  unfold zipD at h
  rw [List.getElem?_zipWith] at h
  cases hx : xs[i]? with
  | none => rw [hx] at h; cases h
  | some x =>
    cases hy : ys[i]? with
    | none => rw [hx, hy] at h; cases h
    | some y =>
      rw [hx, hy] at h
      exact ⟨x, y, rfl, rfl, (Option.some.inj h).symm⟩
theorem zipD_len (xs ys : List DV) : (zipD xs ys).length = min xs.length ys.length := by simp [zipD]
theorem sqT_of {w : Wd} {v : V} {ds : List DV} (h : Has w v (.tup ds)) : ∃ a vs, v = .ref a ∧ SqT w.K w.H a vs ∧ HasL w vs ds := by
  cases h with
  | tup s t => exact ⟨_, _, rfl, s, t⟩
theorem sqL_of {w : Wd} {v : V} {ds : List DV} (h : Has w v (.lst ds)) : ∃ a vs, v = .ref a ∧ SqL w.K w.H a vs ∧ HasL w vs ds := by
  cases h with
  | lst s t =>
    refine ⟨_, _, rfl, ?_, t⟩
    rcases s with ⟨_, s⟩ | s
    · exact .inl s
    · exact s.sq
theorem EvI.zipT (hg : Gl X "zip") (hm : X.mg "zip" = none) (h : EvA X [e, e2] ρ μ fun ds μ1 => ∃ xs ys, ds = [.tup xs, .tup ys] ∧ Ra (zipD xs ys) μ1)
    (hs : starEach [e, e2] X.env = (false, eval e X.env) :: starEach [e2] X.env := by rfl) (hpl : (backTo pos (starEach [e2] X.env)).any (·.1) = false := by rfl) : EvI X (.Tuple elts kk tpos) (.Call (.Name "zip" p) [e, e2] [] pos) ρ μ Ra :=
  PIw (RZ.pi_zipA hg hm pa_a hs hpl) fun σ H Q ⟨α, E, q⟩ => ⟨_, h, α, E, fun vs ds α1 μ1 H1 ⟨xs, ys, e, r⟩ E1 X1 hv => by
    subst e
    obtain ⟨v, u, rfl, h1, h2⟩ := hasL2 hv
    obtain ⟨a, vs1, rfl, s1, t1⟩ := sqT_of h1
    obtain ⟨b, vs2, rfl, s2, t2⟩ := sqT_of h2
    refine ⟨a, b, vs1, vs2, rfl, .inr ⟨s1, s2, q _ _ α1 μ1 H1 r E1 X1 fun α2 μ2 H2 k l => ?_⟩⟩
    obtain ⟨a', ws1, ea, r1, m1⟩ := sqT_of (k.has h1)
    obtain ⟨b', ws2, eb, r2, m2⟩ := sqT_of (k.has h2)
    cases ea
    cases eb
    refine ⟨fun i d hd => ?_, ⟨ws1, ws2, r1, r2, ?_⟩⟩
    · obtain ⟨x, y, e1, e2, rfl⟩ := zipD_at hd
      obtain ⟨x1, f1, g1⟩ := m1.get e1
      obtain ⟨y1, f2, g2⟩ := m2.get e2
      refine ⟨⟨ws1, ws2, x1, y1, r1, r2, f1, f2⟩, ?_⟩
      rintro z H' ⟨T, x2, y2, rfl, nT, rfl, c1, c2⟩
      have q1 := c1 ws1 r1
      have q2 := c2 ws2 r2
      rw [f1] at q1
      rw [f2] at q2
      cases q1
      cases q2
      obtain ⟨k2, l2⟩ := l.lay (o := .tup [x1, y1]) nT
      exact ⟨k2, l2, .tup (.of upd_same) (.cons (k2.has g1) (.cons (k2.has g2) .nil))⟩
    · rw [zipD_len, m1.length, m2.length]
      omega⟩
theorem EvI.zipL (hg : Gl X "zip") (hm : X.mg "zip" = none) (h : EvA X [e, e2] ρ μ fun ds μ1 => ∃ xs ys, ds = [.lst xs, .lst ys] ∧ Ra (zipD xs ys) μ1)
    (hs : starEach [e, e2] X.env = (false, eval e X.env) :: starEach [e2] X.env := by rfl) (hpl : (backTo pos (starEach [e2] X.env)).any (·.1) = false := by rfl) : EvI X (.Tuple elts kk tpos) (.Call (.Name "zip" p) [e, e2] [] pos) ρ μ Ra :=
  PIw (RZ.pi_zipA hg hm pa_a hs hpl) fun σ H Q ⟨α, E, q⟩ => ⟨_, h, α, E, fun vs ds α1 μ1 H1 ⟨xs, ys, e, r⟩ E1 X1 hv => by
    subst e
    obtain ⟨v, u, rfl, h1, h2⟩ := hasL2 hv
    obtain ⟨a, vs1, rfl, s1, t1⟩ := sqL_of h1
    obtain ⟨b, vs2, rfl, s2, t2⟩ := sqL_of h2
    refine ⟨a, b, vs1, vs2, rfl, .inl ⟨s1, s2, q _ _ α1 μ1 H1 r E1 X1 fun α2 μ2 H2 k l => ?_⟩⟩
    obtain ⟨a', ws1, ea, r1, m1⟩ := sqL_of (k.has h1)
    obtain ⟨b', ws2, eb, r2, m2⟩ := sqL_of (k.has h2)
    cases ea
    cases eb
    refine ⟨fun i d hd => ?_, ⟨ws1, ws2, r1, r2, ?_⟩⟩
    · obtain ⟨x, y, e1, e2, rfl⟩ := zipD_at hd
      obtain ⟨x1, f1, g1⟩ := m1.get e1
      obtain ⟨y1, f2, g2⟩ := m2.get e2
      refine ⟨⟨ws1, ws2, x1, y1, r1, r2, f1, f2⟩, ?_⟩
      rintro z H' ⟨T, x2, y2, rfl, nT, rfl, c1, c2⟩
      have q1 := c1 ws1 r1
      have q2 := c2 ws2 r2
      rw [f1] at q1
      rw [f2] at q2
      cases q1
      cases q2
      obtain ⟨k2, l2⟩ := l.lay (o := .tup [x1, y1]) nT
      exact ⟨k2, l2, .tup (.of upd_same) (.cons (k2.has g1) (.cons (k2.has g2) .nil))⟩
    · rw [zipD_len, m1.length, m2.length]
      omega⟩
end
end Eg

namespace Eg
open PySem PySem.Spec PyProof.Rows L2
section
variable {X : Cx} {ρ : RO} {μ : List MO} {pos : Pos} {R : Cn}
/-- the walk of a comprehension by what holds behind j items: I j what is made so far -/
theorem lc_S2 {elt iter : Expr} {ifs : List Expr} {scope : Scope} {x x' : Str} {px px' pt : Pos} {kt : Nat} (i i' : Nat) (hne : i ≠ i')
    (h : EvI X (.Tuple [.Name x px, .Name x' px'] kt pt) iter ρ μ fun ds μ1 => ds.length ≤ sizeLine ∧ ∃ I : Nat → List DV → List MO → Prop, I 0 [] μ1 ∧
      (∀ j d, ds[j]? = some d → ∃ d1 d2, d = .tup [d1, d2] ∧ ∀ acc μ2, μ2.length = μ1.length → I j acc μ2 → ∃ tt : RO → List MO → Ct → TT, (∀ s H C cl fp, PTs (blkX X s H scope C cl fp) ifs (tt ((ρ.set i (some d1)).set i' (some d2)) (μ2 ++ [.lst acc]) fun b μ3 =>
        if b = true then ∀ s H C cl fp, Ev (blkX X s H scope C cl fp) elt ((ρ.set i (some d1)).set i' (some d2)) μ3 fun y μ5 => ∃ μ4, μ5 = μ4 ++ [.lst acc] ∧ μ4.length = μ1.length ∧ I (j + 1) (acc ++ [y]) μ4
        else ∃ μ4, μ3 = μ4 ++ [.lst acc] ∧ μ4.length = μ1.length ∧ I (j + 1) acc μ4)) ∧ ∀ ρ' μ' Rt σ H Q, tEvT X ρ' μ' Rt σ H Q → tt ρ' μ' Rt σ H Q) ∧
      ∀ acc μ2, μ2.length = μ1.length → I ds.length acc μ2 → R (.lst acc) (μ2 ++ [.dead]))
    (σ : L2.St) (H : Hp) (Q : VK) (q : tEv X ρ μ R σ H Q) : tLc (aI X (.Tuple [.Name x px, .Name x' px'] kt pt) iter) (gTup X.K 2 (gCons (gName i) (gCons (gName i') gNil))) (aBT X scope ifs) (aB X scope elt) [i, i'] σ H Q := by
  obtain ⟨α, E, q⟩ := q
  refine ⟨_, h, α, E, ?_⟩
  rintro J ds α1 μ1 H1 ⟨hz, I, i0, turn, done⟩ E1 X1 ok D hD
  have hlen : α1.length = μ1.length := E1.live.len
  obtain ⟨kM, lM, eM⟩ := E1.live.layM (o := .lst []) (m := .lst []) hD (fun _ k => ⟨[], upd_same, .nil⟩)
  let P : Nat → Hp → Prop := fun j H' => ∃ acc μ' α', acc.length ≤ j ∧ I j acc μ' ∧ μ'.length = μ1.length ∧ α'[μ1.length]? = some D ∧ Live ⟨X.K, α', μ' ++ [.lst acc], H'⟩ ∧ Kp ⟨X.K, α1, μ1, H1⟩ ⟨X.K, α', μ' ++ [.lst acc], H'⟩
  refine ⟨fun j m H' => m = ds.length - j ∧ j ≤ ds.length ∧ P j H', ⟨ds.length, by simp, Nat.zero_le _, [], μ1, α1 ++ [D], Nat.le_refl _, i0, rfl, eM, lM, kM⟩, ?_⟩
  rintro j m H2 ⟨rfl, hj, acc, μ2, α2, ha, hI, hμ, hα, l2, k2⟩
  obtain ⟨go, stop⟩ := ok α2 _ H2 k2 l2
  have kD : (μ2 ++ [MO.lst acc])[μ1.length]? = some (.lst acc) := by
    rw [List.getElem?_append_right (by omega), hμ, Nat.sub_self]
    rfl
  have setl : ∀ (μ4 : List MO) (m m' : MO), μ4.length = μ1.length → (μ4 ++ [m]).set μ1.length m' = μ4 ++ [m'] := fun μ4 m m' e => by
    rw [← e]
    simp
  by_cases hlt : j < ds.length
  · obtain ⟨g1, g2⟩ := go j ds[j] (by simp [hlt])
    refine .inr ⟨g1, P (j + 1), fun H' p => ⟨ds.length - (j + 1), by omega, rfl, hlt, p⟩, fun y H3 yy => ?_⟩
    obtain ⟨ky, ly, hy⟩ := g2 y H3 yy
    obtain ⟨d1, d2, ed, turn'⟩ := turn j ds[j] (by simp [hlt])
    obtain ⟨tt, ht, hm⟩ := turn' acc μ2 hμ hI
    rw [ed] at hy
    obtain ⟨aT, ws, rfl, sT, tT⟩ := sqT_of hy
    obtain ⟨v1, v2, rfl, g1', g2'⟩ := hasL2 tT
    have ws2 : ∀ (τ : L2.St) (u v : Option V), wipe (((wipe τ [i, i']).set i u).set i' v) [i, i'] = wipe τ [i, i'] := fun τ u v => by
      simp only [wipe]
      rw [List.set_set, List.set_comm u none hne, List.set_set, List.set_comm none none hne, List.set_set, List.set_set]
    refine ⟨aT, _, rfl, sT, rfl, v1, [v2], rfl, v2, [], rfl, rfl, ws2 _ _ _, _, ht, ?_⟩
    have k3 := k2.trans ky
    have E3 : En ⟨X.K, α2, μ2 ++ [.lst acc], H3⟩ (((wipe σ [i, i']).set i (some v1)).set i' (some v2)) ((ρ.set i (some d1)).set i' (some d2)) := by
      have z := ((((E1.ext k3 ly).wipe i').wipe i).set i g1').set i' g2'
      have eρ : (((ρ.set i' none).set i none).set i (some d1)).set i' (some d2) = (ρ.set i (some d1)).set i' (some d2) := by
        rw [List.set_set, List.set_comm none (some d1) (Ne.symm hne), List.set_set]
      rw [eρ] at z
      exact z
    refine hm _ _ _ _ _ _ ⟨α2, E3, ?_⟩
    intro b α3 μ3 H4 r3 E4 k4
    cases b with
    | false =>
      refine iteF ?_
      obtain ⟨μ4, rfl, h4, hI4⟩ := r3
      exact ⟨acc, μ4, α3, Nat.le_succ_of_le ha, hI4, h4, k4.α _ _ hα, E4.live, k3.trans k4⟩
    | true =>
      refine iteT ⟨tEv X ((ρ.set i (some d1)).set i' (some d2)) μ3 _, r3, α3, E4, ?_⟩
      rintro v d α5 μ5 H5 ⟨μ4, rfl, h4, hI4⟩ E5 k5 hv
      have hα5 := k5.α _ _ (k4.α _ _ hα)
      have kD5 : (μ4 ++ [MO.lst acc])[μ1.length]? = some (.lst acc) := by
        rw [List.getElem?_append_right (by omega), h4, Nat.sub_self]
        rfl
      obtain ⟨vs, e1, e2⟩ := E5.live.ob _ _ _ hα5 kD5
      have hl := e2.length
      refine ⟨vs, e1, by omega, ?_⟩
      obtain ⟨k6, l6⟩ := E5.live.put (o := .lst (vs ++ [v])) (m := .lst (acc ++ [d])) hα5 kD5 (fun z => nomatch z) fun k => ⟨_, upd_same, HasL.app (k.hasL e2) (.cons (k.has hv) .nil)⟩
      rw [setl _ _ _ h4] at k6 l6
      exact ⟨acc ++ [d], μ4, α5, by rw [List.length_append]; exact Nat.succ_le_succ ha, hI4, h4, hα5, l6, k3.trans (k4.trans (k5.trans k6))⟩
  · have e : j = ds.length := by omega
    subst e
    refine .inl ⟨stop, ?_⟩
    obtain ⟨vs, e1, e2⟩ := l2.ob _ _ _ hα kD
    obtain ⟨k6, l6, nl⟩ := l2.freeze (k := μ1.length)
    rw [setl _ _ _ hμ] at k6 l6 nl
    have k7 := k2.trans k6
    exact q _ _ _ _ _ (done acc μ2 hμ hI) (E1.ext k7 l6) (X1.trans k7) (.lst (.inl ⟨nl _ hα, .inl e1⟩) (k6.hasL e2))
/-- [e for a, b in ..] -/
def Lc2 (X : Cx) (scope : Scope) (elt iter : Expr) (x x' : Str) (px px' pt : Pos) (kt i i' : Nat) (ρ : RO) (μ : List MO) (R : Cn) : Prop :=
  EvI X (.Tuple [.Name x px, .Name x' px'] kt pt) iter ρ μ fun ds μ1 => ds.length ≤ sizeLine ∧ ∃ I : Nat → List DV → List MO → Prop, I 0 [] μ1 ∧
      (∀ j d, ds[j]? = some d → ∃ d1 d2, d = .tup [d1, d2] ∧ ∀ acc μ2, μ2.length = μ1.length → I j acc μ2 → ∀ s H C cl fp, Ev (blkX X s H scope C cl fp) elt ((ρ.set i (some d1)).set i' (some d2)) (μ2 ++ [.lst acc]) fun y μ5 => ∃ μ4, μ5 = μ4 ++ [.lst acc] ∧ μ4.length = μ1.length ∧ I (j + 1) (acc ++ [y]) μ4) ∧
      ∀ acc μ2, μ2.length = μ1.length → I ds.length acc μ2 → R (.lst acc) (μ2 ++ [.dead])
theorem lc_S20 {elt iter : Expr} {scope : Scope} {x x' : Str} {px px' pt : Pos} {kt i i' : Nat} (hne : i ≠ i') (h : Lc2 X scope elt iter x x' px px' pt kt i i' ρ μ R) (σ : L2.St) (H : Hp) (Q : VK) (q : tEv X ρ μ R σ H Q) :
    tLc (aI X (.Tuple [.Name x px, .Name x' px'] kt pt) iter) (gTup X.K 2 (gCons (gName i) (gCons (gName i') gNil))) (aBT X scope []) (aB X scope elt) [i, i'] σ H Q :=
  lc_S2 i i' hne (EvI.mono h fun ds μ1 ⟨hz, I, i0, turn, done⟩ => ⟨hz, I, i0, fun j d h1 => by
    obtain ⟨d1, d2, ed, tn⟩ := turn j d h1
    exact ⟨d1, d2, ed, fun acc μ2 h2 h3 => ⟨fun ρ' μ' Rt σ H Q => ∃ α, En ⟨X.K, α, μ', H⟩ σ ρ' ∧ ∀ b α' μ'' H', Rt b μ'' → En ⟨X.K, α', μ'', H'⟩ σ ρ' → Kp ⟨X.K, α, μ', H⟩ ⟨X.K, α', μ'', H'⟩ → Q b H',
      fun s H C cl fp => ⟨fun pins s' σ H' Q' J ⟨α, E, q⟩ => pts_nil.run pins s' σ H' Q' J (q true α _ H' (tn acc μ2 h2 h3) E E.live.refl)⟩, fun _ _ _ _ _ _ z => z⟩⟩, done⟩) σ H Q q
theorem Ev.lc2 {elt iter : Expr} {scope : Scope} {x x' : Str} {px px' pt : Pos} {kt : Nat} (i i' : Nat) (hne : i ≠ i') (hc : X.calm = true) (hN : X.N.Nodup) (hi : X.N[i]? = some x) (hi' : X.N[i']? = some x') (ok : BlkOk X.N X.env.scope scope [(x, i), (x', i')])
    (hcb : ∀ (s : Shared) (H : Hp) (C : Addr) (cl : List (Str × Addr)) (fp : List Addr), (blkX X s H scope C cl fp).calm = true)
    (hl : ∀ (s : Shared) (H : Hp) (C : Addr) (cl : List (Str × Addr)) (fp : List Addr), Loc (blkX X s H scope C cl fp).env.scope x ∧ ((blkX X s H scope C cl fp).fn x = true ∨ (blkX X s H scope C cl fp).env.scope.names.lookup x = some .local))
    (hl' : ∀ (s : Shared) (H : Hp) (C : Addr) (cl : List (Str × Addr)) (fp : List Addr), Loc (blkX X s H scope C cl fp).env.scope x' ∧ ((blkX X s H scope C cl fp).fn x' = true ∨ (blkX X s H scope C cl fp).env.scope.names.lookup x' = some .local))
    (h : Lc2 X scope elt iter x x' px px' pt kt i i' ρ μ R) (hs : ∀ x, foldedSetIterable iter X.env x = pure x := by intro _; rfl) : Ev X (.ListComp elt [⟨.Tuple [.Name x px, .Name x' px'] kt pt, iter, [], 0⟩] scope pos) ρ μ R :=
  PEw (pe_lc (own := [(x, i), (x', i')]) (g := gTup X.K 2 (gCons (gName i) (gCons (gName i') gNil))) hc hN pi_a ok
    (fun s H C cl fp => pg_tup (hcb s H C cl fp) (pgs_cons (pg_name hN hi (hl s H C cl fp).1 (hl s H C cl fp).2) (pgs_cons (pg_name hN hi' (hl' s H C cl fp).1 (hl' s H C cl fp).2) pgs_nil)))
    (fun s H C cl fp => pts_aB s H C cl fp) (fun s H C cl fp => pe_aB s H C cl fp) hs) (lc_S20 hne h)
end
end Eg

namespace Eg
open PySem PySem.Spec L2
/-! ### what may be raised: a class and what it keeps -/
abbrev RXt := Addr → List (Str × DV) → List MO → Prop
/-- all that the context takes -/
def Wmax (X : Cx) : WX := fun c d σ H => ∀ u s', XE X (fun c' d' σ' H' => c' = c ∧ d' = d ∧ σ' = σ ∧ H' = H) u s' → X.xe u s'
theorem takes_max {X : Cx} : Takes X (Wmax X) := fun u s' ⟨a, B, sI, pins, σ, H, cls, d, e, I, nb, up, sky, na, os, ag, w⟩ =>
  w u s' ⟨a, B, sI, pins, σ, H, cls, d, e, I, nb, up, sky, na, os, ag, rfl, rfl, rfl, rfl⟩
theorem wmax_of {X : Cx} {W : WX} (t : Takes X W) {c : Value} {d : Option Addr} {σ : L2.St} {H : Hp} (h : σ.length = X.N.length → W c d σ H) : Wmax X c d σ H :=
  fun u s' ⟨a, B, sI, pins, σ', H', cls, d', e, I, nb, up, sky, na, os, ag, e1, e2, e3, e4⟩ => by
    subst e1 e2 e3 e4
    exact t u s' ⟨a, B, sI, pins, σ', H', cls, d', e, I, nb, up, sky, na, os, ag, h I.len⟩
/-- the wish at a raise, seen from the world w -/
def xq (X : Cx) (w : Wd) (RX : RXt) : Prop := ∀ C ds d fs σ' α' μ' H', RX C ds μ' → Live ⟨X.K, α', μ', H'⟩ → Kp w ⟨X.K, α', μ', H'⟩ → H' d = some (.xd fs) → HasF ⟨X.K, α', μ', H'⟩ fs ds → Wmax X (.ref C) (some d) σ' H'
theorem xq.next {X : Cx} {w : Wd} {RX : RXt} (q : xq X w RX) {w' : Wd} (k : Kp w w') : xq X w' RX := fun C ds d fs σ' α' μ' H' r l k' h1 h2 => q C ds d fs σ' α' μ' H' r l (k.trans k') h1 h2
section
variable {X : Cx} {a b c e : Expr} {es : List Expr} {s : Stmt} {rest xs ys : List Stmt} {ρ : RO} {μ : List MO} {pos p : Pos} {RX : RXt}
def tStX (X : Cx) (ρ : RO) (μ : List MO) (R : Co) (RX : RXt) : TS := fun D σ H => ∃ α, En ⟨X.K, α, μ, H⟩ σ ρ ∧
  ((∀ ρ' σ' α' μ' H', R (.nx ρ' μ') → En ⟨X.K, α', μ', H'⟩ σ' ρ' → Kp ⟨X.K, α, μ, H⟩ ⟨X.K, α', μ', H'⟩ → D.nx σ' H') ∧
   (∀ v d α' μ' H', R (.rt d μ') → Live ⟨X.K, α', μ', H'⟩ → Kp ⟨X.K, α, μ, H⟩ ⟨X.K, α', μ', H'⟩ → Has ⟨X.K, α', μ', H'⟩ v d → D.rt v H') ∧
   (∀ ρ' σ' α' μ' H', R (.bk ρ' μ') → En ⟨X.K, α', μ', H'⟩ σ' ρ' → Kp ⟨X.K, α, μ, H⟩ ⟨X.K, α', μ', H'⟩ → D.bk σ' H') ∧
   (∀ ρ' σ' α' μ' H', R (.ct ρ' μ') → En ⟨X.K, α', μ', H'⟩ σ' ρ' → Kp ⟨X.K, α, μ, H⟩ ⟨X.K, α', μ', H'⟩ → D.ct σ' H')) ∧ xq X ⟨X.K, α, μ, H⟩ RX
def StX (X : Cx) (s : Stmt) (ρ : RO) (μ : List MO) (R : Co) (RX : RXt) : Prop := PS X s (tStX X ρ μ R RX)
def StsX (X : Cx) (s : List Stmt) (ρ : RO) (μ : List MO) (R : Co) (RX : RXt) : Prop := PSs X s (tStX X ρ μ R RX)
theorem St.x {R : Co} (h : St X s ρ μ R) : StX X s ρ μ R RX := PSw h fun D σ H ⟨α, E, q, _⟩ => ⟨α, E, q⟩
theorem Sts.x {R : Co} (h : Sts X xs ρ μ R) : StsX X xs ρ μ R RX := PSsw h fun D σ H ⟨α, E, q, _⟩ => ⟨α, E, q⟩
def seqX (X : Cx) (rest : List Stmt) (R : Co) (RX : RXt) : Co := fun o => match o with
  | .nx ρ μ => StsX X rest ρ μ R RX
  | o => R o
theorem StsX.nil {R : Co} (h : R (.nx ρ μ)) : StsX X [] ρ μ R RX := Sts.x (Sts.nil h)
theorem StsX.cons {R : Co} (h : StX X s ρ μ (seqX X rest R RX) RX) : StsX X (s :: rest) ρ μ R RX :=
  PSsw (pss_cons (t := fun D σ H => ∃ t, PS X s t ∧ t D σ H) (u := fun D σ H => ∃ t, PSs X rest t ∧ t D σ H) ⟨fun pins s' σ H D I ⟨_, h, q⟩ => h.run pins s' σ H D I q⟩ ⟨fun pins s' σ H D I ⟨_, h, q⟩ => h.run pins s' σ H D I q⟩)
    fun D σ H ⟨α, E, ⟨q1, q2, q3, q4⟩, qx⟩ => ⟨_, h, α, E, ⟨fun ρ' σ' α' μ' H' (r : StsX X rest ρ' μ' R RX) E' X' => ⟨_, r, α', E',
      ⟨fun ρ2 σ2 α2 μ2 H2 r2 E2 X2 => q1 ρ2 σ2 α2 μ2 H2 r2 E2 (X'.trans X2), fun v d α2 μ2 H2 r2 l2 X2 => q2 v d α2 μ2 H2 r2 l2 (X'.trans X2),
      fun ρ2 σ2 α2 μ2 H2 r2 E2 X2 => q3 ρ2 σ2 α2 μ2 H2 r2 E2 (X'.trans X2), fun ρ2 σ2 α2 μ2 H2 r2 E2 X2 => q4 ρ2 σ2 α2 μ2 H2 r2 E2 (X'.trans X2)⟩, qx.next X'⟩, q2, q3, q4⟩, qx⟩
theorem StX.ifS {R : Co} (h : EvT X c ρ μ fun k μ1 => if k = true then StsX X xs ρ μ1 R RX else StsX X ys ρ μ1 R RX) : StX X (.If c xs ys pos) ρ μ R RX :=
  PSw (ps_if pt_a (t := fun D σ H => ∃ t, PSs X xs t ∧ t D σ H) (u := fun D σ H => ∃ t, PSs X ys t ∧ t D σ H) ⟨fun pins s' σ H D I ⟨_, h, q⟩ => h.run pins s' σ H D I q⟩ ⟨fun pins s' σ H D I ⟨_, h, q⟩ => h.run pins s' σ H D I q⟩)
    fun D σ H ⟨α, E, ⟨q1, q2, q3, q4⟩, qx⟩ => ⟨_, h, α, E, fun k α' μ' H' r E' X' => by
      have all : tStX X ρ μ' R RX D σ H' := ⟨α', E', ⟨fun ρ2 σ2 α2 μ2 H2 r2 E2 X2 => q1 ρ2 σ2 α2 μ2 H2 r2 E2 (X'.trans X2), fun v d α2 μ2 H2 r2 l2 X2 => q2 v d α2 μ2 H2 r2 l2 (X'.trans X2),
        fun ρ2 σ2 α2 μ2 H2 r2 E2 X2 => q3 ρ2 σ2 α2 μ2 H2 r2 E2 (X'.trans X2), fun ρ2 σ2 α2 μ2 H2 r2 E2 X2 => q4 ρ2 σ2 α2 μ2 H2 r2 E2 (X'.trans X2)⟩, qx.next X'⟩
      cases k with
      | true => exact iteT ⟨_, (show StsX X xs ρ μ' R RX from r), all⟩
      | false => exact iteF ⟨_, (show StsX X ys ρ μ' R RX from r), all⟩⟩
/-! ### a call that may raise, as the whole of an expression -/
def tEvX (X : Cx) (ρ : RO) (μ : List MO) (R : Cn) (RX : RXt) : TE := fun σ H Q => ∃ α, En ⟨X.K, α, μ, H⟩ σ ρ ∧
  (∀ v d α' μ' H', R d μ' → En ⟨X.K, α', μ', H'⟩ σ ρ → Kp ⟨X.K, α, μ, H⟩ ⟨X.K, α', μ', H'⟩ → Has ⟨X.K, α', μ', H'⟩ v d → Q v H') ∧ xq X ⟨X.K, α, μ, H⟩ RX
def EvX (X : Cx) (e : Expr) (ρ : RO) (μ : List MO) (R : Cn) (RX : RXt) : Prop := PE X e (tEvX X ρ μ R RX)
theorem Ev.x {R : Cn} (h : Ev X e ρ μ R) : EvX X e ρ μ R RX := PEw h fun σ H Q ⟨α, E, q, _⟩ => ⟨α, E, q⟩
theorem StX.expr {R : Co} (h : EvX X e ρ μ (fun _ μ1 => R (.nx ρ μ1)) RX) (hs : swapsWith e none pos.line X.env = pure false := by rfl) : StX X (.Expr e pos) ρ μ R RX :=
  PSw (ps_expr h hs) fun D σ H ⟨α, E, ⟨q1, q2, q3, q4⟩, qx⟩ => ⟨α, E, fun v d α' μ' H' r E' X' hv => q1 ρ σ α' μ' H' r E' X', qx⟩
theorem StX.ret {R : Co} (h : EvX X e ρ μ (fun d μ1 => R (.rt d μ1)) RX) : StX X (.Return (some e) pos) ρ μ R RX :=
  PSw (ps_ret h) fun D σ H ⟨α, E, ⟨q1, q2, q3, q4⟩, qx⟩ => ⟨α, E, fun v d α' μ' H' r E' X' hv => q2 v d α' μ' H' r E'.live X' hv, qx⟩
theorem StX.set {R : Co} (i : Nat) {x : Str} {pos' : Pos} (hN : X.N.Nodup) (hi : X.N[i]? = some x) (hx : Loc X.env.scope x) (hf : X.fn x = true ∨ X.env.scope.names.lookup x = some .local) (h : EvX X e ρ μ (fun d μ1 => R (.nx (ρ.set i (some d)) μ1)) RX) (hs : swapsWith e (some (.Name x pos')) pos.line X.env = pure false := by rfl) :
    StX X (.Assign [.Name x pos'] e pos) ρ μ R RX :=
  PSw (ps_set hN hi hx h hs hf) fun D σ H ⟨α, E, ⟨q1, q2, q3, q4⟩, qx⟩ => ⟨α, E, fun v d α1 μ1 H1 r1 E1 X1 hv => q1 _ _ α1 μ1 H1 r1 (E1.set i hv) X1, qx⟩
end
end Eg

namespace Eg
open PySem PySem.Spec PyProof.Rows L2
/-! ### defs that may raise -/
structure FnR (P : Program) (w : World) (K : PySem.W.Frag) (mg : Str → Option Value) (base : Heap) (k : Nat) (f : Addr) (fd : FuncData) (ps : List Str) (sp : Sp) : Prop where
  len : ∀ vs H Q E, sp vs H Q E → vs.length = ps.length
  go : ∀ (A : Around) (outer : List PySem.Env) (s : Shared) (H : Hp) (args : Args) (us : List Value) (vs : List V) (Q : VK) (E : XK), A.guards = some [] → Room k A → Env0 P w K mg base A outer s H →
    BindsTo s fd args (ps.zip us) → Vals vs us → sp vs H Q E → codeAny (model P w) A (.call (.ref f) args) (CR (L2.CX P w) outer P w H s Q E) s
/-- the context of a body that may raise -/
abbrev bxE (P : Program) (w : World) (K : PySem.W.Frag) (mg : Str → Option Value) (base : Heap) (N : List Str) (qual : Str) (scope : Scope) (f : Addr) (cd : Value) (A : Around) (outer : List PySem.Env) (s : Shared) (H : Hp) (E : XK) : Cx :=
  cxOf (L2.CX P w) P w K mg base N qual scope f cd A outer s H E
section
variable {P : Program} {w : World} {K : PySem.W.Frag} {mg : Str → Option Value} {base : Heap}
theorem takes_bx {N : List Str} {qual : Str} {scope : Scope} {f : Addr} {cd : Value} {A : Around} {outer : List PySem.Env} {s : Shared} {H : Hp} {E : XK} : Takes (bxE P w K mg base N qual scope f cd A outer s H E) (fun cls d _ H' => E cls d H') :=
  takes_of rfl rfl rfl rfl
theorem FnR.of {x qual : Str} {params : Arguments} {body : List Stmt} {scope : Scope} {dvs : List V} {kws : List (Str × V)} {f : Addr} {fd : FuncData} {N ps : List Str} {k : Nat} {sp : Sp}
    (F : FunD K x qual params body scope dvs kws f fd) (S : FnScope N ps scope) (len : ∀ vs H Q E, sp vs H Q E → vs.length = ps.length)
    (hb : ∀ (cd : Value) (A : Around) (outer : List PySem.Env) (s : Shared) (H : Hp) (vs : List V) (Q : VK) (E : XK), (A.deeper (envOfC qual scope s.heap.objs.size f cd)).guards = some [] → Room k (A.deeper (envOfC qual scope s.heap.objs.size f cd)) → sp vs H Q E →
      ∃ t, PSs (bxE P w K mg base N qual scope f cd A outer s H E) body t ∧ t { nx := fun _ H' => Q .non H', rt := Q } (L2.start N vs) H) : FnR P w K mg base (k + 1) f fd ps sp := by
  obtain ⟨oc, od, dV, kV, doc, pm, an, cd, ct, osl, rfl, lk, hcd, _, _⟩ := F.ex
  refine ⟨len, ?_⟩
  intro A outer s H args us vs Q E hg hr e0 hbind rv hsp
  have room := hr.deeper (envOfC qual scope s.heap.objs.size f cd)
  obtain ⟨t, ht, hq⟩ := hb cd A outer s H vs Q E (guards_in _ hg) room hsp
  have keep : ∀ b o, base.get? b = some o → s.heap.get? b = some o := fun b o z => (e0.bs b o z).1
  have KX : K.In s.heap := e0.mod.kin.keeps keep
  refine codeAny_call_function hr.depth (KX _ _ lk) rfl S.co S.gen rfl (PySem.W.codeRec_of KX hcd) (hbind _ _ _ _ ?_)
  have kinds : ∀ y ∈ ps.zip us, scope.names.lookup y.1 = some .local ∨ (scope.names.lookup y.1 = some .cell ∧ ((cellsFrom (s.heap.objs.size + 1) scope.names []).lookup y.1).isSome = true) := by
    rintro ⟨n, u⟩ hy
    have z := S.par n (List.of_mem_zip hy).1
    exact z.imp id fun z => ⟨z, PySem.W.cellsFrom_some _ _ _ (.inl z)⟩
  refine wpAny_newFunctionEnv_cells S.kind kinds fun env he s1 ic => ?_
  cases he
  refine ⟨(e0.mod.nolimit.keeps keep).keeps ic.toInCall.keep, codeAny_func ?_⟩
  have I : L2.Inv (bxE P w K mg base N qual scope f cd A outer s H E) [] (L2.start N vs) H s1 := inv_start S hr.hd e0 (len _ _ _ _ hsp) rv ic
  refine wpAny_mono (ht.run [] s1 (L2.start N vs) H _ I hq) (fun fl s' q => ?_) (fun _ _ z => z)
  cases fl with
  | ret u =>
    obtain ⟨v, σ', H', J, r, q⟩ := q
    exact ⟨v, H', J.os, J.bare, J.base, J.hok, r, q⟩
  | next =>
    obtain ⟨σ', H', J, q⟩ := q
    exact ⟨.non, H', J.os, J.bare, J.base, J.hok, rfl, q⟩
  | brk => exact (by obtain ⟨_, _, _, q⟩ := q; exact False.elim q)
  | cont => exact (by obtain ⟨_, _, _, q⟩ := q; exact False.elim q)
end
/-! ### promises over data, with what may be raised -/
abbrev CtrX := List DV → List MO → Cn → RXt → Prop
def SpX (K : PySem.W.Frag) (C : CtrX) : Sp := fun vs H Q E => ∃ α μ ds R RX, Live ⟨K, α, μ, H⟩ ∧ HasL ⟨K, α, μ, H⟩ vs ds ∧ C ds μ R RX ∧
  (∀ v d α' μ' H', R d μ' → Live ⟨K, α', μ', H'⟩ → Kp ⟨K, α, μ, H⟩ ⟨K, α', μ', H'⟩ → Has ⟨K, α', μ', H'⟩ v d → Q v H') ∧
  ∀ Cx ds d fs α' μ' H', RX Cx ds μ' → Live ⟨K, α', μ', H'⟩ → Kp ⟨K, α, μ, H⟩ ⟨K, α', μ', H'⟩ → H' d = some (.xd fs) → HasF ⟨K, α', μ', H'⟩ fs ds → E (.ref Cx) (some d) H'
def FnX (P : Program) (w : World) (K : PySem.W.Frag) (mg : Str → Option Value) (base : Heap) (x : Str) (k : Nat) (C : CtrX) : Prop :=
  ∃ f fd ps, FnR P w K mg base k f fd ps (SpX K C) ∧ mg x = some (.ref f) ∧ PySem.W.keepIn K (.ref f) = true ∧ Binds K fd ps []
theorem FnX.mono {P : Program} {w : World} {K : PySem.W.Frag} {mg : Str → Option Value} {base : Heap} {x : Str} {j k : Nat} {C : CtrX} (F : FnX P w K mg base x j C) (h : j ≤ k) : FnX P w K mg base x k C := by
  obtain ⟨f, fd, ps, ⟨l, g⟩, r⟩ := F
  exact ⟨f, fd, ps, ⟨l, fun A outer s H args us vs Q E hg hr => g A outer s H args us vs Q E hg (hr.mono h)⟩, r⟩
/-- what is raised behind a body; what was made beside may be forgotten -/
def finX (n : Nat) (RX : RXt) : RXt := fun C fs μ => RX C fs μ ∨ (DV.belF n fs = true ∧ (μ.take n).all (MO.bel n) = true ∧ RX C fs (μ.take n))
theorem hasF_cut {w : Wd} {n : Nat} {fs : List (Str × V)} {ds : List (Str × DV)} (h : HasF w fs ds) (p : DV.belF n ds = true) : HasF (w.cut n) fs ds := HasF.move (w := w) (w' := w.cut n) (n := n) rfl rfl (fun _ z => cut_lv z) cut_α h p
section
variable {P : Program} {w : World} {K : PySem.W.Frag} {mg : Str → Option Value} {base : Heap}
/-- THE RULE for a def that may raise -/
theorem FnR.mk2 {x : Str} {params : Arguments} {body : List Stmt} {scope : Scope} {kws : List (Str × V)} {f : Addr} {fd : FuncData} {N ps : List Str} {k : Nat} {C : CtrX}
    (F : FunD K x x params body scope [] kws f fd) (S : FnScope N ps scope) (len : ∀ ds μ R RX, C ds μ R RX → ds.length = ps.length)
    (hb : ∀ (cd : Value) (A : Around) (outer : List PySem.Env) (s : Shared) (H : Hp) (E : XK), (bxE P w K mg base N x scope f cd A outer s H E).A.guards = some [] → Room k (bxE P w K mg base N x scope f cd A outer s H E).A → (bxE P w K mg base N x scope f cd A outer s H E).N.Nodup →
      ∀ ds μ R RX, C ds μ R RX → StsX (bxE P w K mg base N x scope f cd A outer s H E) body (startD N ds) μ (fin μ.length R) (finX μ.length RX)) : FnR P w K mg base (k + 1) f fd ps (SpX K C) := by
  refine FnR.of F S (fun vs H Q E => ?_) (fun cd A outer s H vs Q E hg hr => ?_)
  · rintro ⟨α, μ, ds, R, RX, l, h, c, _⟩
    rw [h.length]
    exact len _ _ _ _ c
  · rintro ⟨α, μ, ds, R, RX, l, h, c, q, qx⟩
    refine ⟨_, hb cd A outer s H E hg hr S.nd ds μ R RX c, α, start_en l h, ⟨?_, ?_, ?_, ?_⟩, ?_⟩
    · intro ρ' σ' α' μ' H' r E' k'
      rcases r with r | ⟨r1, r2⟩
      · exact q _ _ α' μ' H' r E'.live k' .non
      · exact q _ _ _ _ _ r2 (E'.live.cutL μ.length r1) (Live.cut l E'.live k') .non
    · intro v d α' μ' H' r l' k' hv
      rcases r with r | ⟨r0, r1, r2⟩
      · exact q _ _ α' μ' H' r l' k' hv
      · exact q _ _ _ _ _ r2 (l'.cutL μ.length r1) (Live.cut l l' k') (hv.cut r0)
    · intro _ _ _ _ _ r
      exact r.elim
    · intro _ _ _ _ _ r
      exact r.elim
    · intro C' ds' d fs σ' α' μ' H' r l' k' h1 h2
      refine wmax_of takes_bx fun _ => ?_
      rcases r with r | ⟨r0, r1, r2⟩
      · exact qx _ _ _ _ _ _ _ r l' k' h1 h2
      · exact qx _ _ _ _ _ _ _ r2 (l'.cutL μ.length r1) (Live.cut l l' k') h1 (hasF_cut h2 r0)
theorem FnX.mk {x : Str} {params : Arguments} {body : List Stmt} {scope : Scope} {kws : List (Str × V)} {f : Addr} {fd : FuncData} {N ps : List Str} {k : Nat} {C : CtrX}
    (F : FunD K x x params body scope [] kws f fd) (S : FnScope N ps scope) (hm : mg x = some (.ref f))
    (hbd : ∀ (kV doc pm : Value) (an : Option Addr) (cdv ct : Value) (us : List Value), us.length = ps.length → bindArgs (PySem.W.fnOf x x params body scope .none kV doc pm an cdv ct) ⟨us, []⟩ = pure (ps.zip us))
    (len : ∀ ds μ R RX, C ds μ R RX → ds.length = ps.length)
    (hb : ∀ (cd : Value) (A : Around) (outer : List PySem.Env) (s : Shared) (H : Hp) (E : XK), (bxE P w K mg base N x scope f cd A outer s H E).A.guards = some [] → Room k (bxE P w K mg base N x scope f cd A outer s H E).A → (bxE P w K mg base N x scope f cd A outer s H E).N.Nodup →
      ∀ ds μ R RX, C ds μ R RX → StsX (bxE P w K mg base N x scope f cd A outer s H E) body (startD N ds) μ (fin μ.length R) (finX μ.length RX)) : FnX P w K mg base x (k + 1) C :=
  ⟨f, fd, ps, FnR.mk2 F S len hb, hm, F.kp, F.bindsN hbd⟩
end
section
variable {X : Cx} {e : Expr} {es : List Expr} {ρ : RO} {μ : List MO} {pos p : Pos} {R : Cn} {RX : RXt} {x : Str} {k : Nat} {C : CtrX}
theorem EvX.call (F : FnX X.prog X.w X.K X.mg X.base x k C) (hA : X.A.guards = some []) (hr : Room k X.A) (hg : Gl X x) (h : EvA X (e :: es) ρ μ fun ds μ1 => C ds μ1 R RX)
    (hdb : (x == ("__debug__" : Str)) = false := by decide) (he : starEach (e :: es) X.env = (false, eval e X.env) :: starEach es X.env := by rfl) (hpl : (backTo pos (starEach es X.env)).any (·.1) = false := by rfl) :
    EvX X (.Call (.Name x p) (e :: es) [] pos) ρ μ R RX := by
  obtain ⟨f, fd, ps, G, hm, hk, hb⟩ := F
  refine ⟨fun pins s σ H Q I ⟨α, E, q, qx⟩ => wpAny_Call_Name_kw (ld_glob I hg hm ?_ hdb)⟩
  have ha : PA X (e :: es) (tEvA X ρ μ fun ds μ1 => C ds μ1 R RX) := h
  refine PySem.W.callWith_K (h₀ := X.base) I.ok.mod.kin hk (thn (ha.run pos pins s σ H (fun vs H1 => SpX X.K C vs H1 (fun v H' => Q v H') (fun c d H' => Wmax X c d σ H')) I ⟨α, E, ?_⟩) ?_) he hpl
  · intro vs ds α1 μ1 H1 c E1 X1 hv
    exact ⟨α1, μ1, ds, R, RX, E1.live, hv, c, fun v d α' μ' H' r l k' hd => q v d α' μ' H' r (E1.ext k' l) (X1.trans k') hd,
      fun C' ds' d fs α' μ' H' r l k' h1 h2 => qx C' ds' d fs σ α' μ' H' r l (X1.trans k') h1 h2⟩
  · rintro us s1 ⟨vs, H1, I1, rv, sp⟩
    refine ⟨I1.kIn, ?_⟩
    have hl : us.length = ps.length := rv.length ▸ G.len _ _ _ _ sp
    refine wpAny_call (codeAny_mono (G.go X.A X.stack s1 H1 ⟨us, []⟩ us vs Q _ hA hr I1.env0 ?_ rv sp) fun r s2 hq => ?_)
    · have z := hb s1 us I1.kIn (by rw [List.append_nil]; exact hl)
      rw [List.append_nil] at z
      exact z
    · cases r with
      | error er => exact takes_max er s2 (XE.of_call I1 (fun _ _ _ h => h) hq)
      | ok fl =>
        cases fl with
        | ret u => exact I1.after hq
        | next => exact False.elim hq
        | brk => exact False.elim hq
        | cont => exact False.elim hq
end
end Eg

namespace Eg
open PySem PySem.Spec L2
/-! ### raise X(e, ..) of an own class whose __init__ stores -/
structure XR (P : Program) (w : World) (K : PySem.W.Frag) (mg : Str → Option Value) (base : Heap) (x : Str) (C : Addr) (k n : Nat) (fl : List V → List (Str × V)) : Prop where
  gC : mg x = some (.ref C)
  oc : OexC K C
  ini : ∃ fI fd ps, PySem.W.findIn K (.ref C) "__init__" = some (some (.ref fI)) ∧ PySem.W.typeIn K (.ref fI) = some (.type "function") ∧ FnOk P w K mg base L2.CX0 k fI fd ps (spI C n fl) ∧ Binds K fd ps []
section
variable {X : Cx} {e : Expr} {es : List Expr} {ρ : RO} {μ : List MO} {pos p pos1 : Pos} {R : Co} {RX : RXt} {x : Str} {C : Addr} {k n : Nat} {fl : List V → List (Str × V)}
theorem StX.raise {fdf : List DV → List (Str × DV)} (T : XR X.prog X.w X.K X.mg X.base x C k n fl) (hr : Room (k + 1) X.A) (hg : Gl X x) (hc : X.calm = true) (h0 : n ≤ 1000) (hf : ∀ ys ds w, HasL w ys ds → ys.length = n → HasF w (fl ys) (fdf ds))
    (h : EvA X (e :: es) ρ μ fun ds μ1 => ds.length = n ∧ RX C (fdf ds) μ1)
    (hdb : (x == ("__debug__" : Str)) = false := by decide) (he : starEach (e :: es) X.env = (false, eval e X.env) :: starEach es X.env := by rfl) (hpl : (backTo pos1 (starEach es X.env)).any (·.1) = false := by rfl) :
    StX X (.Raise (some (.Call (.Name x p) (e :: es) [] pos1)) none pos) ρ μ R RX := by
  obtain ⟨gC, oc, fI, fd, ps, iC, tI, F1, hb⟩ := T
  have ha : PA X (e :: es) (tEvA X ρ μ fun ds μ1 => ds.length = n ∧ RX C (fdf ds) μ1) := h
  refine PSw (ps_raise hc takes_max (pmk_oex oc iC tI F1 hr hb .nil pass0 hg gC ha hdb he hpl)) fun D σ H ⟨α, E, _, qx⟩ => ?_
  refine ⟨α, E, fun vs ds α1 μ1 H1 ⟨hn, r⟩ E1 X1 hv => ?_⟩
  have hl : vs.length = n := hv.length.trans hn
  refine ⟨by omega, fun a na => ⟨a, vs ++ [], rfl, by rw [List.append_nil]; exact hl, upd_same, fun d H' h1 h2 h3 h4 => ?_⟩⟩
  rw [List.append_nil] at h3
  have nd : d ≠ a := fun z => by
    rw [z, upd_same] at h1
    cases h1
  rw [upd_ne nd] at h1
  have keep : ∀ b, H1 b ≠ none → (upd (del H' a) d (.xd (fl vs))) b = H1 b := fun b hb => by
    have n1 : b ≠ a := fun z => hb (by rw [z]; exact na)
    have n2 : b ≠ d := fun z => hb (by rw [z]; exact h1)
    rw [upd_ne n2]
    show (if b = a then none else H' b) = H1 b
    rw [if_neg n1, h4 b (by rw [upd_ne n1]; exact hb) n1, upd_ne n1]
  obtain ⟨kp, l⟩ := E1.live.lays keep
  exact ⟨rfl, d, fl vs, h2, h3, h1, qx C (fdf ds) d (fl vs) σ α1 μ1 _ r l (X1.trans kp) upd_same (hf _ _ _ (kp.hasL hv) hl)⟩
end
/-! ### try: .. except X as n: return [s, n.f, n.g] -/
section
variable {X : Cx} {ρ : RO} {μ : List MO} {pos pos' np p1 p2 p3 p4 p5 p6 p7 : Pos} {R : Co} {x n s f1 f2 : Str} {C : Addr} {body : List Stmt} {j : Nat}
theorem St.try2 (i : Nat) (hs : X.stack = X.env :: X.outer) (hf : X.env.frame = some X.env.locals) (hN : X.N.Nodup) (hi : X.N[i]? = some n) (hln : X.env.kindOf n = some .local) (hc : Names X x (.ref C)) (hv : Vis X.env.scope n)
    (hd : (n == ("__debug__" : Str)) = false) (hcd : (n == ("__classdict__" : Str)) = false) (XF : XfC X.K C) (no1 : PySem.W.findIn X.K (.ref C) f1 = some none) (no2 : PySem.W.findIn X.K (.ref C) f2 = some none) (hx : PySem.W.exmOne X.K (.ref C) (.ref C) = some true)
    (h : ∀ pn xe, PassesOwn (model X.prog X.w) X.A X.env xe → StsX (X.tr pn xe) body ρ μ R fun C' fs μ' => C' = C ∧ ∃ d1 d2, fs.lookup f1 = some d1 ∧ fs.lookup f2 = some d2 ∧ R (.rt (.lst [.str s, d1, d2]) μ')) :
    St X (.Try body [.ExceptHandler (some (.Name x np)) (some n) [.Return (some (.List [.Constant (.str s) j p1, .Attribute (.Name n p2) f1 p3, .Attribute (.Name n p4) f2 p5] p6)) p7] pos'] [] [] pos) ρ μ R := by
  refine PSw (ps_try_as (i := i) (tb := fun W D σ H => ∃ α, En ⟨X.K, α, μ, H⟩ σ ρ ∧
      ((∀ ρ' σ' α' μ' H', R (.nx ρ' μ') → En ⟨X.K, α', μ', H'⟩ σ' ρ' → Kp ⟨X.K, α, μ, H⟩ ⟨X.K, α', μ', H'⟩ → D.nx σ' H') ∧
       (∀ v d α' μ' H', R (.rt d μ') → Live ⟨X.K, α', μ', H'⟩ → Kp ⟨X.K, α, μ, H⟩ ⟨X.K, α', μ', H'⟩ → Has ⟨X.K, α', μ', H'⟩ v d → D.rt v H') ∧
       (∀ ρ' σ' α' μ' H', R (.bk ρ' μ') → En ⟨X.K, α', μ', H'⟩ σ' ρ' → Kp ⟨X.K, α, μ, H⟩ ⟨X.K, α', μ', H'⟩ → D.bk σ' H') ∧
       (∀ ρ' σ' α' μ' H', R (.ct ρ' μ') → En ⟨X.K, α', μ', H'⟩ σ' ρ' → Kp ⟨X.K, α, μ, H⟩ ⟨X.K, α', μ', H'⟩ → D.ct σ' H')) ∧
      ∀ C' ds d fs σ' α' μ' H', (C' = C ∧ ∃ d1 d2, List.lookup f1 ds = some d1 ∧ List.lookup f2 ds = some d2 ∧ R (.rt (.lst [.str s, d1, d2]) μ')) → Live ⟨X.K, α', μ', H'⟩ → Kp ⟨X.K, α, μ, H⟩ ⟨X.K, α', μ', H'⟩ → H' d = some (.xd fs) → HasF ⟨X.K, α', μ', H'⟩ fs ds → σ'.length = X.N.length → W (.ref C') (some d) σ' H')
    hs hf hN hi hln hc takes0 (fun W pn xe tk po => PSsw (h pn xe po) fun D σ H ⟨α, E, q, qx⟩ => ⟨α, E, q, fun C' ds d fs σ' α' μ' H' r l k h1 h2 => ?_⟩)
    (fun a oe cls d pn hz hfl => pss_one (ps_ret (pe_lst (pa_cons pe_str (pa_cons (pe_xf XF no1 hz hfl (pe_var hi hv hd hcd)) (pa_cons (pe_xf XF no2 hz hfl (pe_var hi hv hd hcd)) pa_nil))))))) fun D σ H ⟨α, E, q⟩ => ?_
  · exact wmax_of tk fun hl => qx C' ds d fs σ' α' μ' H' r l k h1 h2 hl
  · refine ⟨α, E, q, ?_⟩
    rintro C' ds d fs σ' α' μ' H' ⟨rfl, d1, d2, l1, l2, r⟩ l k h1 h2 hl
    obtain ⟨v1, e1, g1⟩ := hasF_look h2 l1
    obtain ⟨v2, e2, g2⟩ := hasF_look h2 l2
    refine ⟨true, hx, fun _ a na => ?_, fun z => nomatch z⟩
    have hat : (List.set σ' i (some (V.ref a)))[i]? = some (some (V.ref a)) := by
      have hi' : i < σ'.length := by
        rw [hl]
        exact (List.getElem?_eq_some_iff.mp hi).1
      simp [hi']
    refine ⟨.ref a, hat, rfl, rfl, d, fs, v1, rfl, h1, e1, .ref a, hat, rfl, rfl, d, fs, v2, rfl, h1, e2, by show 3 ≤ sizeLine; decide, fun p np => ?_⟩
    obtain ⟨kp, lp⟩ := l.lay (o := .lst [.str s, v1, v2]) np
    exact q.2.1 _ _ α' μ' _ r lp (k.trans kp) (.lst (.inl ⟨l.fresh np, .inl upd_same⟩) (kp.hasL (.cons .str (.cons g1 (.cons g2 .nil)))))
end
end Eg

namespace Eg
open PySem PySem.Spec L2
section
variable {X : Cx} {a b c e o : Expr} {ρ : RO} {μ : List MO} {pos p pos' : Pos}
/-! ### x += e -/
theorem St.augAdd {R : Co} (i : Nat) {x : Str} (n : Int) (hN : X.N.Nodup) (hi : X.N[i]? = some x) (hx : Loc X.env.scope x) (hn : ρ[i]? = some (some (.int n))) (hf : X.fn x = true ∨ X.env.scope.names.lookup x = some .local)
    (h : Ev X e ρ μ fun d μ1 => ∃ j, d = .int j ∧ R (.nx (ρ.set i (some (.int (n + j)))) μ1)) : St X (.AugAssign (.Name x pos') .Add e pos) ρ μ R :=
  PSw (ps_aug hN hi hx h ip_add hf) fun D σ H ⟨α, E, q⟩ => by
    obtain ⟨v, e1, e2⟩ := E.at_ i _ hn
    cases e2
    refine ⟨.int n, e1, α, E, ?_⟩
    rintro v d α1 μ1 H1 ⟨j, rfl, r⟩ E1 X1 hv
    cases hv
    exact ⟨n, j, rfl, rfl, q.1 _ _ α1 μ1 H1 r (E1.set i .int) X1⟩
theorem St.augSub {R : Co} (i : Nat) {x : Str} (n : Int) (hN : X.N.Nodup) (hi : X.N[i]? = some x) (hx : Loc X.env.scope x) (hn : ρ[i]? = some (some (.int n))) (hf : X.fn x = true ∨ X.env.scope.names.lookup x = some .local)
    (h : Ev X e ρ μ fun d μ1 => ∃ j, d = .int j ∧ R (.nx (ρ.set i (some (.int (n - j)))) μ1)) : St X (.AugAssign (.Name x pos') .Sub e pos) ρ μ R :=
  PSw (ps_aug hN hi hx h ip_sub hf) fun D σ H ⟨α, E, q⟩ => by
    obtain ⟨v, e1, e2⟩ := E.at_ i _ hn
    cases e2
    refine ⟨.int n, e1, α, E, ?_⟩
    rintro v d α1 μ1 H1 ⟨j, rfl, r⟩ E1 X1 hv
    cases hv
    exact ⟨n, j, rfl, rfl, q.1 _ _ α1 μ1 H1 r (E1.set i .int) X1⟩
/-! ### parts of texts -/
theorem Ev.sliceS {lo hi : Option Expr} {p2 : Pos} {R : Cn} (h : Ev X a ρ μ fun d μ1 => ∃ z, d = .str z ∧ z.length ≤ sizeLine ∧ EvP X lo ρ μ1 fun l μ2 => EvP X hi ρ μ2 fun u μ3 => R (.str (cutS z l u)) μ3) : Ev X (.Subscript a (.Slice lo hi none p2) pos) ρ μ R :=
  PEw (pe_slice sl_str pe_a po_a po_a) fun σ H Q ⟨α, E, q⟩ => ⟨_, h, α, E, fun v d α1 μ1 H1 ⟨z, e, hz, h1⟩ E1 X1 hv => by
    subst e
    cases hv
    exact ⟨_, h1, α1, E1, fun l α2 μ2 H2 h2 E2 X2 => ⟨_, h2, α2, E2, fun u α3 μ3 H3 h3 E3 X3 => ⟨z, rfl, hz, q _ _ α3 μ3 H3 h3 E3 (X1.trans (X2.trans X3)) .str⟩⟩⟩⟩
/-- xs[::-1] -/
theorem Ev.revL {k : Nat} {p1 p2 p3 : Pos} {R : Cn} (h : Ev X e ρ μ fun d μ1 => ∃ ds, d = .lst ds ∧ R (.lst ds.reverse) μ1) : Ev X (.Subscript e (.Slice none none (some (.UnaryOp .USub (.Constant (.int 1) k p1) p2)) p3) pos) ρ μ R :=
  PEw (pe_revL pe_a) fun σ H Q ⟨α, E, q⟩ => ⟨_, h, α, E, fun v d α1 μ1 H1 ⟨ds, e, r⟩ E1 X1 hv => by
    subst e
    obtain ⟨a, vs, rfl, s, t⟩ := sqL_of hv
    refine ⟨a, vs, rfl, s, fun p np => ?_⟩
    obtain ⟨k, l⟩ := E1.live.lay (o := .lst vs.reverse) np
    exact q _ _ α1 μ1 _ r (E1.ext k l) (X1.trans k) (.lst (.inl ⟨E1.live.fresh np, .inl upd_same⟩) (k.hasL (HasL.rev t)))⟩
where HasL.rev {w : Wd} : ∀ {vs : List V} {ds : List DV}, HasL w vs ds → HasL w vs.reverse ds.reverse
  | _, _, .nil => .nil
  | _, _, .cons h t => by
    rw [List.reverse_cons, List.reverse_cons]
    exact HasL.app (HasL.rev t) (.cons h .nil)
/-! ### s.split(t), s.find(t, i), str(n) -/
theorem strs_has {w : Wd} : ∀ ys : List Str, HasL w (ys.map V.str) (ys.map DV.str)
  | [] => .nil
  | _ :: r => .cons .str (strs_has r)
theorem Ev.split {R : Cn} {apos cpos : Pos} (h : Ev X o ρ μ fun dO μ1 => ∃ z, dO = .str z ∧ z.length + 2 ≤ sizeLine ∧ EvA X [e] ρ μ1 fun ds μ2 => ∃ t, ds = [.str t] ∧ (t.length == 0) = false ∧ R (.lst ((Txt.split z t).map DV.str)) μ2)
    (hbase : attributeBase o "split" X.env (eval o X.env) = eval o X.env := by rfl)
    (hfew : ((backTo cpos (starEach [e] X.env)).all (fun x => !x.1) && (backToKw cpos (keywordEach [] X.env)).all (fun x => x.1.isSome)
      && decide ([e].length + ([] : List Keyword).length + (if ([] : List Keyword).isEmpty then 0 else 1) < 30)) = true := by rfl)
    (hline : (apos.endLine == cpos.line) = true := by rfl) (hs : starEach [e] X.env = (false, eval e X.env) :: starEach [] X.env := by rfl) :
    Ev X (.Call (.Attribute o "split" apos) [e] [] cpos) ρ μ R :=
  PEw (pe_bm PySem.F.plainAttrs_str PySem.F.slot_str_split PySem.F.type_str_split mt_split pe_a pa_a hbase hfew hline hs rfl) fun σ H Q ⟨α, E, q⟩ => ⟨_, h, α, E, fun v dO α1 μ1 H1 ⟨z, e1, hz, h1⟩ E1 X1 hv => by
    subst e1
    cases hv
    refine ⟨rfl, _, h1, α1, E1, ?_⟩
    rintro us ds α2 μ2 H2 ⟨t, rfl, ht, r⟩ E2 X2 hus
    obtain ⟨u, rfl, hu⟩ := hasL1 hus
    cases hu
    refine ⟨z, t, rfl, rfl, ht, hz, fun p np => ?_⟩
    obtain ⟨k, l⟩ := E2.live.lay (o := .lst ((Txt.split z t).map V.str)) np
    exact q _ _ α2 μ2 _ r (E2.ext k l) (X1.trans (X2.trans k)) (.lst (.inl ⟨E2.live.fresh np, .inl upd_same⟩) (strs_has _))⟩
theorem Ev.find3 {R : Cn} {apos cpos : Pos} (h : Ev X o ρ μ fun dO μ1 => ∃ z, dO = .str z ∧ EvA X [a, b] ρ μ1 fun ds μ2 => ∃ t i, ds = [.str t, .int i] ∧ R (.int (Txt.find3 z t i)) μ2)
    (hbase : attributeBase o "find" X.env (eval o X.env) = eval o X.env := by rfl)
    (hfew : ((backTo cpos (starEach [a, b] X.env)).all (fun x => !x.1) && (backToKw cpos (keywordEach [] X.env)).all (fun x => x.1.isSome)
      && decide ([a, b].length + ([] : List Keyword).length + (if ([] : List Keyword).isEmpty then 0 else 1) < 30)) = true := by rfl)
    (hline : (apos.endLine == cpos.line) = true := by rfl) (hs : starEach [a, b] X.env = (false, eval a X.env) :: starEach [b] X.env := by rfl) (hp : (backTo cpos (starEach [b] X.env)).any (·.1) = false := by rfl) :
    Ev X (.Call (.Attribute o "find" apos) [a, b] [] cpos) ρ μ R :=
  PEw (pe_bm PySem.F.plainAttrs_str PySem.F.slot_str_find PySem.F.type_str_find mt_find3 pe_a pa_a hbase hfew hline hs hp) fun σ H Q ⟨α, E, q⟩ => ⟨_, h, α, E, fun v dO α1 μ1 H1 ⟨z, e1, h1⟩ E1 X1 hv => by
    subst e1
    cases hv
    refine ⟨rfl, _, h1, α1, E1, ?_⟩
    rintro us ds α2 μ2 H2 ⟨t, i, rfl, r⟩ E2 X2 hus
    obtain ⟨u, w, rfl, hu, hw⟩ := hasL2 hus
    cases hu
    cases hw
    exact ⟨z, t, i, rfl, rfl, q _ _ α2 μ2 _ r E2 (X1.trans X2) .int⟩⟩
def sStrI : SA := fun ds μ R => ∃ i, ds = [.int i] ∧ i.natAbs.log2 < 1920 ∧ R (.str (Str.ofString (toString i))) μ
theorem strI_S : RaS X (fun xs H Q => ∃ i, xs = [.int i] ∧ i.natAbs.log2 < 1920 ∧ Q (.str (Str.ofString (toString i))) H) sStrI := fun α μ H σ ρ vs ds R Q E hv h q => by
  obtain ⟨i, rfl, c, r⟩ := h
  obtain ⟨v, rfl, hw⟩ := hasL1 hv
  cases hw
  exact ⟨i, rfl, c, q.sc E r .str⟩
theorem Ev.toStr {R : Cn} (hg : Gl X "str") (hm : X.mg "str" = none) (h : EvA X [e] ρ μ fun ds μ1 => sStrI ds μ1 R) (he : starEach [e] X.env = (false, eval e X.env) :: starEach [] X.env := by rfl) :
    Ev X (.Call (.Name "str" p) [e] [] pos) ρ μ R := .callTy call_str_int strI_S hg hm PyProof.Rows.boot_str h (by decide) (by decide) he rfl
end
end Eg

namespace Eg
open PySem PySem.Spec PyProof.Rows L2
/-! ### for i, x in enumerate(xs, start=k) -/
/-- pairs of a count from k on and an item of the list at a -/
def Itn (K : PySem.W.Frag) (a : Addr) (k : Int) : It where
  go := fun i H => ∃ (xs : List V) (x : V), SqL K H a xs ∧ xs[i]? = some x
  yld := fun i H v H' => ∃ (T : Addr) (x : V), v = .ref T ∧ H T = none ∧ H' = upd H T (.tup [.int (k + (i : Int)), x]) ∧ ∀ xs, SqL K H a xs → xs[i]? = some x
  stop := fun i H => ∃ xs : List V, SqL K H a xs ∧ xs.length = i
theorem turn_count {P : Program} {w : World} {K : PySem.W.Frag} {elts : List Expr} {kk : Nat} {tpos : Pos} (a e it : Addr) (k : Int) :
    Turn P w K (.Tuple elts kk tpos) (Itn K a k) [e, it] e fun i h => (∃ old, IsEnum h e it (k + (i : Int)) old) ∧ h.IsListIter it a i ∧ e ≠ it ∧ a ≠ it ∧ a ≠ e where
  mem := List.mem_cons_self
  obj := by
    rintro i h ⟨⟨old, he⟩, ⟨o, ho, hc, hd⟩, _⟩ b hb
    rcases List.mem_cons.mp hb with z | z
    · subst z
      exact ⟨_, he, fun v q => nomatch q⟩
    · obtain rfl := List.mem_singleton.mp z
      exact ⟨o, ho, fun v q => by rw [hd] at q; cases q⟩
  keep := by
    rintro i h h' ⟨⟨old, he⟩, hi, r⟩ kp
    exact ⟨⟨old, kp e List.mem_cons_self _ he⟩, hi.at fun o q => kp it (List.mem_cons_of_mem _ List.mem_cons_self) o q, r⟩
  item := by
    rintro X rfl rfl rfl hc i pins s σ H E I hf ⟨⟨old, he⟩, hit, n1, n2, n3⟩ ⟨xs, x, hq, hx⟩
    obtain ⟨its, rv, p, hz⟩ := I.list hq
    obtain ⟨u, hu, ru⟩ := rv.get hx
    have hlt : i < its.toArray.size := by
      rw [List.size_toArray]
      exact (List.getElem?_eq_some_iff.mp hu).1
    have le : e < s.heap.objs.size := Heap.lt_size he
    have li : it < s.heap.objs.size := by
      obtain ⟨_, q, _⟩ := hit
      exact Heap.lt_size q
    have hef : e ∉ [it, a] := by
      intro z
      rcases List.mem_cons.mp z with z | z
      · exact n1 z
      · exact n3 (List.mem_singleton.mp z).symm
    refine wpAny_pyNext_enum_itemC (Draws.list (A := X.A.in1) (I.ok.hd hc) it a n2 its.toArray) he ⟨hit, p.isList⟩ hlt n1 hef ?_
    rintro x' h' tk hx' out ⟨hit', _⟩ hT hsz keep
    have ex : x' = u := by
      have z : its.toArray[i]? = some u := by
        rw [List.getElem?_toArray]
        exact hu
      have hx2 : its.toArray[i]? = some x' := hx'
      rw [hx2] at z
      exact Option.some.inj z
    subst ex
    refine ⟨_, rfl, wpAny_letOwnedTupleGo_enum (s := { s with heap := h', toks := tk + 1 }) out fun h2 he2 sb => ?_⟩
    have at2 : h2.get? s.heap.objs.size = some { cls := .type "tuple", data := .seq #[.int (k + (i : Int)) tk, x'] } := (sb.2 _ (Nat.ne_of_gt le)).trans hT
    have new : ObjOk X.prog X.w (upd H s.heap.objs.size (.tup [.int (k + (i : Int)), x])) h2 s.heap.objs.size (.tup [.int (k + (i : Int)), x]) :=
      ⟨by show 2 ≤ sizeLine; decide, [.int (k + (i : Int)) tk, x'], .cons ⟨_, rfl⟩ (.cons ru .nil), ⟨_, at2, rfl, _, rfl⟩⟩
    have I2 : L2.Inv X pins σ (upd H s.heap.objs.size (.tup [.int (k + (i : Int)), x])) { s with heap := h2, toks := tk + 1 } := by
      refine I.turnedNew (ch := [e, it]) (fun b ob hb q => ?_) hf (Nat.le_refl _) new
      have b1 : b ≠ e := fun z => hb (by rw [z]; exact List.mem_cons_self)
      have b2 : b ≠ it := fun z => hb (by rw [z]; exact List.mem_cons_of_mem _ List.mem_cons_self)
      exact (sb.2 b b1).trans (keep b ob b1 b2 q)
    have cnt : k + ((i + 1 : Nat) : Int) = k + (i : Int) + 1 := by omega
    refine ⟨.ref s.heap.objs.size, _, I2, rfl, ⟨_, x, rfl, I.hok.fresh (Nat.le_refl _), rfl, fun ys hy => ?_⟩, ⟨⟨x', ?_⟩, hit'.at fun o q => (sb.2 it (Ne.symm n1)).trans q, n1, n2, n3⟩, fun b hb => ?_⟩
    · rw [I.list_inj hy hq]
      exact hx
    · rw [cnt]
      exact he2
    · have lb : b < s.heap.objs.size := by
        rcases List.mem_cons.mp hb with z | z
        · rw [z]; exact le
        · rw [List.mem_singleton.mp z]; exact li
      rw [upd_ne (Nat.ne_of_lt lb)]
      exact (hf b hb).1
  done := by
    rintro X rfl rfl rfl hc i pins s σ H E I hf ⟨⟨old, he⟩, hit, n1, n2, n3⟩ ⟨xs, hq, hx⟩
    obtain ⟨its, rv, p, hz⟩ := I.list hq
    obtain ⟨f0, f1, f2, f3, f4, f5⟩ := hf it (List.mem_cons_of_mem _ List.mem_cons_self)
    have en : its.toArray.size = i := by
      rw [List.size_toArray, ← rv.length]
      exact hx
    exact wpAny_pyNext_enum_endD (Draws.list (A := X.A.in1) (I.ok.hd hc) it a n2 its.toArray) he (by rw [en]; exact ⟨hit, p.isList⟩) fun h' eb => ⟨rfl, I.turned (t' := s.toks) (fun b o hb q => eb b o hb q) f0 f1 f3 f4 f5⟩
  self := by
    rintro A i s Q E ⟨⟨_, he⟩, _⟩ h
    exact wpAny_pyIter_enum he h
section
variable {X : Cx} {e ek : Expr} {ρ : RO} {μ : List MO} {p pos tpos kpos : Pos} {elts : List Expr} {kk : Nat} {Ra : Ca}
/-- the pairs that come -/
def cntD (k : Int) : List DV → List DV
  | [] => []
  | d :: r => .tup [.int k, d] :: cntD (k + 1) r
theorem cntD_at : ∀ (ds : List DV) (k : Int) (i : Nat) (d : DV), (cntD k ds)[i]? = some d → ∃ x, ds[i]? = some x ∧ d = .tup [.int (k + (i : Int)), x]
  | [], _, _, _, h => by simp [cntD] at h
  | x :: r, k, 0, d, h => by
    have h' : some (DV.tup [.int k, x]) = some d := h
    refine ⟨x, rfl, ?_⟩
    rw [← Option.some.inj h']
    simp
  | x :: r, k, i + 1, d, h => by
    obtain ⟨y, h1, h2⟩ := cntD_at r (k + 1) i d h
    refine ⟨y, h1, ?_⟩
    rw [h2]
    have : k + 1 + (i : Int) = k + ((i + 1 : Nat) : Int) := by omega
    rw [this]
theorem cntD_len : ∀ (ds : List DV) (k : Int), (cntD k ds).length = ds.length
  | [], _ => rfl
  | _ :: r, k => by
    show (cntD (k + 1) r).length + 1 = r.length + 1
    rw [cntD_len r]
theorem type_kw {M : Model} {A : Around} {E : Value → Shared → Prop} {s : Shared} {cp : Pos} {T : String} {args : List (Bool × Sem Value)} {kws : List (Option Str × Sem Value)} {Q : Value → Shared → Prop} (hp : (args.any (·.1) || kws.any (·.1.isNone)) = false)
    (h : wpAny M A (evalArgs (.type T) true args kws) (fun a s1 => wpAny M A (call (.type T) a.pos a.kw) Q E s1) E s) : wpAny M A (callWith cp (.type T) [] args kws) Q E s := by
  unfold callWith
  refine wpAny_bind (wpAny_holding ?_)
  refine wpAny_mono h (fun a s1 h1 => ?_) fun _ _ x => x
  refine wpAny_bind (wpAny_standAt ?_)
  simp only [hp]
  refine wpAny_bind (wpAny_pure (wpAny_bind ?_))
  refine wpAny_mono h1 (fun r s2 hr => ?_) fun _ _ x => x
  refine wpAny_bind (wpAny_holding ?_)
  exact wpAny_point (wpAny_pure hr)
def iCnt (K : PySem.W.Frag) (ta tk : TA) : TI := fun σ H R => ta σ H fun vs H1 => tk σ H1 fun ks H2 => ∃ a xs k, vs = [.ref a] ∧ ks = [.int k] ∧ SqL K H2 a xs ∧ -(2 ^ 63) ≤ k ∧ k < 2 ^ 63 ∧ R (Itn K a k) H2
theorem pi_count {ta tk : TA} (hg : Gl X "enumerate") (hm : X.mg "enumerate" = none) (ha : PA X [e] ta) (hk : PK X [⟨some "start", ek, kpos⟩] tk)
    (hs : starEach [e] X.env = (false, eval e X.env) :: starEach [] X.env := by rfl)
    (hall : (backToKw pos (keywordEach [⟨some "start", ek, kpos⟩] X.env)).all (·.1.isSome) = true := by rfl) (hks : (backToKw pos (keywordEach [⟨some "start", ek, kpos⟩] X.env)).filterMap (·.1) = [Str.ofString "start"] := by rfl)
    (hpl : ((backTo pos (starEach [e] X.env)).any (·.1) || (backToKw pos (keywordEach [⟨some "start", ek, kpos⟩] X.env)).any (·.1.isNone)) = false := by rfl) :
    PI X (.Tuple elts kk tpos) (.Call (.Name "enumerate" p) [e] [⟨some "start", ek, kpos⟩] pos) (iCnt X.K ta tk) := by
  refine ⟨fun pins s σ H R I h => ?_⟩
  refine wpAny_Call_Name_kw (ld_blt I hg hm boot_enumerate ?_ (by decide) (by decide))
  refine type_kw hpl (evalArgs_kw2 hall (thn (ha.run pos pins s σ H _ I h) fun us s1 ⟨vs, H1, I1, r1, q1⟩ => thn (hk.run pos pins s1 σ H1 _ I1 q1) fun ws s2 ⟨ks, H2, I2, r2, a, xs, k, ev, ek, hq, k0, k1, q⟩ => ?_) hs)
  subst ev ek
  rw [hks]
  obtain ⟨u, rfl, ru⟩ := vals1 r1
  obtain ⟨v, rfl, rv⟩ := vals1 r2
  have eu : u = Value.ref a := ru
  subst eu
  obtain ⟨t, rfl⟩ := rv
  obtain ⟨its, rvs, p', hz⟩ := I2.list hq
  show wpAny _ _ (call (.type "enumerate") [.ref a] [(Str.ofString "start", .int k t)]) _ _ s2
  refine enum_begins_start (begins_list a its.toArray) p'.isList k0 k1 fun h' he hit hsz hkp => wpAny_pyIter_enum he ?_
  have I3 : L2.Inv X pins σ H2 { s2 with heap := h' } := I2.kept (t' := s2.toks) hkp
  have ha : a < s2.heap.objs.size := by
    obtain ⟨o, q, _⟩ := p'.isList
    exact Heap.lt_size q
  refine ⟨s2.heap.objs.size + 1, [s2.heap.objs.size + 1, s2.heap.objs.size], _, _, H2, rfl, I3, turn_count a (s2.heap.objs.size + 1) s2.heap.objs.size k, ⟨⟨.none, by simpa using he⟩, ⟨_, hit, rfl, rfl⟩, Nat.succ_ne_self _, Nat.ne_of_lt ha, Nat.ne_of_lt (Nat.lt_succ_of_lt ha)⟩, fun b hb => ?_, q⟩
  have hle : s2.heap.objs.size ≤ b := by
    rcases List.mem_cons.mp hb with z | z
    · rw [z]
      exact Nat.le_succ _
    · rw [List.mem_singleton.mp z]
      exact Nat.le_refl _
  exact I2.fpOk hle (I2.hok.fresh hle)
theorem EvI.count (hg : Gl X "enumerate") (hm : X.mg "enumerate" = none) (h : EvA X [e] ρ μ fun ds μ1 => ∃ xs, ds = [.lst xs] ∧ EvK X [⟨some "start", ek, kpos⟩] ρ μ1 fun ks μ2 => ∃ k, ks = [.int k] ∧ -(2 ^ 63) ≤ k ∧ k < 2 ^ 63 ∧ Ra (cntD k xs) μ2)
    (hs : starEach [e] X.env = (false, eval e X.env) :: starEach [] X.env := by rfl)
    (hall : (backToKw pos (keywordEach [⟨some "start", ek, kpos⟩] X.env)).all (·.1.isSome) = true := by rfl) (hks : (backToKw pos (keywordEach [⟨some "start", ek, kpos⟩] X.env)).filterMap (·.1) = [Str.ofString "start"] := by rfl)
    (hpl : ((backTo pos (starEach [e] X.env)).any (·.1) || (backToKw pos (keywordEach [⟨some "start", ek, kpos⟩] X.env)).any (·.1.isNone)) = false := by rfl) :
    EvI X (.Tuple elts kk tpos) (.Call (.Name "enumerate" p) [e] [⟨some "start", ek, kpos⟩] pos) ρ μ Ra :=
  PIw (pi_count hg hm pa_a pk_a hs hall hks hpl) fun σ H Q ⟨α, E, q⟩ => ⟨_, h, α, E, fun vs ds α1 μ1 H1 ⟨xs, e1, h1⟩ E1 X1 hv => ⟨_, h1, α1, E1, fun us ks α2 μ2 H2 ⟨k, e2, k0, k1, r⟩ E2 X2 hu => by
    subst e1 e2
    obtain ⟨v, rfl, hv'⟩ := hasL1 hv
    obtain ⟨w, rfl, hw⟩ := hasL1 hu
    cases hw
    obtain ⟨a, ws, rfl, s1, t1⟩ := sqL_of (X2.has hv')
    refine ⟨a, ws, k, rfl, rfl, s1, k0, k1, q _ _ α2 μ2 H2 r E2 (X1.trans X2) fun α3 μ3 H3 kp l => ?_⟩
    obtain ⟨a', ws', ea, s3, t3⟩ := sqL_of (kp.has (X2.has hv'))
    cases ea
    refine ⟨fun i d hd => ?_, ⟨ws', s3, by rw [cntD_len, t3.length]⟩⟩
    obtain ⟨x, f1, rfl⟩ := cntD_at _ _ _ _ hd
    obtain ⟨y, g1, g2⟩ := t3.get f1
    refine ⟨⟨ws', y, s3, g1⟩, ?_⟩
    rintro z H' ⟨T, y2, rfl, nT, rfl, c1⟩
    have q1 := c1 ws' s3
    rw [g1] at q1
    cases q1
    obtain ⟨k2, l2⟩ := l.lay (o := .tup [.int (k + (i : Int)), y]) nT
    exact ⟨k2, l2, .tup (.of upd_same) (.cons .int (.cons (k2.has g2) .nil))⟩⟩⟩
end
end Eg

namespace Eg
open PySem PySem.Spec L2
/-! ### for c in s, s a text -/
section
variable {X : Cx} {e : Expr} {ρ : RO} {μ : List MO}
def sgD (z : Str) : List DV := z.cps.toList.map fun c => DV.str ⟨#[c]⟩
theorem EvI.str {tg : Expr} {Ra : Ca} (h : Ev X e ρ μ fun d μ1 => ∃ z, d = .str z ∧ Ra (sgD z) μ1) : EvI X tg e ρ μ Ra :=
  PIw (pi_str pe_a) fun σ H Q ⟨α, E, q⟩ => ⟨_, h, α, E, fun v d α1 μ1 H1 ⟨z, e, r⟩ E1 X1 hv => by
    subst e
    cases hv
    refine ⟨z, rfl, q _ _ α1 μ1 H1 r E1 X1 fun α2 μ2 H2 k l => ⟨fun i d hd => ?_, ?_⟩⟩
    · unfold sgD at hd
      rw [List.getElem?_map] at hd
      obtain ⟨c, h1, rfl⟩ := Option.map_eq_some_iff.mp hd
      obtain ⟨hi, he⟩ := List.getElem?_eq_some_iff.mp h1
      refine ⟨by rw [Array.length_toList] at hi; exact hi, ?_⟩
      rintro y H' ⟨rfl, c', h2, rfl⟩
      have e2 : c' = c := by
        have : z.cps.toList[i]? = some c' := by rw [Array.getElem?_toList]; exact h2
        rw [h1] at this
        exact (Option.some.inj this).symm
      subst e2
      exact ⟨l.refl, l, .str⟩
    · show z.cps.size ≤ (sgD z).length
      unfold sgD
      rw [List.length_map, Array.length_toList]
      exact Nat.le_refl _⟩
/-- the order of two signs -/
theorem le_sign (c d : Nat) : (!decide ((⟨#[d]⟩ : Str).cps.toList < (⟨#[c]⟩ : Str).cps.toList)) = decide (c ≤ d) := by
  have e : ((⟨#[d]⟩ : Str).cps.toList < (⟨#[c]⟩ : Str).cps.toList) ↔ d < c := by
    show ([d] < [c]) ↔ d < c
    rw [List.cons_lt_cons_iff]
    simp
  by_cases h : c ≤ d
  · rw [decide_eq_true h, decide_eq_false fun z => absurd (e.mp z) (by omega)]
    rfl
  · rw [decide_eq_false h, decide_eq_true (e.mpr (by omega))]
    rfl
/-- lo <= c <= hi of signs -/
theorem EvT.between {b : Expr} {la lc : Str} {lo hi j1 j2 : Nat} {p1 p2 pos : Pos} {R : Ct} (e1 : la = ⟨#[lo]⟩) (e2 : lc = ⟨#[hi]⟩) (h : Ev X b ρ μ fun d μ1 => ∃ k, d = .str ⟨#[k]⟩ ∧ R (decide (lo ≤ k ∧ k ≤ hi)) μ1)
    (hm : lastMarks [.LtE, .LtE] [b, .Constant (.str lc) j2 p2] = false := by with_unfolding_all rfl) : EvT X (.Compare (.Constant (.str la) j1 p1) [.LtE, .LtE] [b, .Constant (.str lc) j2 p2] pos) ρ μ R := by
  subst e1 e2
  refine EvT.chain op_le_str rCmpS_S op_le_str rCmpS_S (Ev.str (Ev.mono h ?_)) hm
  rintro d μ1 ⟨k, rfl, r⟩
  refine ⟨_, _, rfl, rfl, _, rfl, ?_⟩
  show if (!decide ((⟨#[k]⟩ : Str).cps.toList < (⟨#[lo]⟩ : Str).cps.toList)) = true then _ else _
  rw [le_sign]
  refine ifd (fun hlo => Ev.str ⟨_, _, rfl, rfl, _, rfl, ?_⟩) (fun hlo => ?_)
  · show R (!decide ((⟨#[hi]⟩ : Str).cps.toList < (⟨#[k]⟩ : Str).cps.toList)) μ1
    rw [le_sign]
    have e : decide (lo ≤ k ∧ k ≤ hi) = decide (k ≤ hi) := decide_eq_decide.mpr ⟨fun z => z.2, fun z => ⟨hlo, z⟩⟩
    rw [e] at r
    exact r
  · rw [decide_eq_false fun z => hlo z.1] at r
    exact r
theorem Ev.between {b : Expr} {la lc : Str} {lo hi j1 j2 : Nat} {p1 p2 pos : Pos} {R : Cn} (e1 : la = ⟨#[lo]⟩) (e2 : lc = ⟨#[hi]⟩) (h : Ev X b ρ μ fun d μ1 => ∃ k, d = .str ⟨#[k]⟩ ∧ R (.bl (decide (lo ≤ k ∧ k ≤ hi))) μ1)
    (hm : lastMarks [.LtE, .LtE] [b, .Constant (.str lc) j2 p2] = false := by with_unfolding_all rfl) : Ev X (.Compare (.Constant (.str la) j1 p1) [.LtE, .LtE] [b, .Constant (.str lc) j2 p2] pos) ρ μ R := by
  subst e1 e2
  refine Ev.chain op_le_str rCmpS_S op_le_str rCmpS_S (Ev.str (Ev.mono h ?_)) hm
  rintro d μ1 ⟨k, rfl, r⟩
  refine ⟨_, _, rfl, rfl, _, rfl, ?_⟩
  show if (!decide ((⟨#[k]⟩ : Str).cps.toList < (⟨#[lo]⟩ : Str).cps.toList)) = true then _ else _
  rw [le_sign]
  refine ifd (fun hlo => Ev.str ⟨_, _, rfl, rfl, ?_⟩) (fun hlo => ?_)
  · show R (.bl (!decide ((⟨#[hi]⟩ : Str).cps.toList < (⟨#[k]⟩ : Str).cps.toList))) μ1
    rw [le_sign]
    have e : decide (lo ≤ k ∧ k ≤ hi) = decide (k ≤ hi) := decide_eq_decide.mpr ⟨fun z => z.2, fun z => ⟨hlo, z⟩⟩
    rw [e] at r
    exact r
  · rw [decide_eq_false fun z => hlo z.1] at r
    exact r
end
end Eg

namespace Eg
open PySem PySem.Spec L2
/-! What an expression comes to, as a function; the function's word holds of the expression. -/
abbrev RE := Option (DV × List MO)
abbrev Den := RO → List MO → RE
abbrev DenA := RO → List MO → Option (List DV × List MO)
def okE (o : RE) (R : Cn) : Prop := match o with
  | some (d, μ) => R d μ
  | none => False
def okA (o : Option (List DV × List MO)) (R : Ca) : Prop := match o with
  | some (d, μ) => R d μ
  | none => False
def SE (X : Cx) (e : Expr) (f : Den) : Prop := ∀ ρ μ R, okE (f ρ μ) R → Ev X e ρ μ R
def ST (X : Cx) (e : Expr) (f : Den) : Prop := ∀ ρ μ R, okE (f ρ μ) (toT R) → EvT X e ρ μ R
def SW (X : Cx) (e : Expr) (f : Den) : Prop := ∀ ρ μ R, okE (f ρ μ) (toT R) → EvW X e ρ μ R
def SAr (X : Cx) (es : List Expr) (f : DenA) : Prop := ∀ ρ μ R, okA (f ρ μ) R → EvA X es ρ μ R
theorem okE_some {o : RE} {R : Cn} (h : okE o R) : ∃ d μ, o = some (d, μ) ∧ R d μ := by
  match o, h with
  | some (d, μ), h => exact ⟨d, μ, rfl, h⟩
theorem okA_some {o : Option (List DV × List MO)} {R : Ca} (h : okA o R) : ∃ d μ, o = some (d, μ) ∧ R d μ := by
  match o, h with
  | some (d, μ), h => exact ⟨d, μ, rfl, h⟩
def bnd {α β γ : Type} (o : Option (α × β)) (k : α → β → Option γ) : Option γ := match o with
  | some (d, μ) => k d μ
  | none => none
@[simp] theorem bnd_some {α β γ : Type} (d : α) (μ : β) (k : α → β → Option γ) : bnd (some (d, μ)) k = k d μ := rfl
@[simp] theorem bnd_none {α β γ : Type} (k : α → β → Option γ) : bnd (none : Option (α × β)) k = none := rfl
theorem okE_bnd {o : RE} {k : DV → List MO → RE} {R : Cn} (h : okE (bnd o k) R) : ∃ d μ, o = some (d, μ) ∧ okE (k d μ) R := by
  match o, h with
  | some (d, μ), h => exact ⟨d, μ, rfl, h⟩
theorem okE_bndA {o : Option (List DV × List MO)} {k : List DV → List MO → RE} {R : Cn} (h : okE (bnd o k) R) : ∃ d μ, o = some (d, μ) ∧ okE (k d μ) R := by
  match o, h with
  | some (d, μ), h => exact ⟨d, μ, rfl, h⟩
theorem okA_bnd {o : RE} {k : DV → List MO → Option (List DV × List MO)} {R : Ca} (h : okA (bnd o k) R) : ∃ d μ, o = some (d, μ) ∧ okA (k d μ) R := by
  match o, h with
  | some (d, μ), h => exact ⟨d, μ, rfl, h⟩
theorem okA_bndA {o : Option (List DV × List MO)} {k : List DV → List MO → Option (List DV × List MO)} {R : Ca} (h : okA (bnd o k) R) : ∃ d μ, o = some (d, μ) ∧ okA (k d μ) R := by
  match o, h with
  | some (d, μ), h => exact ⟨d, μ, rfl, h⟩
section
variable {X : Cx} {a b c e : Expr} {es : List Expr} {fa fb fc f : Den} {fs : DenA} {pos p : Pos}
theorem SE.at {ρ : RO} {μ μ' : List MO} {d : DV} {R : Cn} (s : SE X e f) (h : f ρ μ = some (d, μ')) (r : R d μ') : Ev X e ρ μ R := s ρ μ R (by rw [h]; exact r)
theorem ST.at {ρ : RO} {μ μ' : List MO} {k : Bool} {R : Ct} (s : ST X e f) (h : f ρ μ = some (.bl k, μ')) (r : R k μ') : EvT X e ρ μ R := s ρ μ R (by rw [h]; exact ⟨k, rfl, r⟩)
theorem SW.at {ρ : RO} {μ μ' : List MO} {k : Bool} {R : Ct} (s : SW X e f) (h : f ρ μ = some (.bl k, μ')) (r : R k μ') : EvW X e ρ μ R := s ρ μ R (by rw [h]; exact ⟨k, rfl, r⟩)
theorem SAr.at {ρ : RO} {μ μ' : List MO} {d : List DV} {R : Ca} (s : SAr X es fs) (h : fs ρ μ = some (d, μ')) (r : R d μ') : EvA X es ρ μ R := s ρ μ R (by rw [h]; exact r)
/-- what is never reached -/
def dNo : Den := fun _ _ => none
theorem SE.no : SE X e dNo := fun _ _ _ h => h.elim
theorem ST.no : ST X e dNo := fun _ _ _ h => h.elim
/-! ### leaves -/
def dVar (i : Nat) : Den := fun ρ μ => match ρ[i]? with
  | some (some d) => some (d, μ)
  | _ => none
theorem SE.var (i : Nat) {x : Str} (hN : X.N[i]? = some x) (hv : Vis X.env.scope x) (hd : (x == ("__debug__" : Str)) = false := by decide) (hcd : (x == ("__classdict__" : Str)) = false := by decide) : SE X (.Name x pos) (dVar i) := fun ρ μ R h => by
  unfold dVar at h
  split at h
  · rename_i d e
    exact Ev.name i hN hv e h hd hcd
  · exact h.elim
def dC (d : DV) : Den := fun _ μ => some (d, μ)
theorem SE.int {i : Int} {j} : SE X (.Constant (.int i) j pos) (dC (.int i)) := fun _ _ _ h => Ev.int h
theorem SE.bl {i : Bool} {j} : SE X (.Constant (.bool i) j pos) (dC (.bl i)) := fun _ _ _ h => Ev.bl h
theorem SE.non {j} : SE X (.Constant .none j pos) (dC .non) := fun _ _ _ h => Ev.non h
theorem SE.str {x : Str} {j} : SE X (.Constant (.str x) j pos) (dC (.str x)) := fun _ _ _ h => Ev.str h
theorem SE.glob {x : Str} {v : V} {u : Value} {d : DV} (hg : Gl X x) (hm : X.mg x = some u) (r : RelV v u) (hv : ∀ α μ H, Has ⟨X.K, α, μ, H⟩ v d) (hd : (x == ("__debug__" : Str)) = false := by decide) : SE X (.Name x pos) (dC d) :=
  fun _ _ _ h => Ev.glob hg hm r hv h hd
/-! ### two places -/
def dOp2 (o : DV → DV → List MO → RE) (fa fb : Den) : Den := fun ρ μ => bnd (fa ρ μ) fun x μ1 => bnd (fb ρ μ1) fun y μ2 => o x y μ2
theorem SE.op2 {o : DV → DV → List MO → RE} (sa : SE X a fa) (sb : SE X b fb)
    (h : ∀ x y μ2 R, okE (o x y μ2) R → ∃ S : S2, S x y μ2 R ∧ ∀ ρ μ, Ev X a ρ μ (fun da μ1 => Ev X b ρ μ1 fun db μ2 => S da db μ2 R) → Ev X e ρ μ R) : SE X e (dOp2 o fa fb) := fun ρ μ R k => by
  obtain ⟨x, μ1, e1, k⟩ := okE_bnd k
  obtain ⟨y, μ2, e2, k⟩ := okE_bnd k
  obtain ⟨S, r, q⟩ := h x y μ2 R k
  exact q ρ μ (sa.at e1 (sb.at e2 r))
theorem ST.op2 {o : DV → DV → List MO → RE} (sa : SE X a fa) (sb : SE X b fb)
    (h : ∀ x y μ2 R, okE (o x y μ2) R → ∃ S : S2, S x y μ2 R ∧ ∀ (R' : Ct), R = toT R' → ∀ ρ μ, Ev X a ρ μ (fun da μ1 => Ev X b ρ μ1 fun db μ2 => S da db μ2 R) → EvT X e ρ μ R') : ST X e (dOp2 o fa fb) := fun ρ μ R k => by
  obtain ⟨x, μ1, e1, k⟩ := okE_bnd k
  obtain ⟨y, μ2, e2, k⟩ := okE_bnd k
  obtain ⟨S, r, q⟩ := h x y μ2 _ k
  exact q R rfl ρ μ (sa.at e1 (sb.at e2 r))
/-- + -/
def oAdd : DV → DV → List MO → RE
  | .int i, .int j, μ => some (.int (i + j), μ)
  | .str x, .str y, μ => if x.length + y.length ≤ sizeLine then some (.str (x ++ y), μ) else none
  | .tup xs, .tup ys, μ => if xs.length + ys.length ≤ sizeLine then some (.tup (xs ++ ys), μ) else none
  | .lst xs, .lst ys, μ => if xs.length + ys.length ≤ sizeLine then some (.lst (xs ++ ys), μ) else none
  | _, _, _ => none
def oSub : DV → DV → List MO → RE
  | .int i, .int j, μ => some (.int (i - j), μ)
  | _, _, _ => none
def oMul : DV → DV → List MO → RE
  | .int i, .int j, μ => if i.natAbs.log2 + j.natAbs.log2 < 1000000 then some (.int (i * j), μ) else none
  | _, _, _ => none
def oDiv : DV → DV → List MO → RE
  | .int i, .int j, μ => if 0 < j ∧ j.natAbs.log2 < 9000 then some (.int (i / j), μ) else if j < 0 ∧ j.natAbs.log2 < 9000 then some (.int (i.fdiv j), μ) else none
  | _, _, _ => none
def oMod : DV → DV → List MO → RE
  | .int i, .int j, μ => if j ≠ 0 then some (.int (i.fmod j), μ) else none
  | _, _, _ => none
def oPow : DV → DV → List MO → RE
  | .int i, .int j, μ => if 0 ≤ j ∧ j ≤ 1000000 ∧ i.natAbs < 2 ^ 64 then some (.int (i ^ j.toNat), μ) else none
  | _, _, _ => none
theorem okE_if {c : Prop} [Decidable c] {o : RE} {R : Cn} (h : okE (if c then o else none) R) : c ∧ okE o R := by
  by_cases hc : c
  · rw [if_pos hc] at h
    exact ⟨hc, h⟩
  · rw [if_neg hc] at h
    exact h.elim
def rCatL (K : PySem.W.Frag) : R2 := fun x y H Q => ∃ l b xs zs, x = .ref l ∧ y = .ref b ∧ SqL K H l xs ∧ SqL K H b zs ∧ xs.length + zs.length ≤ sizeLine ∧ ∀ p, H p = none → Q (.ref p) (upd H p (.lst (xs ++ zs)))
theorem op_catL : OpR X (binaryOp .Add) (rCatL X.K) := by
  intro pins s σ H x y v u Q I rx ry h
  obtain ⟨l, b, xs, zs, rfl, rfl, hH, hB, hz, q⟩ := h
  cases rx
  cases ry
  obtain ⟨its, r, pl, _⟩ := I.list hH
  obtain ⟨its2, r2, pl2, _⟩ := I.list hB
  obtain ⟨⟨cls, dd, data, sl⟩, ho, hc, n, hd⟩ := pl.isList
  obtain ⟨⟨cls2, dd2, data2, sl2⟩, ho2, hc2, n2, hd2⟩ := pl2.isList
  simp only at hc hd hc2 hd2
  subst hc hd hc2 hd2
  have e : its.toArray ++ its2.toArray = (its ++ its2).toArray := by simp
  have z1 := r.length
  have z2 := r2.length
  refine PySem.concat_meets ⟨_, ho, rfl⟩ ⟨_, ho2, rfl⟩ PySem.noFill_list_add PySem.seq_list_add PySem.F.slot_list_add PySem.F.entry_list_add (PySem.F.args_list_add_2 _ _) (PyProof.Rows.list_addW l b its.toArray its2.toArray n n2 dd dd2 sl sl2 (by simp only [List.size_toArray]; omega)) ⟨ho, ho2, ?_⟩
  rw [e]
  exact ⟨.ref _, _, I.lnew (t' := s.toks) (r.append r2) (by rw [List.length_append]; omega), rfl, q _ I.fresh⟩
def sCatL : S2 := fun x y μ R => ∃ xs ys, x = .lst xs ∧ y = .lst ys ∧ xs.length + ys.length ≤ sizeLine ∧ R (.lst (xs ++ ys)) μ
theorem rCatL_S : R2S X (rCatL X.K) sCatL := fun α μ H σ ρ x y da db R Q E hx hy h q => by
  obtain ⟨xs, ys, rfl, rfl, c, r⟩ := h
  obtain ⟨a, vs, rfl, s1, t1⟩ := sqL_of hx
  obtain ⟨b, us, rfl, s2, t2⟩ := sqL_of hy
  refine ⟨a, b, vs, us, rfl, rfl, s1, s2, by rw [t1.length, t2.length]; exact c, fun p np => ?_⟩
  obtain ⟨k, l⟩ := E.live.lay (o := .lst (vs ++ us)) np
  exact q _ _ α μ _ r (E.ext k l) k (.lst (.inl ⟨E.live.fresh np, .inl upd_same⟩) (k.hasL (HasL.app t1 t2)))
theorem SE.add (sa : SE X a fa) (sb : SE X b fb) : SE X (.BinOp a .Add b pos) (dOp2 oAdd fa fb) := SE.op2 sa sb fun x y μ2 R h => by
  unfold oAdd at h
  split at h
  · exact ⟨sAdd, sAdd.mk h, fun ρ μ k => Ev.addI k⟩
  · obtain ⟨c, h⟩ := okE_if h
    exact ⟨sAddS, ⟨_, _, rfl, rfl, c, h⟩, fun ρ μ k => Ev.addS k⟩
  · obtain ⟨c, h⟩ := okE_if h
    exact ⟨sCatT, ⟨_, _, rfl, rfl, c, h⟩, fun ρ μ k => Ev.catT k⟩
  · obtain ⟨c, h⟩ := okE_if h
    exact ⟨sCatL, ⟨_, _, rfl, rfl, c, h⟩, fun ρ μ k => Ev.op op_catL rCatL_S k⟩
  · exact h.elim
theorem SE.sub (sa : SE X a fa) (sb : SE X b fb) : SE X (.BinOp a .Sub b pos) (dOp2 oSub fa fb) := SE.op2 sa sb fun x y μ2 R h => by
  unfold oSub at h
  split at h
  · exact ⟨sSub, sSub.mk h, fun ρ μ k => Ev.sub k⟩
  · exact h.elim
theorem SE.mul (sa : SE X a fa) (sb : SE X b fb) : SE X (.BinOp a .Mult b pos) (dOp2 oMul fa fb) := SE.op2 sa sb fun x y μ2 R h => by
  unfold oMul at h
  split at h
  · obtain ⟨c, h⟩ := okE_if h
    exact ⟨sMul, sMul.mk c h, fun ρ μ k => Ev.mul k⟩
  · exact h.elim
/-- // by a divisor other than 0, below 2 ^ 9000 in size -/
def CDivNW (_ j : Int) : Prop := j ≠ 0 ∧ j.natAbs.log2 < 9000
theorem op_fdivNW : OpR X (binaryOp .FloorDiv) (rI CDivNW fun i j => .int (i.fdiv j)) := opI fun _ _ _ _ _ _ _ hc q => PyProof.Rows.floordiv_int hc.1 q (.inl (PyProof.noPylong_of_log2 hc.2))
def sDivN : S2 := fun x y μ R => ∃ i j, x = .int i ∧ y = .int j ∧ CDivNW i j ∧ R (.int (i.fdiv j)) μ
theorem SE.fdiv (sa : SE X a fa) (sb : SE X b fb) : SE X (.BinOp a .FloorDiv b pos) (dOp2 oDiv fa fb) := SE.op2 sa sb fun x y μ2 R h => by
  unfold oDiv at h
  split at h
  · rename_i i j
    by_cases c : 0 < j ∧ j.natAbs.log2 < 9000
    · rw [if_pos c] at h
      exact ⟨sDiv, sDiv.mk c h, fun ρ μ k => Ev.fdiv k⟩
    · rw [if_neg c] at h
      obtain ⟨c2, h⟩ := okE_if h
      exact ⟨sDivN, ⟨_, _, rfl, rfl, ⟨by omega, c2.2⟩, h⟩, fun ρ μ k => Ev.op op_fdivNW (rI_S fun _ _ _ => .int) k⟩
  · exact h.elim
theorem SE.mod (sa : SE X a fa) (sb : SE X b fb) : SE X (.BinOp a .Mod b pos) (dOp2 oMod fa fb) := SE.op2 sa sb fun x y μ2 R h => by
  unfold oMod at h
  split at h
  · obtain ⟨c, h⟩ := okE_if h
    exact ⟨sMod, sMod.mk c h, fun ρ μ k => Ev.mod k⟩
  · exact h.elim
theorem SE.pow (sa : SE X a fa) (sb : SE X b fb) : SE X (.BinOp a .Pow b pos) (dOp2 oPow fa fb) := SE.op2 sa sb fun x y μ2 R h => by
  unfold oPow at h
  split at h
  · obtain ⟨c, h⟩ := okE_if h
    exact ⟨sPow, sPow.mk c h, fun ρ μ k => Ev.pow k⟩
  · exact h.elim
/-! ### comparisons -/
def oLt : DV → DV → List MO → RE
  | .int i, .int j, μ => some (.bl (decide (i < j)), μ)
  | _, _, _ => none
def oLe : DV → DV → List MO → RE
  | .int i, .int j, μ => some (.bl (decide (i ≤ j)), μ)
  | _, _, _ => none
def oGt : DV → DV → List MO → RE
  | .int i, .int j, μ => some (.bl (decide (j < i)), μ)
  | _, _, _ => none
def oGe : DV → DV → List MO → RE
  | .int i, .int j, μ => some (.bl (decide (j ≤ i)), μ)
  | _, _, _ => none
mutual
def eqvD : DV → DV → Bool
  | .non, .non => true
  | .bl a, .bl b => a == b
  | .int i, .int j => decide (i = j)
  | .str x, .str y => x == y
  | .tup xs, .tup ys => eqvL xs ys
  | .lst xs, .lst ys => eqvL xs ys
  | .bl a, .int j => (if a then 1 else 0) == j
  | .int i, .bl b => i == (if b then 1 else 0)
  | _, _ => false
def eqvL : List DV → List DV → Bool
  | [], [] => true
  | x :: xs, y :: ys => eqvD x y && eqvL xs ys
  | _, _ => false
end
mutual
/-- of a shape that may be compared, d deep -/
def shD : Nat → DV → Bool
  | _, .non => true
  | _, .bl _ => true
  | _, .int _ => true
  | _, .str x => PySem.PyData.strOk x
  | n + 1, .tup xs => shL n xs
  | n + 1, .lst xs => shL n xs
  | _, _ => false
def shL : Nat → List DV → Bool
  | _, [] => true
  | n, x :: xs => shD n x && shL n xs
end
mutual
theorem sh_py : ∀ {n : Nat} {d : DV}, shD n d = true → ∃ pd, toPy d = some pd ∧ pd.hasDict = false ∧ pd.canLay0 = true ∧ pd.depth ≤ n
  | n, .non, _ => ⟨_, rfl, rfl, rfl, by simp [PyData.depth]⟩
  | n, .bl _, _ => ⟨_, rfl, rfl, rfl, by simp [PyData.depth]⟩
  | n, .int _, _ => ⟨_, rfl, rfl, rfl, by simp [PyData.depth]⟩
  | n, .str x, h => ⟨_, rfl, rfl, by
      simpa [shD, PyData.canLay0] using h, by simp [PyData.depth]⟩
  | 0, .tup _, h => by simp [shD] at h
  | 0, .lst _, h => by simp [shD] at h
  | n + 1, .tup xs, h => by
    obtain ⟨ps, e, h1, h2, h3⟩ := sh_pyL (n := n) (ds := xs) (by simpa [shD] using h)
    exact ⟨.tuple ps, by show (toPyL xs).map _ = _; rw [e]; rfl, by simpa [PyData.hasDict] using h1, by simpa [PyData.canLay0] using h2, by simp [PyData.depth]; omega⟩
  | n + 1, .lst xs, h => by
    obtain ⟨ps, e, h1, h2, h3⟩ := sh_pyL (n := n) (ds := xs) (by simpa [shD] using h)
    exact ⟨.list ps, by show (toPyL xs).map _ = _; rw [e]; rfl, by simpa [PyData.hasDict] using h1, by simpa [PyData.canLay0] using h2, by simp [PyData.depth]; omega⟩
  | _, .dic _, h => by simp [shD] at h
  | _, .exc _ _, h => by simp [shD] at h
  | _, .mu _, h => by simp [shD] at h
  | _, .rg _ _, h => by simp [shD] at h
  | _, .fn _, h => by simp [shD] at h
theorem sh_pyL : ∀ {n : Nat} {ds : List DV}, shL n ds = true → ∃ ps, toPyL ds = some ps ∧ PyData.hasDictAll ps = false ∧ PyData.canLayAll0 ps = true ∧ PyData.depthAll ps ≤ n
  | n, [], _ => ⟨[], rfl, rfl, rfl, by simp [PyData.depthAll]⟩
  | n, x :: xs, h => by
    have h' : (shD n x && shL n xs) = true := by simpa [shL] using h
    obtain ⟨p, e1, a1, a2, a3⟩ := sh_py (Bool.and_eq_true_iff.mp h').1
    obtain ⟨ps, e2, b1, b2, b3⟩ := sh_pyL (Bool.and_eq_true_iff.mp h').2
    refine ⟨p :: ps, ?_, ?_, ?_, ?_⟩
    · show (toPy x).bind _ = _
      rw [e1]
      show (toPyL xs).map _ = _
      rw [e2]
      rfl
    · simp [PyData.hasDictAll, a1, b1]
    · simp [PyData.canLayAll0, a2, b2]
    · simp [PyData.depthAll]
      omega
end
def DV.notSq : DV → Bool
  | .tup _ => false
  | .lst _ => false
  | _ => true
theorem py_dic {z : List (Key × DV)} {q : PyData} (e : toPy (.dic z) = some q) (n : q.hasDict = false) : False := by
  cases z with
  | nil => cases e; simp [PyData.hasDict] at n
  | cons _ _ => cases e
theorem py_tup {z : List DV} {q : PyData} (e : toPy (.tup z) = some q) : ∃ ps, toPyL z = some ps ∧ q = .tuple ps := by
  obtain ⟨ps, h1, h2⟩ := Option.map_eq_some_iff.mp (show (toPyL z).map PyData.tuple = some q from e)
  exact ⟨ps, h1, h2.symm⟩
theorem py_lst {z : List DV} {q : PyData} (e : toPy (.lst z) = some q) : ∃ ps, toPyL z = some ps ∧ q = .list ps := by
  obtain ⟨ps, h1, h2⟩ := Option.map_eq_some_iff.mp (show (toPyL z).map PyData.list = some q from e)
  exact ⟨ps, h1, h2.symm⟩
theorem eqv_flat {x y : DV} {p q : PyData} (e1 : toPy x = some p) (e2 : toPy y = some q) (n1 : p.hasDict = false) (n2 : q.hasDict = false) (hx : x.notSq = true ∨ y.notSq = true) : PyData.eqv p q = eqvD x y := by
  cases x with
  | dic z => exact (py_dic e1 n1).elim
  | exc _ _ => cases e1
  | mu _ => cases e1
  | rg _ _ => cases e1
  | fn _ => cases e1
  | tup xs =>
    obtain ⟨ps, _, rfl⟩ := py_tup e1
    cases y with
    | dic z => exact (py_dic e2 n2).elim
    | exc _ _ => cases e2
    | mu _ => cases e2
    | rg _ _ => cases e2
    | fn _ => cases e2
    | tup ys => simp [DV.notSq] at hx
    | lst ys => simp [DV.notSq] at hx
    | _ => cases e2; simp [PyData.eqv, eqvD]
  | lst xs =>
    obtain ⟨ps, _, rfl⟩ := py_lst e1
    cases y with
    | dic z => exact (py_dic e2 n2).elim
    | exc _ _ => cases e2
    | mu _ => cases e2
    | rg _ _ => cases e2
    | fn _ => cases e2
    | tup ys => simp [DV.notSq] at hx
    | lst ys => simp [DV.notSq] at hx
    | _ => cases e2; simp [PyData.eqv, eqvD]
  | _ =>
    cases e1
    cases y with
    | dic z => exact (py_dic e2 n2).elim
    | exc _ _ => cases e2
    | mu _ => cases e2
    | rg _ _ => cases e2
    | fn _ => cases e2
    | tup ys => obtain ⟨ps, _, rfl⟩ := py_tup e2; simp [PyData.eqv, eqvD]
    | lst ys => obtain ⟨ps, _, rfl⟩ := py_lst e2; simp [PyData.eqv, eqvD]
    | int j => cases e2; simp [PyData.eqv, eqvD] <;> rfl
    | _ => cases e2; simp [PyData.eqv, eqvD]
mutual
theorem eqv_py : ∀ (x y : DV) (p q : PyData), toPy x = some p → toPy y = some q → p.hasDict = false → q.hasDict = false → PyData.eqv p q = eqvD x y
  | .tup xs, .tup ys, p, q, e1, e2, n1, n2 => by
    obtain ⟨ps, h1, rfl⟩ := py_tup e1
    obtain ⟨qs, h2, rfl⟩ := py_tup e2
    simpa [PyData.eqv, eqvD] using eqvL_py xs ys ps qs h1 h2 (by simpa [PyData.hasDict] using n1) (by simpa [PyData.hasDict] using n2)
  | .lst xs, .lst ys, p, q, e1, e2, n1, n2 => by
    obtain ⟨ps, h1, rfl⟩ := py_lst e1
    obtain ⟨qs, h2, rfl⟩ := py_lst e2
    simpa [PyData.eqv, eqvD] using eqvL_py xs ys ps qs h1 h2 (by simpa [PyData.hasDict] using n1) (by simpa [PyData.hasDict] using n2)
  | .tup xs, .lst ys, p, q, e1, e2, n1, n2 => by
    obtain ⟨ps, _, rfl⟩ := py_tup e1
    obtain ⟨qs, _, rfl⟩ := py_lst e2
    simp [PyData.eqv, eqvD]
  | .lst xs, .tup ys, p, q, e1, e2, n1, n2 => by
    obtain ⟨ps, _, rfl⟩ := py_lst e1
    obtain ⟨qs, _, rfl⟩ := py_tup e2
    simp [PyData.eqv, eqvD]
  | .non, y, p, q, e1, e2, n1, n2 => eqv_flat e1 e2 n1 n2 (.inl rfl)
  | .bl _, y, p, q, e1, e2, n1, n2 => eqv_flat e1 e2 n1 n2 (.inl rfl)
  | .int _, y, p, q, e1, e2, n1, n2 => eqv_flat e1 e2 n1 n2 (.inl rfl)
  | .str _, y, p, q, e1, e2, n1, n2 => eqv_flat e1 e2 n1 n2 (.inl rfl)
  | .dic _, y, p, q, e1, e2, n1, n2 => eqv_flat e1 e2 n1 n2 (.inl rfl)
  | .exc _ _, y, p, q, e1, e2, n1, n2 => eqv_flat e1 e2 n1 n2 (.inl rfl)
  | .mu _, y, p, q, e1, e2, n1, n2 => eqv_flat e1 e2 n1 n2 (.inl rfl)
  | .rg _ _, y, p, q, e1, e2, n1, n2 => eqv_flat e1 e2 n1 n2 (.inl rfl)
  | .fn _, y, p, q, e1, e2, n1, n2 => eqv_flat e1 e2 n1 n2 (.inl rfl)
  | x, .non, p, q, e1, e2, n1, n2 => eqv_flat e1 e2 n1 n2 (.inr rfl)
  | x, .bl _, p, q, e1, e2, n1, n2 => eqv_flat e1 e2 n1 n2 (.inr rfl)
  | x, .int _, p, q, e1, e2, n1, n2 => eqv_flat e1 e2 n1 n2 (.inr rfl)
  | x, .str _, p, q, e1, e2, n1, n2 => eqv_flat e1 e2 n1 n2 (.inr rfl)
  | x, .dic _, p, q, e1, e2, n1, n2 => eqv_flat e1 e2 n1 n2 (.inr rfl)
  | x, .exc _ _, p, q, e1, e2, n1, n2 => eqv_flat e1 e2 n1 n2 (.inr rfl)
  | x, .mu _, p, q, e1, e2, n1, n2 => eqv_flat e1 e2 n1 n2 (.inr rfl)
  | x, .rg _ _, p, q, e1, e2, n1, n2 => eqv_flat e1 e2 n1 n2 (.inr rfl)
  | x, .fn _, p, q, e1, e2, n1, n2 => eqv_flat e1 e2 n1 n2 (.inr rfl)
theorem eqvL_py : ∀ (xs ys : List DV) (ps qs : List PyData), toPyL xs = some ps → toPyL ys = some qs → PyData.hasDictAll ps = false → PyData.hasDictAll qs = false → PyData.eqvAll ps qs = eqvL xs ys
  | [], [], _, _, e1, e2, _, _ => by cases e1; cases e2; rfl
  | [], y :: ys, _, _, e1, e2, _, _ => by
    cases e1
    obtain ⟨q, a1, a2⟩ := Option.bind_eq_some_iff.mp e2
    obtain ⟨qs, a3, rfl⟩ := Option.map_eq_some_iff.mp a2
    simp [PyData.eqvAll, eqvL]
  | x :: xs, [], _, _, e1, e2, _, _ => by
    cases e2
    obtain ⟨q, a1, a2⟩ := Option.bind_eq_some_iff.mp e1
    obtain ⟨qs, a3, rfl⟩ := Option.map_eq_some_iff.mp a2
    simp [PyData.eqvAll, eqvL]
  | x :: xs, y :: ys, _, _, e1, e2, n1, n2 => by
    obtain ⟨p, a1, a2⟩ := Option.bind_eq_some_iff.mp e1
    obtain ⟨ps, a3, rfl⟩ := Option.map_eq_some_iff.mp a2
    obtain ⟨q, b1, b2⟩ := Option.bind_eq_some_iff.mp e2
    obtain ⟨qs, b3, rfl⟩ := Option.map_eq_some_iff.mp b2
    have n1' : p.hasDict = false ∧ PyData.hasDictAll ps = false := by simpa [PyData.hasDictAll] using n1
    have n2' : q.hasDict = false ∧ PyData.hasDictAll qs = false := by simpa [PyData.hasDictAll] using n2
    simp [PyData.eqvAll, eqvL, eqv_py x y p q a1 b1 n1'.1 n2'.1, eqvL_py xs ys ps qs a3 b3 n1'.2 n2'.2]
end
def oEq (x y : DV) (μ : List MO) : RE := if (shD 60 x && shD 60 y) = true then some (.bl (eqvD x y), μ) else none
def oNe (x y : DV) (μ : List MO) : RE := if (shD 60 x && shD 60 y) = true then some (.bl (!eqvD x y), μ) else none
theorem sEqD_of {x y : DV} {μ : List MO} {R : Cn} (h : okE (oEq x y μ) R) : sEqD x y μ R := by
  obtain ⟨c, h⟩ := okE_if h
  obtain ⟨p, e1, a1, a2, a3⟩ := sh_py (Bool.and_eq_true_iff.mp c).1
  obtain ⟨q, e2, b1, b2, b3⟩ := sh_py (Bool.and_eq_true_iff.mp c).2
  refine ⟨p, q, e1, e2, a1, b1, ?_, ?_, ?_⟩
  · simp only [SeqAt.shaped, a2, Bool.true_and]
    exact decide_eq_true (by omega)
  · simp only [SeqAt.shaped, b2, Bool.true_and]
    exact decide_eq_true (by omega)
  · rw [eqv_py _ _ _ _ e1 e2 a1 b1]
    exact h
theorem sNeD_of {x y : DV} {μ : List MO} {R : Cn} (h : okE (oNe x y μ) R) : sNeD x y μ R := by
  obtain ⟨c, h⟩ := okE_if h
  obtain ⟨p, e1, a1, a2, a3⟩ := sh_py (Bool.and_eq_true_iff.mp c).1
  obtain ⟨q, e2, b1, b2, b3⟩ := sh_py (Bool.and_eq_true_iff.mp c).2
  refine ⟨p, q, e1, e2, a1, b1, ?_, ?_, ?_⟩
  · simp only [SeqAt.shaped, a2, Bool.true_and]
    exact decide_eq_true (by omega)
  · simp only [SeqAt.shaped, b2, Bool.true_and]
    exact decide_eq_true (by omega)
  · rw [eqv_py _ _ _ _ e1 e2 a1 b1]
    exact h
def oIs : DV → DV → List MO → RE
  | x, .non, μ => some (.bl (DV.isN x), μ)
  | _, _, _ => none
def oIsnt : DV → DV → List MO → RE
  | x, .non, μ => some (.bl (!DV.isN x), μ)
  | _, _, _ => none
/-- x in xs of flat things -/
def inD (x : DV) : List DV → Bool
  | [] => false
  | y :: r => eqvD x y || inD x r
def dOpC (op : CmpOp) : Option (DV → DV → List MO → RE) := match op with
  | .Lt => some oLt
  | .LtE => some oLe
  | .Gt => some oGt
  | .GtE => some oGe
  | .Eq => some oEq
  | .NotEq => some oNe
  | .Is => some oIs
  | .IsNot => some oIsnt
  | _ => none
/-- a comparison's rule: an operation and its place in the code -/
theorem cmp_rule {op : CmpOp} {o : DV → DV → List MO → RE} (hu : X.A.units + 64 < cLine) (ho : dOpC op = some o) : ∀ x y μ R, okE (o x y μ) R → ∃ (r : R2) (S : S2), OpR X (compareOp op) r ∧ R2S X r S ∧ S x y μ R := by
  intro x y μ R h
  cases op <;> (first | (cases ho; skip) | skip)
  case Eq => exact ⟨_, _, op_eqD hu, rEqD_S, sEqD_of h⟩
  case NotEq => exact ⟨_, _, op_neD hu, rNeD_S, sNeD_of h⟩
  case Lt =>
    unfold oLt at h
    split at h
    · exact ⟨_, _, op_lt, (rI0_S fun _ _ _ => .bl : R2S X _ sLt), sLt.mk h⟩
    · exact h.elim
  case LtE =>
    unfold oLe at h
    split at h
    · exact ⟨_, _, op_le, (rI0_S fun _ _ _ => .bl : R2S X _ sLe), sLe.mk h⟩
    · exact h.elim
  case Gt =>
    unfold oGt at h
    split at h
    · exact ⟨_, _, op_gt, (rI0_S fun _ _ _ => .bl : R2S X _ sGt), sGt.mk h⟩
    · exact h.elim
  case GtE =>
    unfold oGe at h
    split at h
    · exact ⟨_, _, op_ge, (rI0_S fun _ _ _ => .bl : R2S X _ sGe), sGe.mk h⟩
    · exact h.elim
  case Is =>
    unfold oIs at h
    split at h
    · exact ⟨_, _, op_isN, rIsN_S, sIsN.mk h⟩
    · exact h.elim
  case IsNot =>
    unfold oIsnt at h
    split at h
    · exact ⟨_, _, op_notN, rNotN_S, sNotN.mk h⟩
    · exact h.elim
theorem SE.cmp {op : CmpOp} {o : DV → DV → List MO → RE} (ho : dOpC op = some o) (hu : X.A.units + 64 < cLine) (sa : SE X a fa) (sb : SE X b fb) (hm : behindInMarks op b = false := by rfl) : SE X (.Compare a [op] [b] pos) (dOp2 o fa fb) := SE.op2 sa sb fun x y μ2 R h => by
  obtain ⟨r, S, h1, h2, h3⟩ := cmp_rule hu ho x y μ2 R h
  exact ⟨S, h3, fun ρ μ k => Ev.cmp h1 h2 hm k⟩
theorem ST.cmp {op : CmpOp} {o : DV → DV → List MO → RE} (ho : dOpC op = some o) (hu : X.A.units + 64 < cLine) (sa : SE X a fa) (sb : SE X b fb) (hm : behindInMarks op b = false := by rfl) : ST X (.Compare a [op] [b] pos) (dOp2 o fa fb) := ST.op2 sa sb fun x y μ2 R h => by
  obtain ⟨r, S, h1, h2, h3⟩ := cmp_rule hu ho x y μ2 R h
  exact ⟨S, h3, fun R' e ρ μ k => by subst e; exact EvT.cmpS h1 h2 hm k⟩
/-- a < b < c -/
def dChain (o o' : DV → DV → List MO → RE) (fa fb fc : Den) : Den := fun ρ μ => bnd (fa ρ μ) fun x μ1 => bnd (fb ρ μ1) fun y μ2 => bnd (o x y μ2) fun t μ3 => match t with
  | .bl true => bnd (fc ρ μ3) fun z μ4 => o' y z μ4
  | .bl false => some (.bl false, μ3)
  | _ => none
theorem chain_aux {op op' : CmpOp} {o o' : DV → DV → List MO → RE} (ho : dOpC op = some o) (ho' : dOpC op' = some o') (hu : X.A.units + 64 < cLine) (sc : SE X c fc) {ρ : RO} {x y : DV} {μ2 : List MO} {R : Cn}
    (k : okE (bnd (o x y μ2) fun t μ3 => match t with
      | .bl true => bnd (fc ρ μ3) fun z μ4 => o' y z μ4
      | .bl false => some (.bl false, μ3)
      | _ => none) R) : ∃ (r r' : R2) (S S' : S2), OpR X (compareOp op) r ∧ R2S X r S ∧ OpR X (compareOp op') r' ∧ R2S X r' S' ∧ S x y μ2 fun d μ3 => ∃ t, d = .bl t ∧ if t = true then Ev X c ρ μ3 fun dc μ4 => S' y dc μ4 R else R (.bl false) μ3 := by
  obtain ⟨t, μ3, e3, k⟩ := okE_bnd k
  cases t with
  | bl t =>
    cases t with
    | true =>
      obtain ⟨z, μ4, e4, k⟩ := okE_bnd (show okE (bnd (fc ρ μ3) fun z μ4 => o' y z μ4) R from k)
      obtain ⟨r', S', h1', h2', h3'⟩ := cmp_rule hu ho' y z μ4 R k
      obtain ⟨r, S, h1, h2, h3⟩ := cmp_rule hu ho x y μ2 (fun d μ3 => ∃ t, d = .bl t ∧ if t = true then Ev X c ρ μ3 fun dc μ4 => S' y dc μ4 R else R (.bl false) μ3) (by
        rw [e3]
        exact ⟨true, rfl, iteT (sc.at e4 h3')⟩)
      exact ⟨r, r', S, S', h1, h2, h1', h2', h3⟩
    | false =>
      have k' : R (.bl false) μ3 := k
      obtain ⟨r, S, h1, h2, h3⟩ := cmp_rule hu ho x y μ2 (fun d μ3 => ∃ t, d = .bl t ∧ if t = true then Ev X c ρ μ3 fun dc μ4 => (fun _ _ _ _ => False : S2) y dc μ4 R else R (.bl false) μ3) (by
        rw [e3]
        exact ⟨false, rfl, iteF k'⟩)
      refine ⟨r, fun _ _ _ _ => False, S, fun _ _ _ _ => False, h1, h2, ?_, ?_, h3⟩
      · intro pins s σ H x y v u Q I rx ry h
        exact h.elim
      · intro α μ H σ ρ x y da db R Q E hx hy h q
        exact h
  | _ => exact k.elim
theorem SE.chain {op op' : CmpOp} {o o' : DV → DV → List MO → RE} (ho : dOpC op = some o) (ho' : dOpC op' = some o') (hu : X.A.units + 64 < cLine) (sa : SE X a fa) (sb : SE X b fb) (sc : SE X c fc) (hm : lastMarks [op, op'] [b, c] = false := by with_unfolding_all rfl) :
    SE X (.Compare a [op, op'] [b, c] pos) (dChain o o' fa fb fc) := fun ρ μ R k => by
  obtain ⟨x, μ1, e1, k⟩ := okE_bnd k
  obtain ⟨y, μ2, e2, k⟩ := okE_bnd k
  obtain ⟨r, r', S, S', h1, h2, h3, h4, h5⟩ := chain_aux ho ho' hu sc k
  exact Ev.chain h1 h2 h3 h4 (sa.at e1 (sb.at e2 h5)) hm
theorem ST.chain {op op' : CmpOp} {o o' : DV → DV → List MO → RE} (ho : dOpC op = some o) (ho' : dOpC op' = some o') (hu : X.A.units + 64 < cLine) (sa : SE X a fa) (sb : SE X b fb) (sc : SE X c fc) (hm : lastMarks [op, op'] [b, c] = false := by with_unfolding_all rfl) :
    ST X (.Compare a [op, op'] [b, c] pos) (dChain o o' fa fb fc) := fun ρ μ R k => by
  obtain ⟨x, μ1, e1, k⟩ := okE_bnd k
  obtain ⟨y, μ2, e2, k⟩ := okE_bnd k
  obtain ⟨r, r', S, S', h1, h2, h3, h4, h5⟩ := chain_aux (R := toT R) ho ho' hu sc k
  refine EvT.chain h1 h2 h3 h4 (sa.at e1 (sb.at e2 ?_)) hm
  have mono : ∀ d μ3, (∃ t, d = DV.bl t ∧ if t = true then Ev X c ρ μ3 fun dc μ4 => S' y dc μ4 (toT R) else toT R (.bl false) μ3) → ∃ t, d = DV.bl t ∧ if t = true then Ev X c ρ μ3 fun dc μ4 => S' y dc μ4 (toT R) else R false μ3 := by
    rintro d μ3 ⟨t, rfl, h⟩
    refine ⟨t, rfl, ?_⟩
    cases t with
    | true => exact iteT h
    | false =>
      obtain ⟨k, e, h⟩ := (show toT R (.bl false) μ3 from h)
      cases e
      exact iteF h
  have e : (fun d μ3 => ∃ t, d = DV.bl t ∧ if t = true then Ev X c ρ μ3 fun dc μ4 => S' y dc μ4 (toT R) else toT R (.bl false) μ3) = fun d μ3 => ∃ t, d = DV.bl t ∧ if t = true then Ev X c ρ μ3 fun dc μ4 => S' y dc μ4 (toT R) else R false μ3 := by
    funext d μ3
    refine propext ⟨mono d μ3, ?_⟩
    rintro ⟨t, rfl, h⟩
    refine ⟨t, rfl, ?_⟩
    cases t with
    | true => exact iteT h
    | false => exact iteF ⟨false, rfl, h⟩
  rw [e] at h5
  exact h5
/-! ### and, or, not, if -/
def dAnd (fa fb : Den) : Den := fun ρ μ => bnd (fa ρ μ) fun t μ1 => match t with
  | .bl true => fb ρ μ1
  | .bl false => some (.bl false, μ1)
  | _ => none
def dOr (fa fb : Den) : Den := fun ρ μ => bnd (fa ρ μ) fun t μ1 => match t with
  | .bl false => fb ρ μ1
  | .bl true => some (.bl true, μ1)
  | _ => none
def dNot (fa : Den) : Den := fun ρ μ => bnd (fa ρ μ) fun t μ1 => match t with
  | .bl k => some (.bl (!k), μ1)
  | _ => none
def dNeg (fa : Den) : Den := fun ρ μ => bnd (fa ρ μ) fun t μ1 => match t with
  | .int k => some (.int (-k), μ1)
  | _ => none
def dIf (fc fa fb : Den) : Den := fun ρ μ => bnd (fc ρ μ) fun t μ1 => match t with
  | .bl true => fa ρ μ1
  | .bl false => fb ρ μ1
  | _ => none
theorem SE.one {op} (sa : SE X a fa) : SE X (.BoolOp op [a] pos) fa := fun ρ μ R k => Ev.one (sa ρ μ R k)
theorem SE.and {rest : List Expr} (sa : SE X a fa) (sb : SE X (.BoolOp .And (b :: rest) pos) fb) : SE X (.BoolOp .And (a :: b :: rest) pos) (dAnd fa fb) := fun ρ μ R k => by
  obtain ⟨t, μ1, e1, k⟩ := okE_bnd k
  split at k
  · exact Ev.and (sa.at e1 ⟨true, rfl, iteT (sb ρ μ1 R k)⟩)
  · exact Ev.and (sa.at e1 ⟨false, rfl, iteF k⟩)
  · exact k.elim
theorem SE.or {rest : List Expr} (sa : SE X a fa) (sb : SE X (.BoolOp .Or (b :: rest) pos) fb) : SE X (.BoolOp .Or (a :: b :: rest) pos) (dOr fa fb) := fun ρ μ R k => by
  obtain ⟨t, μ1, e1, k⟩ := okE_bnd k
  split at k
  · exact Ev.or (sa.at e1 ⟨false, rfl, iteF (sb ρ μ1 R k)⟩)
  · exact Ev.or (sa.at e1 ⟨true, rfl, iteT k⟩)
  · exact k.elim
theorem SE.not (sa : SE X a fa) : SE X (.UnaryOp .Not a pos) (dNot fa) := fun ρ μ R k => by
  obtain ⟨t, μ1, e1, k⟩ := okE_bnd k
  split at k
  · exact Ev.not (sa.at e1 ⟨_, rfl, k⟩)
  · exact k.elim
theorem SE.neg (sa : SE X a fa) : SE X (.UnaryOp .USub a pos) (dNeg fa) := fun ρ μ R k => by
  obtain ⟨t, μ1, e1, k⟩ := okE_bnd k
  split at k
  · exact Ev.neg (sa.at e1 ⟨_, rfl, k⟩)
  · exact k.elim
theorem ST.val (sa : SE X e fa) (he : ∀ whole, isTrue e X.env whole = (do let v ← whole; standAt e.pos; holding [v] (truthy v)) := by intro _; rfl) : ST X e fa := fun ρ μ R k => EvT.val (sa ρ μ _ k) he
theorem ST.not (sa : ST X a fa) : ST X (.UnaryOp .Not a pos) (dNot fa) := fun ρ μ R k => by
  obtain ⟨t, μ1, e1, k⟩ := okE_bnd k
  split at k
  · obtain ⟨t, e, k⟩ := (show toT R (.bl (!_)) μ1 from k)
    cases e
    exact EvT.not (sa.at e1 k)
  · exact k.elim
theorem ST.w (s : SW X e f) : ST X e f := fun ρ μ R k => EvT.w (s ρ μ R k)
theorem SW.and1 (s : ST X a fa) : SW X (.BoolOp .And [a] pos) fa := fun ρ μ R k => EvW.and1 (s ρ μ R k)
theorem SW.or1 (s : ST X a fa) : SW X (.BoolOp .Or [a] pos) fa := fun ρ μ R k => EvW.or1 (s ρ μ R k)
theorem SW.and {rest : List Expr} (sa : ST X a fa) (sb : SW X (.BoolOp .And (b :: rest) pos) fb) : SW X (.BoolOp .And (a :: b :: rest) pos) (dAnd fa fb) := fun ρ μ R k => by
  obtain ⟨t, μ1, e1, k⟩ := okE_bnd k
  split at k
  · exact EvW.and (sa.at e1 (iteT (sb ρ μ1 R k)))
  · obtain ⟨t, e, k⟩ := (show toT R (.bl false) μ1 from k)
    cases e
    exact EvW.and (sa.at e1 (iteF k))
  · exact k.elim
theorem SW.or {rest : List Expr} (sa : ST X a fa) (sb : SW X (.BoolOp .Or (b :: rest) pos) fb) : SW X (.BoolOp .Or (a :: b :: rest) pos) (dOr fa fb) := fun ρ μ R k => by
  obtain ⟨t, μ1, e1, k⟩ := okE_bnd k
  split at k
  · exact EvW.or (sa.at e1 (iteF (sb ρ μ1 R k)))
  · obtain ⟨t, e, k⟩ := (show toT R (.bl true) μ1 from k)
    cases e
    exact EvW.or (sa.at e1 (iteT k))
  · exact k.elim
theorem SE.ifE (sc : ST X c fc) (sa : SE X a fa) (sb : SE X b fb) : SE X (.IfExp c a b pos) (dIf fc fa fb) := fun ρ μ R k => by
  obtain ⟨t, μ1, e1, k⟩ := okE_bnd k
  split at k
  · exact Ev.ifE (sc.at e1 (iteT (sa ρ μ1 R k)))
  · exact Ev.ifE (sc.at e1 (iteF (sb ρ μ1 R k)))
  · exact k.elim
/-! ### arguments, displays -/
def aNil : DenA := fun _ μ => some ([], μ)
def aCons (fa : Den) (fs : DenA) : DenA := fun ρ μ => bnd (fa ρ μ) fun d μ1 => bnd (fs ρ μ1) fun ds μ2 => some (d :: ds, μ2)
theorem SAr.nil : SAr X [] aNil := fun ρ μ R k => EvA.nil k
theorem SAr.cons (sa : SE X e fa) (ss : SAr X es fs) (hs : starEach (e :: es) X.env = (false, eval e X.env) :: starEach es X.env := by rfl) : SAr X (e :: es) (aCons fa fs) := fun ρ μ R k => by
  obtain ⟨d, μ1, e1, k⟩ := okA_bnd k
  obtain ⟨ds, μ2, e2, k⟩ := okA_bndA k
  exact EvA.cons (sa.at e1 (ss.at e2 k)) hs
def dTup (fs : DenA) : Den := fun ρ μ => bnd (fs ρ μ) fun ds μ1 => if ds.length ≤ 1000 then some (.tup ds, μ1) else none
def dLst (fs : DenA) : Den := fun ρ μ => bnd (fs ρ μ) fun ds μ1 => if ds.length ≤ 1000 then some (.lst ds, μ1) else none
def dLstM (fs : DenA) : Den := fun ρ μ => bnd (fs ρ μ) fun ds μ1 => if ds.length ≤ 1000 then some (.mu μ1.length, μ1 ++ [.lst ds]) else none
theorem sl_ge : 1000 ≤ sizeLine := by rw [sizeLine_eq]; decide
theorem SE.tup {x1} (ss : SAr X es fs) : SE X (.Tuple es x1 pos) (dTup fs) := fun ρ μ R k => by
  obtain ⟨ds, μ1, e1, k⟩ := okE_bndA k
  obtain ⟨c, k⟩ := okE_if k
  exact Ev.tup (ss.at e1 ⟨Nat.le_trans c sl_ge, k⟩)
theorem SE.lst (ss : SAr X es fs) : SE X (.List es pos) (dLst fs) := fun ρ μ R k => by
  obtain ⟨ds, μ1, e1, k⟩ := okE_bndA k
  obtain ⟨c, k⟩ := okE_if k
  exact Ev.lst (ss.at e1 ⟨Nat.le_trans c sl_ge, k⟩)
theorem SE.lstM (ss : SAr X es fs) : SE X (.List es pos) (dLstM fs) := fun ρ μ R k => by
  obtain ⟨ds, μ1, e1, k⟩ := okE_bndA k
  obtain ⟨c, k⟩ := okE_if k
  exact Ev.lstM (ss.at e1 ⟨Nat.le_trans c sl_ge, k⟩)
/-! ### subscripts -/
def oIx (x y : DV) (μ : List MO) : RE := match x, y with
  | .str z, .int i => if z.length ≤ sizeLine then (atI z.cps.toList i).map fun c => (.str ⟨#[c]⟩, μ) else none
  | x, .int i => match itemsD μ x with
    | some ds => (atI ds i).map fun d => (d, μ)
    | none => none
  | _, _ => none
theorem okE_map {α : Type} {o : Option α} {g : α → DV} {μ : List MO} {R : Cn} (h : okE (o.map fun d => (g d, μ)) R) : ∃ d, o = some d ∧ R (g d) μ := by
  cases o with
  | none => exact h.elim
  | some d => exact ⟨d, rfl, h⟩
theorem SE.ix (sa : SE X a fa) (sb : SE X b fb) (hs : PlainIx b := by intro _ _; rfl) : SE X (.Subscript a b pos) (dOp2 oIx fa fb) := SE.op2 sa sb fun x y μ2 R h => by
  refine ⟨sIx, ?_, fun ρ μ k => Ev.at k hs⟩
  unfold oIx at h
  split at h
  · obtain ⟨c, h⟩ := okE_if h
    obtain ⟨d, e, r⟩ := okE_map h
    exact .inr ⟨_, _, d, rfl, rfl, c, e, r⟩
  · rename_i i _
    cases hi : itemsD μ2 x with
    | none => rw [hi] at h; exact h.elim
    | some ds =>
      rw [hi] at h
      obtain ⟨d, e, r⟩ := okE_map (show okE ((atI ds i).map fun d => (d, μ2)) R from h)
      exact .inl ⟨ds, i, d, hi, rfl, e, r⟩
  · exact h.elim
end
end Eg

namespace Eg
open PySem PySem.Spec PyProof.Rows L2
/-! ### what was made beside is forgotten -/
mutual
theorem Has.bel {w : Wd} (hl : w.α.length = w.μ.length) : ∀ {v : V} {d : DV}, Has w v d → DV.bel w.μ.length d = true
  | _, _, .non => rfl
  | _, _, .bl => rfl
  | _, _, .int => rfl
  | _, _, .str => rfl
  | _, _, .tup _ t => HasL.bel hl t
  | _, _, .lst _ t => HasL.bel hl t
  | _, _, .dic _ _ t => HasK.bel hl t
  | _, _, .exc _ _ t => HasF.bel hl t
  | _, _, .exc0 _ => rfl
  | _, _, .rg _ => rfl
  | _, _, .fn _ => rfl
  | _, _, .mu h => decide_eq_true (by rw [← hl]; exact (List.getElem?_eq_some_iff.mp h).1)
theorem HasL.bel {w : Wd} (hl : w.α.length = w.μ.length) : ∀ {vs : List V} {ds : List DV}, HasL w vs ds → DV.belL w.μ.length ds = true
  | _, _, .nil => rfl
  | _, _, .cons h t => Bool.and_eq_true_iff.mpr ⟨Has.bel hl h, HasL.bel hl t⟩
theorem HasK.bel {w : Wd} (hl : w.α.length = w.μ.length) : ∀ {vs : List (Key × V)} {ds : List (Key × DV)}, HasK w vs ds → DV.belK w.μ.length ds = true
  | _, _, .nil => rfl
  | _, _, .cons h t => Bool.and_eq_true_iff.mpr ⟨Has.bel hl h, HasK.bel hl t⟩
theorem HasF.bel {w : Wd} (hl : w.α.length = w.μ.length) : ∀ {vs : List (Str × V)} {ds : List (Str × DV)}, HasF w vs ds → DV.belF w.μ.length ds = true
  | _, _, .nil => rfl
  | _, _, .cons h t => Bool.and_eq_true_iff.mpr ⟨Has.bel hl h, HasF.bel hl t⟩
end
theorem Live.clo {w : Wd} (l : Live w) : w.μ.all (MO.bel w.μ.length) = true := by
  rw [List.all_eq_true]
  intro m hm
  obtain ⟨i, hi⟩ := List.getElem?_of_mem hm
  have hi2 : i < w.α.length := by
    rw [l.len]
    exact (List.getElem?_eq_some_iff.mp hi).1
  have q := l.ob i _ m (List.getElem?_eq_getElem hi2) hi
  cases m with
  | dead => rfl
  | lst ds => obtain ⟨vs, _, t⟩ := q; exact t.bel l.len
  | dic ds => obtain ⟨vs, _, t⟩ := q; exact t.bel l.len
  | ins C ds => obtain ⟨dx, vs, _, t⟩ := q; exact t.bel l.len
/-- what was there is as it was, or holds nothing that was made beside -/
def Kept (μ μ' : List MO) : Prop := ∀ j, j < μ.length → μ'[j]? = μ[j]? ∨ ∃ o, μ'[j]? = some o ∧ MO.bel μ.length o = true
theorem Kept.clo {μ μ' : List MO} (k : Kept μ μ') (h : μ.all (MO.bel μ.length) = true) : (μ'.take μ.length).all (MO.bel μ.length) = true := by
  rw [List.all_eq_true]
  intro m hm
  obtain ⟨j, hj⟩ := List.getElem?_of_mem hm
  rw [List.getElem?_take] at hj
  split at hj
  · rename_i hl
    rcases k j hl with e | ⟨o, e, b⟩
    · rw [e] at hj
      exact List.all_eq_true.mp h m (List.mem_of_getElem? hj)
    · rw [e] at hj
      cases hj
      exact b
  · cases hj
open Classical in
noncomputable def cutd (μ : List MO) (d : DV) (μ' : List MO) : RE :=
  if DV.bel μ.length d = true ∧ Kept μ μ' then some (d, μ'.take μ.length) else some (d, μ')
/-- the end of a thing that was begun with μ -/
theorem cutd_ok {K : PySem.W.Frag} {α α' : List Addr} {μ μ' : List MO} {H H' : Hp} {v : V} {d : DV} {R : Cn} (h : okE (cutd μ d μ') R) (l : Live ⟨K, α, μ, H⟩) (l' : Live ⟨K, α', μ', H'⟩) (k : Kp ⟨K, α, μ, H⟩ ⟨K, α', μ', H'⟩) (hv : Has ⟨K, α', μ', H'⟩ v d) :
    ∃ α2 μ2, R d μ2 ∧ Live ⟨K, α2, μ2, H'⟩ ∧ Kp ⟨K, α, μ, H⟩ ⟨K, α2, μ2, H'⟩ ∧ Has ⟨K, α2, μ2, H'⟩ v d := by
  unfold cutd at h
  split at h
  · rename_i c
    have cl : (μ'.take μ.length).all (MO.bel μ.length) = true := c.2.clo l.clo
    exact ⟨_, _, h, l'.cutL μ.length cl, Live.cut l l' k, hv.cut c.1⟩
  · exact ⟨α', μ', h, l', k, hv⟩
section
variable {X : Cx} {a b c e : Expr} {es : List Expr} {fa fb fc f : Den} {fs : DenA} {pos p : Pos} {ρ : RO} {μ : List MO}
theorem Ev.cutd {R : Cn} (h : Ev X e ρ μ fun d μ1 => okE (Eg.cutd μ d μ1) R) : Ev X e ρ μ R :=
  PEw h fun σ H Q ⟨α, E, q⟩ => ⟨α, E, fun v d α1 μ1 H1 r E1 X1 hv => by
    obtain ⟨α2, μ2, r2, l2, k2, hv2⟩ := cutd_ok r E.live E1.live X1 hv
    exact q v d _ _ _ r2 (E.ext k2 l2) k2 hv2⟩
/-! ### calls of defs -/
abbrev FD := List DV → List MO → RE
def CtrOf (g : FD) : Ctr := fun ds μ R => okE (g ds μ) R
def dCall (g : FD) (fs : DenA) : Den := fun ρ μ => bnd (fs ρ μ) g
theorem SE.call {x : Str} {k : Nat} {g : FD} (F : Fn X.prog X.w X.K X.mg X.base x k (CtrOf g)) (hA : X.A.guards = some []) (hr : Room k X.A) (hg : Gl X x) (ss : SAr X (e :: es) fs)
    (hdb : (x == ("__debug__" : Str)) = false := by decide) (he : starEach (e :: es) X.env = (false, eval e X.env) :: starEach es X.env := by rfl) (hpl : (backTo pos (starEach es X.env)).any (·.1) = false := by rfl) :
    SE X (.Call (.Name x p) (e :: es) [] pos) (dCall g fs) := fun ρ μ R k => by
  obtain ⟨ds, μ1, e1, k⟩ := okE_bndA k
  exact Ev.call F hA hr hg (ss.at e1 k) hdb he hpl
def SK (X : Cx) (ks : List Keyword) (f : DenA) : Prop := ∀ ρ μ R, okA (f ρ μ) R → EvK X ks ρ μ R
theorem SK.nil : SK X [] aNil := fun ρ μ R k => EvK.nil k
theorem SK.cons {nmO : Option Str} {kpos} {kws : List Keyword} (sa : SE X e fa) (ss : SK X kws fs) : SK X (⟨nmO, e, kpos⟩ :: kws) (aCons fa fs) := fun ρ μ R k => by
  obtain ⟨d, μ1, e1, k⟩ := okA_bnd k
  obtain ⟨ds, μ2, e2, k⟩ := okA_bndA k
  exact EvK.cons (sa.at e1 (ss ρ μ1 _ (by rw [e2]; exact k)))
def dCallW (n : Nat) (ix : List Nat) (g : FD) (fs : DenA) : Den := fun ρ μ => bnd (fs ρ μ) fun ds μ1 => if ds.length = n then g (permI ix ds) μ1 else none
theorem SE.callW {x : Str} {k n : Nat} {g : FD} {ks : List Str} {ix : List Nat} {kws : List Keyword} (F : FnW X.prog X.w X.K X.mg X.base x k (CtrOf g) ks ix) (hA : X.A.guards = some []) (hr : Room k X.A) (hg : Gl X x) (hn : ks.length = n) (ss : SK X kws fs)
    (hdb : (x == ("__debug__" : Str)) = false := by decide) (hall : (backToKw pos (keywordEach kws X.env)).all (·.1.isSome) = true := by rfl) (hks : (backToKw pos (keywordEach kws X.env)).filterMap (·.1) = ks := by rfl)
    (hpl : ((backTo pos (starEach [] X.env)).any (·.1) || (backToKw pos (keywordEach kws X.env)).any (·.1.isNone)) = false := by rfl) : SE X (.Call (.Name x p) [] kws pos) (dCallW n ix g fs) := fun ρ μ R k => by
  obtain ⟨ds, μ1, e1, k⟩ := okE_bndA k
  obtain ⟨c, k⟩ := okE_if k
  exact Ev.callW F hA hr hg (ss ρ μ _ (by rw [e1]; exact ⟨by rw [c, hn], k⟩)) hdb hall hks hpl
/-! ### built-ins -/
def dBlt (o : List DV → List MO → RE) (fs : DenA) : Den := fun ρ μ => bnd (fs ρ μ) o
theorem SE.blt {o : List DV → List MO → RE} {S : SA} (ss : SAr X (a :: es) fs) (hS : ∀ ds μ R, okE (o ds μ) R → S ds μ R) (rule : ∀ ρ μ R, EvA X (a :: es) ρ μ (fun ds μ1 => S ds μ1 R) → Ev X e ρ μ R) : SE X e (dBlt o fs) := fun ρ μ R k => by
  obtain ⟨ds, μ1, e1, k⟩ := okE_bndA k
  exact rule ρ μ R (ss.at e1 (hS _ _ _ k))
def oLen : List DV → List MO → RE
  | [d], μ => match lenD μ d with
    | some n => some (.int (n : Int), μ)
    | none => none
  | _, _ => none
theorem SE.len (hg : Gl X "len") (hm : X.mg "len" = none) (ss : SAr X [a] fs) (he : starEach [a] X.env = (false, eval a X.env) :: starEach [] X.env := by rfl) : SE X (.Call (.Name "len" p) [a] [] pos) (dBlt oLen fs) :=
  SE.blt ss (S := sLen) (fun ds μ R h => by
    unfold oLen at h
    split at h
    · split at h
      · rename_i d _ n e
        exact ⟨d, n, rfl, e, h⟩
      · exact h.elim
    · exact h.elim) fun ρ μ R k => Ev.len hg hm k he
def oInt : List DV → List MO → RE
  | [.int i], μ => some (.int i, μ)
  | [.bl k], μ => some (.int (if k then 1 else 0), μ)
  | _, _ => none
theorem SE.toInt (hg : Gl X "int") (hm : X.mg "int" = none) (ss : SAr X [a] fs) (he : starEach [a] X.env = (false, eval a X.env) :: starEach [] X.env := by rfl) : SE X (.Call (.Name "int" p) [a] [] pos) (dBlt oInt fs) :=
  SE.blt ss (S := sInt) (fun ds μ R h => by
    unfold oInt at h
    split at h
    · exact .inl ⟨_, rfl, h⟩
    · exact .inr ⟨_, rfl, h⟩
    · exact h.elim) fun ρ μ R k => Ev.toInt hg hm k he
def oAbs : List DV → List MO → RE
  | [.int i], μ => some (.int (if i < 0 then -i else i), μ)
  | _, _ => none
theorem SE.abs (hg : Gl X "abs") (hm : X.mg "abs" = none) (ss : SAr X [a] fs) (he : starEach [a] X.env = (false, eval a X.env) :: starEach [] X.env := by rfl) : SE X (.Call (.Name "abs" p) [a] [] pos) (dBlt oAbs fs) :=
  SE.blt ss (S := sAbs) (fun ds μ R h => by
    unfold oAbs at h
    split at h
    · exact ⟨_, rfl, h⟩
    · exact h.elim) fun ρ μ R k => Ev.abs hg hm k he
def oMM (g : Int → Int → Int) : List DV → List MO → RE
  | [.int i, .int j], μ => some (.int (g i j), μ)
  | _, _ => none
abbrev oMax2 := oMM (fun i j => if j > i then j else i)
abbrev oMin2 := oMM (fun i j => if j < i then j else i)
theorem oMM_S {g : Int → Int → Int} (ds : List DV) (μ : List MO) (R : Cn) (h : okE (oMM g ds μ) R) : sMM g ds μ R := by
  unfold oMM at h
  split at h
  · exact ⟨_, _, rfl, h⟩
  · exact h.elim
theorem SE.max2 (hc : X.calm = true) (hg : Gl X "max") (hm : X.mg "max" = none) (ss : SAr X [a, b] fs) (he : starEach [a, b] X.env = (false, eval a X.env) :: starEach [b] X.env := by rfl) (hpl : (backTo pos (starEach [b] X.env)).any (·.1) = false := by rfl) :
    SE X (.Call (.Name "max" p) [a, b] [] pos) (dBlt oMax2 fs) := SE.blt ss oMM_S fun ρ μ R k => Ev.max2 hc hg hm k he hpl
theorem SE.min2 (hc : X.calm = true) (hg : Gl X "min") (hm : X.mg "min" = none) (ss : SAr X [a, b] fs) (he : starEach [a, b] X.env = (false, eval a X.env) :: starEach [b] X.env := by rfl) (hpl : (backTo pos (starEach [b] X.env)).any (·.1) = false := by rfl) :
    SE X (.Call (.Name "min" p) [a, b] [] pos) (dBlt oMin2 fs) := SE.blt ss oMM_S fun ρ μ R k => Ev.min2 hc hg hm k he hpl
def sDivmodW : SA := fun ds μ R => ∃ i j, ds = [.int i, .int j] ∧ CDivP i j ∧ R (.tup [.int (i / j), .int (i % j)]) μ
theorem divmodW_S : RaS X (fun xs H Q => ∃ i j, xs = [.int i, .int j] ∧ CDivP i j ∧ ∀ p, H p = none → Q (.ref p) (upd H p (.tup [.int (i / j), .int (i % j)]))) sDivmodW := fun α μ H σ ρ vs ds R Q E hv h q => by
  obtain ⟨i, j, rfl, c, hR⟩ := h
  obtain ⟨v, u, rfl, hw, hu⟩ := hasL2 hv
  clear hv
  have hv := hw
  cases hv
  cases hu
  refine ⟨i, j, rfl, c, fun p np => ?_⟩
  obtain ⟨k, l⟩ := E.live.lay (o := .tup [.int (i / j), .int (i % j)]) np
  exact q _ _ α μ _ hR (E.ext k l) k (.tup (.of upd_same) (.cons .int (.cons .int .nil)))
theorem Ev.divmodW {R : Cn} {p : Pos} (hg : Gl X "divmod") (hm : X.mg "divmod" = none) (h : EvA X [a, b] ρ μ fun ds μ1 => sDivmodW ds μ1 R) (he : starEach [a, b] X.env = (false, eval a X.env) :: starEach [b] X.env := by rfl) (hpl : (backTo pos (starEach [b] X.env)).any (·.1) = false := by rfl) :
    Ev X (.Call (.Name "divmod" p) [a, b] [] pos) ρ μ R := .callB call_divmodW divmodW_S hg hm PyProof.Rows.boot_divmod h (by decide) (by decide) he hpl
theorem divp_small {i j : Int} (h0 : 0 < j) (h1 : j < 4000000000000000000) : CDivP i j := by
  refine ⟨h0, PyProof.noPylong_of_log2 ?_⟩
  by_cases z : j.natAbs = 0
  · rw [z]; decide
  · have : j.natAbs.log2 < 62 := (Nat.log2_lt z).mpr (by
      have : (2 : Nat) ^ 62 = 4611686018427387904 := by decide
      omega)
    omega
def oDivmod : List DV → List MO → RE
  | [.int i, .int j], μ => if 0 < j ∧ j < 4000000000000000000 then some (.tup [.int (i / j), .int (i % j)], μ) else none
  | _, _ => none
theorem SE.divmod (hg : Gl X "divmod") (hm : X.mg "divmod" = none) (ss : SAr X [a, b] fs) (he : starEach [a, b] X.env = (false, eval a X.env) :: starEach [b] X.env := by rfl) (hpl : (backTo pos (starEach [b] X.env)).any (·.1) = false := by rfl) :
    SE X (.Call (.Name "divmod" p) [a, b] [] pos) (dBlt oDivmod fs) := SE.blt ss (S := sDivmodW) (fun ds μ R h => by
    unfold oDivmod at h
    split at h
    · obtain ⟨c, h⟩ := okE_if h
      exact ⟨_, _, rfl, divp_small c.1 c.2, h⟩
    · exact h.elim) fun ρ μ R k => Ev.divmodW hg hm k he hpl
def oTuple : List DV → List MO → RE
  | [d], μ => match itemsD μ d with
    | some xs => some (.tup xs, μ)
    | none => none
  | _, _ => none
theorem SE.tuple (hg : Gl X "tuple") (hm : X.mg "tuple" = none) (ss : SAr X [a] fs) (he : starEach [a] X.env = (false, eval a X.env) :: starEach [] X.env := by rfl) : SE X (.Call (.Name "tuple" p) [a] [] pos) (dBlt oTuple fs) :=
  SE.blt ss (S := sTuple) (fun ds μ R h => by
    unfold oTuple at h
    split at h
    · split at h
      · rename_i d _ xs e
        exact ⟨d, xs, rfl, e, h⟩
      · exact h.elim
    · exact h.elim) fun ρ μ R k => Ev.tuple hg hm k he
/-- truths of a list -/
def blsD : List DV → Option (List Bool)
  | [] => some []
  | .bl b :: r => (blsD r).map (b :: ·)
  | _ :: _ => none
theorem blsD_eq : ∀ {ds : List DV} {bs : List Bool}, blsD ds = some bs → ds = bs.map DV.bl
  | [], _, e => by cases e; rfl
  | .bl b :: r, _, e => by
    obtain ⟨bs, e1, rfl⟩ := Option.map_eq_some_iff.mp (show (blsD r).map (b :: ·) = some _ from e)
    rw [blsD_eq e1]
    rfl
  | .non :: _, _, e => by cases e
  | .int _ :: _, _, e => by cases e
  | .str _ :: _, _, e => by cases e
  | .tup _ :: _, _, e => by cases e
  | .lst _ :: _, _, e => by cases e
  | .dic _ :: _, _, e => by cases e
  | .exc _ _ :: _, _, e => by cases e
  | .mu _ :: _, _, e => by cases e
  | .rg _ _ :: _, _, e => by cases e
  | .fn _ :: _, _, e => by cases e
@[simp] theorem blsD_map : ∀ bs : List Bool, blsD (bs.map DV.bl) = some bs
  | [] => rfl
  | b :: r => by
    show (blsD (r.map DV.bl)).map (b :: ·) = _
    rw [blsD_map r]
    rfl
def oAll : List DV → List MO → RE
  | [.lst xs], μ => match blsD xs with
    | some bs => some (.bl (bs.all id), μ)
    | none => none
  | _, _ => none
theorem SE.all (hc : X.calm = true) (hg : Gl X "all") (hm : X.mg "all" = none) (ss : SAr X [a] fs) (he : starEach [a] X.env = (false, eval a X.env) :: starEach [] X.env := by rfl) : SE X (.Call (.Name "all" p) [a] [] pos) (dBlt oAll fs) :=
  SE.blt ss (S := sAll) (fun ds μ R h => by
    unfold oAll at h
    split at h
    · split at h
      · rename_i xs _ bs e
        exact ⟨_, bs, rfl, by rw [blsD_eq e]; rfl, (fun _ z => nomatch z), h⟩
      · exact h.elim
    · exact h.elim) fun ρ μ R k => Ev.all hc hg hm k he
/-- numbers of a list -/
def intsD : List DV → Option (List Int)
  | [] => some []
  | .int b :: r => (intsD r).map (b :: ·)
  | _ :: _ => none
theorem intsD_eq : ∀ {ds : List DV} {bs : List Int}, intsD ds = some bs → ds = bs.map DV.int
  | [], _, e => by cases e; rfl
  | .int b :: r, _, e => by
    obtain ⟨bs, e1, rfl⟩ := Option.map_eq_some_iff.mp (show (intsD r).map (b :: ·) = some _ from e)
    rw [intsD_eq e1]
    rfl
  | .non :: _, _, e => by cases e
  | .bl _ :: _, _, e => by cases e
  | .str _ :: _, _, e => by cases e
  | .tup _ :: _, _, e => by cases e
  | .lst _ :: _, _, e => by cases e
  | .dic _ :: _, _, e => by cases e
  | .exc _ _ :: _, _, e => by cases e
  | .mu _ :: _, _, e => by cases e
  | .rg _ _ :: _, _, e => by cases e
  | .fn _ :: _, _, e => by cases e
@[simp] theorem intsD_map : ∀ bs : List Int, intsD (bs.map DV.int) = some bs
  | [] => rfl
  | b :: r => by
    show (intsD (r.map DV.int)).map (b :: ·) = _
    rw [intsD_map r]
    rfl
def maxI : List Int → Option Int
  | [] => none
  | x :: r => match maxI r with
    | some m => some (if x < m then m else x)
    | none => some x
def minI : List Int → Option Int
  | [] => none
  | x :: r => match minI r with
    | some m => some (if m < x then m else x)
    | none => some x
theorem maxI_none {r : List Int} (h : maxI r = none) : r = [] := by
  cases r with
  | nil => rfl
  | cons x r =>
    unfold maxI at h
    split at h <;> cases h
theorem minI_none {r : List Int} (h : minI r = none) : r = [] := by
  cases r with
  | nil => rfl
  | cons x r =>
    unfold minI at h
    split at h <;> cases h
theorem maxI_ok : ∀ {ns : List Int} {m : Int}, maxI ns = some m → m ∈ ns ∧ ∀ y ∈ ns, y ≤ m
  | x :: r, m, e => by
    unfold maxI at e
    split at e
    · rename_i m' e'
      obtain ⟨h1, h2⟩ := maxI_ok e'
      have em := Option.some.inj e
      refine ⟨?_, fun y hy => ?_⟩
      · split at em <;> subst em
        · exact List.mem_cons_of_mem _ h1
        · exact List.mem_cons_self
      · rcases List.mem_cons.mp hy with rfl | hy
        · split at em <;> omega
        · have := h2 y hy
          split at em <;> omega
    · rename_i e'
      have := maxI_none e'
      subst this
      cases e
      simp
theorem minI_ok : ∀ {ns : List Int} {m : Int}, minI ns = some m → m ∈ ns ∧ ∀ y ∈ ns, m ≤ y
  | x :: r, m, e => by
    unfold minI at e
    split at e
    · rename_i m' e'
      obtain ⟨h1, h2⟩ := minI_ok e'
      have em := Option.some.inj e
      refine ⟨?_, fun y hy => ?_⟩
      · split at em <;> subst em
        · exact List.mem_cons_of_mem _ h1
        · exact List.mem_cons_self
      · rcases List.mem_cons.mp hy with rfl | hy
        · split at em <;> omega
        · have := h2 y hy
          split at em <;> omega
    · rename_i e'
      have := minI_none e'
      subst this
      cases e
      simp
theorem maxI_eq {ns : List Int} {m m' : Int} (h : maxI ns = some m) (h1 : m' ∈ ns) (h2 : ∀ y ∈ ns, y ≤ m') : m' = m := by
  obtain ⟨a, b⟩ := maxI_ok h
  have := b _ h1
  have := h2 _ a
  omega
theorem minI_eq {ns : List Int} {m m' : Int} (h : minI ns = some m) (h1 : m' ∈ ns) (h2 : ∀ y ∈ ns, m' ≤ y) : m' = m := by
  obtain ⟨a, b⟩ := minI_ok h
  have := b _ h1
  have := h2 _ a
  omega
def oMax1 : List DV → List MO → RE
  | [.lst xs], μ => match intsD xs with
    | some ns => (maxI ns).map fun m => (.int m, μ)
    | none => none
  | _, _ => none
def oMin1 : List DV → List MO → RE
  | [.lst xs], μ => match intsD xs with
    | some ns => (minI ns).map fun m => (.int m, μ)
    | none => none
  | _, _ => none
theorem SE.max1 (hc : X.calm = true) (hg : Gl X "max") (hm : X.mg "max" = none) (ss : SAr X [a] fs) (he : starEach [a] X.env = (false, eval a X.env) :: starEach [] X.env := by rfl) : SE X (.Call (.Name "max" p) [a] [] pos) (dBlt oMax1 fs) :=
  SE.blt ss (S := sMax) (fun ds μ R h => by
    unfold oMax1 at h
    split at h
    · split at h
      · rename_i xs _ ns e
        obtain ⟨m, em, r⟩ := okE_map (g := DV.int) h
        have hne : ns ≠ [] := by rintro rfl; cases em
        exact ⟨_, ns, rfl, by rw [intsD_eq e]; rfl, (fun _ z => nomatch z), List.length_pos_iff.mpr hne, fun m' h1 h2 => by rw [maxI_eq em h1 h2]; exact r⟩
      · exact h.elim
    · exact h.elim) fun ρ μ R k => Ev.max1 hc hg hm k he
theorem SE.min1 (hc : X.calm = true) (hg : Gl X "min") (hm : X.mg "min" = none) (ss : SAr X [a] fs) (he : starEach [a] X.env = (false, eval a X.env) :: starEach [] X.env := by rfl) : SE X (.Call (.Name "min" p) [a] [] pos) (dBlt oMin1 fs) :=
  SE.blt ss (S := sMin) (fun ds μ R h => by
    unfold oMin1 at h
    split at h
    · split at h
      · rename_i xs _ ns e
        obtain ⟨m, em, r⟩ := okE_map (g := DV.int) h
        have hne : ns ≠ [] := by rintro rfl; cases em
        exact ⟨_, ns, rfl, by rw [intsD_eq e]; rfl, (fun _ z => nomatch z), List.length_pos_iff.mpr hne, fun m' h1 h2 => by rw [minI_eq em h1 h2]; exact r⟩
      · exact h.elim
    · exact h.elim) fun ρ μ R k => Ev.min1 hc hg hm k he
/-- isinstance(x, T) -/
def kitT (t T : String) : Bool := t == T || (t == "bool" && T == "int")
def tysL : List String := ["NoneType", "bool", "int", "str", "tuple", "list", "dict"]
theorem kit_all {K : PySem.W.Frag} : ∀ t ∈ tysL, ∀ T ∈ tysL, PySem.W.kitOne K (.type t) (.type T) = some (kitT t T) := by
  have key : ∀ t ∈ tysL, ∀ T ∈ tysL, kitB t T = some (kitT t T) := by decide +kernel
  exact fun t ht T hT => kit_ty (key t ht T hT)
def dIsi (T : String) (fa : Den) : Den := fun ρ μ => bnd (fa ρ μ) fun d μ1 => match DV.ty d with
  | some t => some (.bl (kitT t T), μ1)
  | none => none
theorem ty_mem {d : DV} {t : String} (h : DV.ty d = some t) : t ∈ tysL := by
  cases d <;> first | (cases h; decide) | cases h
theorem SE.isi {y : Str} {py : Pos} {T : String} (hg : Gl X "isinstance") (hm : X.mg "isinstance" = none) (gy : Gl X y) (my : X.mg y = none) (hT : T ∈ tysL) (hy : bootBuiltins y = some (.type T)) (ny : y ≠ "__name__") (dy : (y == ("__debug__" : Str)) = false) (sa : SE X a fa)
    (he : starEach [a, .Name y py] X.env = (false, eval a X.env) :: starEach [.Name y py] X.env := by rfl) (hpl : (backTo pos (starEach [.Name y py] X.env)).any (·.1) = false := by rfl)
    (hs : starEach [.Name y py] X.env = (false, eval (.Name y py) X.env) :: starEach [] X.env := by rfl) : SE X (.Call (.Name "isinstance" p) [a, .Name y py] [] pos) (dIsi T fa) := fun ρ μ R k => by
  obtain ⟨d, μ1, e1, k⟩ := okE_bnd k
  split at k
  · rename_i t et
    exact Ev.isi hg hm gy my hy ny dy (sa.at e1 ⟨t, _, et, kit_all t (ty_mem et) T hT, k⟩) he hpl hs
  · exact k.elim
/-- list(xs): to be read, to be changed -/
def oList : List DV → List MO → RE
  | [d], μ => match itemsD μ d with
    | some xs => some (.lst xs, μ)
    | none => none
  | _, _ => none
def sListL : SA := fun ds μ R => ∃ d xs, ds = [d] ∧ itemsD μ d = some xs ∧ R (.lst xs) μ
theorem list_S : RaS X (fun xs H Q => ∃ p ys, xs = [.ref p] ∧ (SqL X.K H p ys ∨ SqT X.K H p ys) ∧ ∀ l, H l = none → Q (.ref l) (upd H l (.lst ys))) sListL := fun α μ H σ ρ vs ds R Q E hv h q => by
  obtain ⟨d, xs, rfl, e, hR⟩ := h
  obtain ⟨v, rfl, hw⟩ := hasL1 hv
  obtain ⟨p, vs, rfl, hl, s⟩ := seq_of E.live hw e
  refine ⟨p, vs, rfl, s, fun l nl => ?_⟩
  obtain ⟨k, l'⟩ := E.live.lay (o := .lst vs) nl
  exact q _ _ α μ _ hR (E.ext k l') k (.lst (.inl ⟨E.live.fresh nl, .inl upd_same⟩) (k.hasL hl))
theorem SE.list (hg : Gl X "list") (hm : X.mg "list" = none) (ss : SAr X [a] fs) (he : starEach [a] X.env = (false, eval a X.env) :: starEach [] X.env := by rfl) : SE X (.Call (.Name "list" p) [a] [] pos) (dBlt oList fs) :=
  SE.blt ss (S := sListL) (fun ds μ R h => by
    unfold oList at h
    split at h
    · split at h
      · rename_i d _ xs e
        exact ⟨d, xs, rfl, e, h⟩
      · exact h.elim
    · exact h.elim) fun ρ μ R k => Ev.callTy call_list_of list_S hg hm PyProof.Rows.boot_list k (by decide) (by decide) he rfl
/-! ### slices -/
def runP (g : Option Den) (ρ : RO) (μ : List MO) : Option (Option Int × List MO) := match g with
  | none => some (none, μ)
  | some g => bnd (g ρ μ) fun l μ2 => match l with
    | .int i => some (some i, μ2)
    | _ => none
def dSl (fa : Den) (fl fu : Option Den) : Den := fun ρ μ => bnd (fa ρ μ) fun d μ1 => bnd (runP fl ρ μ1) fun l μ2 => bnd (runP fu ρ μ2) fun u μ3 =>
  match d with
  | .lst ds => some (.lst (cutD ds l u), μ3)
  | .tup ds => some (.tup (cutD ds l u), μ3)
  | _ => none
def SPo (X : Cx) (e : Option Expr) (g : Option Den) : Prop := (e = none ∧ g = none) ∨ ∃ e' g', e = some e' ∧ g = some g' ∧ SE X e' g'
theorem spN : SPo X none none := .inl ⟨rfl, rfl⟩
theorem spS (h : SE X e f) : SPo X (some e) (some f) := .inr ⟨e, f, rfl, rfl, h⟩
theorem spo_at {eo : Option Expr} {go : Option Den} (s : SPo X eo go) {z : Option Int} {μ' : List MO} {R : Cp} (h : runP go ρ μ = some (z, μ')) (r : R z μ') : EvP X eo ρ μ R := by
  rcases s with ⟨rfl, rfl⟩ | ⟨e', g', rfl, rfl, s⟩
  · cases h
    exact EvP.none r
  · unfold runP at h
    dsimp only at h
    cases hg : g' ρ μ with
    | none => rw [hg] at h; cases h
    | some q =>
      obtain ⟨l, μ2⟩ := q
      rw [hg, bnd_some] at h
      cases l with
      | int i => cases h; exact EvP.some (s.at hg ⟨i, rfl, r⟩)
      | _ => cases h
theorem okE_bndP {o : Option (Option Int × List MO)} {k : Option Int → List MO → RE} {R : Cn} (h : okE (bnd o k) R) : ∃ d μ, o = some (d, μ) ∧ okE (k d μ) R := by
  match o, h with
  | some (d, μ), h => exact ⟨d, μ, rfl, h⟩
theorem Ev.sliceT {lo hi : Option Expr} {p2 : Pos} {R : Cn} (h : Ev X a ρ μ fun d μ1 => ∃ ds, d = .tup ds ∧ EvP X lo ρ μ1 fun l μ2 => EvP X hi ρ μ2 fun u μ3 => R (.tup (cutD ds l u)) μ3) : Ev X (.Subscript a (.Slice lo hi none p2) pos) ρ μ R :=
  PEw (pe_slice sl_tupA pe_a po_a po_a) fun σ H Q ⟨α, E, q⟩ => ⟨_, h, α, E, fun v d α1 μ1 H1 ⟨ds, e, h1⟩ E1 X1 hv => by
    subst e
    refine ⟨_, h1, α1, E1, fun l α2 μ2 H2 h2 E2 X2 => ⟨_, h2, α2, E2, fun u α3 μ3 H3 h3 E3 X3 => ?_⟩⟩
    obtain ⟨p, vs, rfl, s3, hl⟩ := sqT_of (X3.has (X2.has hv))
    refine ⟨p, vs, rfl, s3, ?_, ?_⟩
    · rintro ⟨z1, z2⟩
      have e : cutD ds l u = ds := by
        unfold cutD
        rw [hl.length] at z1 z2
        rw [z1, z2]
        simp
      have h3' : R (DV.tup (cutD ds l u)) μ3 := h3
      rw [e] at h3'
      exact q _ _ _ _ _ h3' E3 (X1.trans (X2.trans X3)) (.tup s3 hl)
    · intro _ b nb
      obtain ⟨k, l'⟩ := E3.live.lay (o := .tup (cutV vs l u)) nb
      exact q _ _ _ _ _ h3 (E3.ext k l') (X1.trans (X2.trans (X3.trans k))) (.tup (.of upd_same) (k.hasL (cut_has hl l u)))⟩
theorem SE.slice {lo hi : Option Expr} {fl fu : Option Den} {p2 : Pos} (sa : SE X a fa) (sl : SPo X lo fl) (su : SPo X hi fu) : SE X (.Subscript a (.Slice lo hi none p2) pos) (dSl fa fl fu) := fun ρ μ R k => by
  obtain ⟨d, μ1, e1, k⟩ := okE_bnd k
  obtain ⟨l, μ2, e2, k⟩ := okE_bndP k
  obtain ⟨u, μ3, e3, k⟩ := okE_bndP k
  cases d with
  | lst ds => exact Ev.sliceL (sa.at e1 ⟨ds, rfl, spo_at sl e2 (spo_at su e3 k)⟩)
  | tup ds => exact Ev.sliceT (sa.at e1 ⟨ds, rfl, spo_at sl e2 (spo_at su e3 k)⟩)
  | _ => exact k.elim
/-! ### what is walked -/
def SI (X : Cx) (tg e : Expr) (f : DenA) : Prop := ∀ ρ μ R, okA (f ρ μ) R → EvI X tg e ρ μ R
def iSeq (fa : Den) : DenA := fun ρ μ => bnd (fa ρ μ) fun d μ1 => match d with
  | .lst ds => some (ds, μ1)
  | .tup ds => some (ds, μ1)
  | .str z => some (sgD z, μ1)
  | _ => none
theorem SI.seq {tg : Expr} (sa : SE X e fa) : SI X tg e (iSeq fa) := fun ρ μ R k => by
  obtain ⟨d, μ1, e1, k⟩ := okA_bnd k
  cases d with
  | lst ds => exact EvI.lst (sa.at e1 ⟨ds, rfl, k⟩)
  | tup ds => exact EvI.tup (sa.at e1 ⟨ds, rfl, k⟩)
  | str z => exact EvI.str (sa.at e1 ⟨z, rfl, k⟩)
  | _ => exact k.elim
def iRange1 (fs : DenA) : DenA := fun ρ μ => bnd (fs ρ μ) fun ds μ1 => match ds with
  | [.int j] => if -4000000000000000000 ≤ j ∧ j < 4000000000000000000 then some (rgD 0 j.toNat, μ1) else none
  | _ => none
def iRange2 (fs : DenA) : DenA := fun ρ μ => bnd (fs ρ μ) fun ds μ1 => match ds with
  | [.int i, .int j] => if -4000000000000000000 ≤ i ∧ i < 4000000000000000000 ∧ -4000000000000000000 ≤ j ∧ j < 4000000000000000000 then some (rgD i (j - i).toNat, μ1) else none
  | _ => none
theorem okA_if {c : Prop} [Decidable c] {o : Option (List DV × List MO)} {R : Ca} (h : okA (if c then o else none) R) : c ∧ okA o R := by
  by_cases hc : c
  · rw [if_pos hc] at h
    exact ⟨hc, h⟩
  · rw [if_neg hc] at h
    exact h.elim
theorem EvI.range2 {tg : Expr} {Ra : Ca} (hg : Gl X "range") (hm : X.mg "range" = none) (h : EvA X [a, b] ρ μ fun ds μ1 => ∃ i j : Int, ds = [.int i, .int j] ∧ (-(2 ^ 62) ≤ i ∧ i < 2 ^ 62 ∧ -(2 ^ 62) ≤ j ∧ j < 2 ^ 62) ∧ Ra (rgD i (j - i).toNat) μ1) (hs : starEach [a, b] X.env = [(false, eval a X.env), (false, eval b X.env)] := by rfl) (hs2 : starEach [b] X.env = [(false, eval b X.env)] := by rfl) :
    EvI X tg (.Call (.Name "range" p) [a, b] [] pos) ρ μ Ra :=
  PIw (pi_range2 hg hm pa_a hs hs2) fun σ H Q ⟨α, E, q⟩ => ⟨_, h, α, E, fun vs ds α1 μ1 H1 ⟨i, j, e, h1, r⟩ E1 X1 hv => by
    subst e
    obtain ⟨v, u, rfl, hw, hu⟩ := hasL2 hv
    cases hw
    cases hu
    exact ⟨i, j, rfl, h1, q _ _ α1 μ1 H1 r E1 X1 (itr_ok i (j - i).toNat)⟩⟩
theorem SI.range1 {tg : Expr} (hg : Gl X "range") (hm : X.mg "range" = none) (ss : SAr X [a] fs) (hs : starEach [a] X.env = [(false, eval a X.env)] := by rfl) : SI X tg (.Call (.Name "range" p) [a] [] pos) (iRange1 fs) := fun ρ μ R k => by
  obtain ⟨ds, μ1, e1, k⟩ := okA_bndA k
  refine EvI.range1 hg hm (ss.at e1 ?_) hs
  split at k
  · obtain ⟨c, k⟩ := okA_if k
    exact ⟨_, rfl, by omega, by omega, k⟩
  · exact k.elim
theorem SI.range2 {tg : Expr} (hg : Gl X "range") (hm : X.mg "range" = none) (ss : SAr X [a, b] fs) (hs : starEach [a, b] X.env = [(false, eval a X.env), (false, eval b X.env)] := by rfl) (hs2 : starEach [b] X.env = [(false, eval b X.env)] := by rfl) : SI X tg (.Call (.Name "range" p) [a, b] [] pos) (iRange2 fs) := fun ρ μ R k => by
  obtain ⟨ds, μ1, e1, k⟩ := okA_bndA k
  refine EvI.range2 hg hm (ss.at e1 ?_) hs hs2
  split at k
  · obtain ⟨c, k⟩ := okA_if k
    exact ⟨_, _, rfl, by omega, k⟩
  · exact k.elim
def iZip (fs : DenA) : DenA := fun ρ μ => bnd (fs ρ μ) fun ds μ1 => match ds with
  | [.tup xs, .tup ys] => some (zipD xs ys, μ1)
  | [.lst xs, .lst ys] => some (zipD xs ys, μ1)
  | _ => none
theorem SI.zip {tpos : Pos} {elts : List Expr} {kk : Nat} (hg : Gl X "zip") (hm : X.mg "zip" = none) (ss : SAr X [a, b] fs)
    (hs : starEach [a, b] X.env = (false, eval a X.env) :: starEach [b] X.env := by rfl) (hpl : (backTo pos (starEach [b] X.env)).any (·.1) = false := by rfl) : SI X (.Tuple elts kk tpos) (.Call (.Name "zip" p) [a, b] [] pos) (iZip fs) := fun ρ μ R k => by
  obtain ⟨ds, μ1, e1, k⟩ := okA_bndA k
  split at k
  · exact EvI.zipT hg hm (ss.at e1 ⟨_, _, rfl, k⟩) hs hpl
  · exact EvI.zipL hg hm (ss.at e1 ⟨_, _, rfl, k⟩) hs hpl
  · exact k.elim
end
end Eg

namespace Eg
open PySem PySem.Spec PyProof.Rows L2
section
variable {X : Cx} {a b c e : Expr} {es : List Expr} {fa fb fc f : Den} {fs fi : DenA} {pos p : Pos} {ρ : RO} {μ : List MO}
/-! ### comprehensions -/
open Classical in
noncomputable def dropL (n : Nat) (acc : List DV) (μ : List MO) : Option (List MO) := if μ = μ.take n ++ [.lst acc] then some (μ.take n) else none
theorem dropL_ok {n : Nat} {acc : List DV} {μ μ4 : List MO} (h : dropL n acc μ = some μ4) : μ = μ4 ++ [.lst acc] ∧ μ4.length = n := by
  unfold dropL at h
  split at h
  · rename_i c
    cases h
    refine ⟨c, ?_⟩
    have z := congrArg List.length c
    rw [List.length_append, List.length_take, List.length_singleton] at z
    rw [List.length_take]
    omega
  · cases h
@[simp] theorem dropL_app {acc : List DV} {μ : List MO} {n : Nat} (h : μ.length = n) : dropL n acc (μ ++ [.lst acc]) = some μ := by
  unfold dropL
  subst h
  rw [List.take_left, if_pos rfl]
abbrev Bd := DV → RO → Option RO
def bd1 (i : Nat) : Bd := fun d ρ => some (ρ.set i (some d))
def bd2 (i j : Nat) : Bd := fun d ρ => match d with
  | .tup [x, y] => some ((ρ.set i (some x)).set j (some y))
  | _ => none
noncomputable def lcLoop (bd : Bd) (c elt : Den) (ρ : RO) (n : Nat) : List DV → List DV → List MO → Option (List DV × List MO)
  | [], acc, μ => some (acc, μ)
  | d :: ds, acc, μ => match bd d ρ with
    | none => none
    | some ρ' => bnd (c ρ' (μ ++ [.lst acc])) fun t μ3 => match t with
      | .bl true => bnd (elt ρ' μ3) fun y μ5 => match dropL n acc μ5 with
        | some μ4 => lcLoop bd c elt ρ n ds (acc ++ [y]) μ4
        | none => none
      | .bl false => match dropL n acc μ3 with
        | some μ4 => lcLoop bd c elt ρ n ds acc μ4
        | none => none
      | _ => none
noncomputable def dLc (fi : DenA) (bd : Bd) (c elt : Den) : Den := fun ρ μ => bnd (fi ρ μ) fun ds μ1 => if ds.length ≤ 16777216 then bnd (lcLoop bd c elt ρ μ1.length ds [] μ1) fun acc μ2 => cutd μ (.lst acc) (μ2 ++ [.dead]) else none
abbrev dT : Den := dC (.bl true)
theorem drop_cons {α : Type} {l : List α} {j : Nat} {d : α} (h : l[j]? = some d) : l.drop j = d :: l.drop (j + 1) := by
  obtain ⟨hj, e⟩ := List.getElem?_eq_some_iff.mp h
  rw [← e]
  exact List.drop_eq_getElem_cons hj
theorem sl_eq : sizeLine = 16777216 := by rw [sizeLine_eq]
/-- the turn of a comprehension -/
theorem lc_turn {bd : Bd} {c elt : Den} {n : Nat} {d : DV} {ds acc : List DV} {μ2 : List MO} {aF : List DV} {μF : List MO} (h : lcLoop bd c elt ρ n (d :: ds) acc μ2 = some (aF, μF)) :
    ∃ ρ' t μ3, bd d ρ = some ρ' ∧ c ρ' (μ2 ++ [.lst acc]) = some (.bl t, μ3) ∧
      ((t = true ∧ ∃ y μ5 μ4, elt ρ' μ3 = some (y, μ5) ∧ μ5 = μ4 ++ [.lst acc] ∧ μ4.length = n ∧ lcLoop bd c elt ρ n ds (acc ++ [y]) μ4 = some (aF, μF)) ∨
       (t = false ∧ ∃ μ4, μ3 = μ4 ++ [.lst acc] ∧ μ4.length = n ∧ lcLoop bd c elt ρ n ds acc μ4 = some (aF, μF))) := by
  unfold lcLoop at h
  cases hb : bd d ρ with
  | none => rw [hb] at h; cases h
  | some ρ' =>
    rw [hb] at h
    dsimp only at h
    cases hc : c ρ' (μ2 ++ [.lst acc]) with
    | none => rw [hc] at h; cases h
    | some q =>
      obtain ⟨t, μ3⟩ := q
      rw [hc, bnd_some] at h
      cases t with
      | bl t =>
        refine ⟨ρ', t, μ3, rfl, hc, ?_⟩
        cases t with
        | true =>
          dsimp only at h
          cases he : elt ρ' μ3 with
          | none => rw [he] at h; cases h
          | some q =>
            obtain ⟨y, μ5⟩ := q
            rw [he, bnd_some] at h
            cases hd : dropL n acc μ5 with
            | none => rw [hd] at h; cases h
            | some μ4 =>
              rw [hd] at h
              obtain ⟨e1, e2⟩ := dropL_ok hd
              exact .inl ⟨rfl, y, μ5, μ4, rfl, e1, e2, h⟩
        | false =>
          dsimp only at h
          cases hd : dropL n acc μ3 with
          | none => rw [hd] at h; cases h
          | some μ4 =>
            rw [hd] at h
            obtain ⟨e1, e2⟩ := dropL_ok hd
            exact .inr ⟨rfl, μ4, e1, e2, h⟩
      | _ => cases h
theorem SE.lcIf {elt iter ce : Expr} {scope : Scope} {x : Str} {px : Pos} (i : Nat) (hc : X.calm = true) (hN : X.N.Nodup) (hi : X.N[i]? = some x) (ok : BlkOk X.N X.env.scope scope [(x, i)])
    (hl : ∀ (s : Shared) (H : Hp) (C : Addr) (cl : List (Str × Addr)) (fp : List Addr), Loc (blkX X s H scope C cl fp).env.scope x ∧ ((blkX X s H scope C cl fp).fn x = true ∨ (blkX X s H scope C cl fp).env.scope.names.lookup x = some .local))
    (si : SI X (.Name x px) iter fi) (sc : ∀ s H C cl fp, ST (blkX X s H scope C cl fp) ce fc) (se : ∀ s H C cl fp, SE (blkX X s H scope C cl fp) elt f) (hs : ∀ x, foldedSetIterable iter X.env x = pure x := by intro _; rfl) :
    SE X (.ListComp elt [⟨.Name x px, iter, [ce], 0⟩] scope pos) (dLc fi (bd1 i) fc f) := fun ρ μ R k => by
  obtain ⟨ds, μ1, e1, k⟩ := okE_bndA k
  obtain ⟨hz, k⟩ := okE_if k
  obtain ⟨aF, μF, e2, k⟩ := okE_bndA k
  refine Ev.cutd (Ev.lcIf i hc hN hi ok hl (si ρ μ _ ?_) hs)
  rw [e1]
  refine ⟨by rw [sl_eq]; exact hz, fun j acc μ' => lcLoop (bd1 i) fc f ρ μ1.length (ds.drop j) acc μ' = some (aF, μF), e2, ?_, ?_⟩
  · intro j d acc μ2 hd hl2 hI s H C cl fp
    rw [drop_cons hd] at hI
    obtain ⟨ρ', t, μ3, b1, c1, hh⟩ := lc_turn hI
    cases b1
    refine (sc s H C cl fp).at c1 ?_
    rcases hh with ⟨rfl, y, μ5, μ4, he, h5, h4, hI'⟩ | ⟨rfl, μ4, h3, h4, hI'⟩
    · exact iteT fun s H C cl fp => (se s H C cl fp).at he ⟨μ4, h5, h4, hI'⟩
    · exact iteF ⟨μ4, h3, h4, hI'⟩
  · intro acc μ2 hl2 hI
    rw [List.drop_length] at hI
    cases hI
    exact k
theorem SE.lc {elt iter : Expr} {scope : Scope} {x : Str} {px : Pos} (i : Nat) (hc : X.calm = true) (hN : X.N.Nodup) (hi : X.N[i]? = some x) (ok : BlkOk X.N X.env.scope scope [(x, i)])
    (hl : ∀ (s : Shared) (H : Hp) (C : Addr) (cl : List (Str × Addr)) (fp : List Addr), Loc (blkX X s H scope C cl fp).env.scope x ∧ ((blkX X s H scope C cl fp).fn x = true ∨ (blkX X s H scope C cl fp).env.scope.names.lookup x = some .local))
    (si : SI X (.Name x px) iter fi) (se : ∀ s H C cl fp, SE (blkX X s H scope C cl fp) elt f) (hs : ∀ x, foldedSetIterable iter X.env x = pure x := by intro _; rfl) :
    SE X (.ListComp elt [⟨.Name x px, iter, [], 0⟩] scope pos) (dLc fi (bd1 i) dT f) := fun ρ μ R k => by
  obtain ⟨ds, μ1, e1, k⟩ := okE_bndA k
  obtain ⟨hz, k⟩ := okE_if k
  obtain ⟨aF, μF, e2, k⟩ := okE_bndA k
  refine Ev.cutd (Ev.lc i hc hN hi ok hl (si ρ μ _ ?_) hs)
  rw [e1]
  refine ⟨by rw [sl_eq]; exact hz, fun j acc μ' => lcLoop (bd1 i) dT f ρ μ1.length (ds.drop j) acc μ' = some (aF, μF), e2, ?_, ?_⟩
  · intro j d acc μ2 hd hl2 hI s H C cl fp
    rw [drop_cons hd] at hI
    obtain ⟨ρ', t, μ3, b1, c1, hh⟩ := lc_turn hI
    cases b1
    cases c1
    rcases hh with ⟨_, y, μ5, μ4, he, h5, h4, hI'⟩ | ⟨z, _⟩
    · exact (se s H C cl fp).at he ⟨μ4, h5, h4, hI'⟩
    · cases z
  · intro acc μ2 hl2 hI
    rw [List.drop_length] at hI
    cases hI
    exact k
theorem bd2_some {i j : Nat} {d : DV} {ρ' : RO} (h : bd2 i j d ρ = some ρ') : ∃ x y, d = .tup [x, y] ∧ ρ' = (ρ.set i (some x)).set j (some y) := by
  unfold bd2 at h
  split at h
  · cases h
    exact ⟨_, _, rfl, rfl⟩
  · cases h
theorem SE.lc2 {elt iter : Expr} {scope : Scope} {x x' : Str} {px px' pt : Pos} {kt : Nat} (i i' : Nat) (hne : i ≠ i') (hc : X.calm = true) (hN : X.N.Nodup) (hi : X.N[i]? = some x) (hi' : X.N[i']? = some x') (ok : BlkOk X.N X.env.scope scope [(x, i), (x', i')])
    (hcb : ∀ (s : Shared) (H : Hp) (C : Addr) (cl : List (Str × Addr)) (fp : List Addr), (blkX X s H scope C cl fp).calm = true)
    (hl : ∀ (s : Shared) (H : Hp) (C : Addr) (cl : List (Str × Addr)) (fp : List Addr), Loc (blkX X s H scope C cl fp).env.scope x ∧ ((blkX X s H scope C cl fp).fn x = true ∨ (blkX X s H scope C cl fp).env.scope.names.lookup x = some .local))
    (hl' : ∀ (s : Shared) (H : Hp) (C : Addr) (cl : List (Str × Addr)) (fp : List Addr), Loc (blkX X s H scope C cl fp).env.scope x' ∧ ((blkX X s H scope C cl fp).fn x' = true ∨ (blkX X s H scope C cl fp).env.scope.names.lookup x' = some .local))
    (si : SI X (.Tuple [.Name x px, .Name x' px'] kt pt) iter fi) (se : ∀ s H C cl fp, SE (blkX X s H scope C cl fp) elt f) (hs : ∀ x, foldedSetIterable iter X.env x = pure x := by intro _; rfl) :
    SE X (.ListComp elt [⟨.Tuple [.Name x px, .Name x' px'] kt pt, iter, [], 0⟩] scope pos) (dLc fi (bd2 i i') dT f) := fun ρ μ R k => by
  obtain ⟨ds, μ1, e1, k⟩ := okE_bndA k
  obtain ⟨hz, k⟩ := okE_if k
  obtain ⟨aF, μF, e2, k⟩ := okE_bndA k
  refine Ev.cutd (Ev.lc2 i i' hne hc hN hi hi' ok hcb hl hl' (si ρ μ _ ?_) hs)
  rw [e1]
  -- every item is a pair: else the loop would have been stopped
  have all2 : ∀ (ds acc : List DV) (μ' : List MO), lcLoop (bd2 i i') dT f ρ μ1.length ds acc μ' = some (aF, μF) → ∀ d ∈ ds, ∃ x y, d = .tup [x, y] := by
    intro ds
    induction ds with
    | nil => intro acc μ' _ d hd; cases hd
    | cons d0 ds ih =>
      intro acc μ' h d hd
      obtain ⟨ρ', t, μ3, b1, c1, hh⟩ := lc_turn h
      obtain ⟨x, y, e, _⟩ := bd2_some b1
      rcases List.mem_cons.mp hd with rfl | hd
      · exact ⟨x, y, e⟩
      · rcases hh with ⟨_, y, μ5, μ4, _, _, _, hI'⟩ | ⟨_, μ4, _, _, hI'⟩
        · exact ih _ _ hI' d hd
        · exact ih _ _ hI' d hd
  refine ⟨by rw [sl_eq]; exact hz, fun j acc μ' => lcLoop (bd2 i i') dT f ρ μ1.length (ds.drop j) acc μ' = some (aF, μF), e2, ?_, ?_⟩
  · intro j d hd
    obtain ⟨x, y, rfl⟩ := all2 _ _ _ e2 d (List.mem_of_getElem? hd)
    refine ⟨x, y, rfl, ?_⟩
    intro acc μ2 hl2 hI s H C cl fp
    rw [drop_cons hd] at hI
    obtain ⟨ρ', t, μ3, b1, c1, hh⟩ := lc_turn hI
    cases b1
    cases c1
    rcases hh with ⟨_, y, μ5, μ4, he, h5, h4, hI'⟩ | ⟨z, _⟩
    · exact (se s H C cl fp).at he ⟨μ4, h5, h4, hI'⟩
    · cases z
  · intro acc μ2 hl2 hI
    rw [List.drop_length] at hI
    cases hI
    exact k
/-- a comprehension whose items change nothing -/
theorem lcLoop_pure {bd : Bd} {c elt : Den} {p : DV → Bool} {g : DV → DV} {n : Nat} : ∀ (ds acc : List DV) (μ : List MO), μ.length = n → (∀ d ∈ ds, ∃ ρ', bd d ρ = some ρ' ∧ ∀ μ', c ρ' μ' = some (.bl (p d), μ') ∧ (p d = true → elt ρ' μ' = some (g d, μ'))) →
    lcLoop bd c elt ρ n ds acc μ = some (acc ++ (ds.filter p).map g, μ)
  | [], acc, μ, _, _ => by simp [lcLoop]
  | d :: ds, acc, μ, hn, h => by
    obtain ⟨ρ', e1, e2⟩ := h d List.mem_cons_self
    unfold lcLoop
    rw [e1]
    dsimp only
    rw [(e2 _).1, bnd_some]
    cases hp : p d with
    | true =>
      dsimp only
      rw [(e2 _).2 hp, bnd_some, dropL_app hn]
      dsimp only
      rw [lcLoop_pure ds _ μ hn fun d' hd' => h d' (List.mem_cons_of_mem _ hd'), List.filter_cons_of_pos hp]
      simp
    | false =>
      dsimp only
      rw [dropL_app hn]
      dsimp only
      rw [lcLoop_pure ds _ μ hn fun d' hd' => h d' (List.mem_cons_of_mem _ hd'), List.filter_cons_of_neg (by simp [hp])]
@[simp] theorem cutd_self {μ : List MO} {d : DV} : cutd μ d μ = some (d, μ) := by
  unfold cutd
  split <;> simp
theorem cutd_pure {μ g : List MO} {d : DV} (h : DV.bel μ.length d = true) : cutd μ d (μ ++ g) = some (d, μ) := by
  unfold cutd
  rw [List.take_left, if_pos ⟨h, fun j hj => .inl (List.getElem?_append_left hj)⟩]
theorem dLc_pure {bd : Bd} {c elt : Den} {p : DV → Bool} {g : DV → DV} {ds : List DV} (hi : fi ρ μ = some (ds, μ)) (hz : ds.length ≤ 16777216)
    (h : ∀ d ∈ ds, ∃ ρ', bd d ρ = some ρ' ∧ ∀ μ', c ρ' μ' = some (.bl (p d), μ') ∧ (p d = true → elt ρ' μ' = some (g d, μ'))) (hb : ∀ d ∈ ds, p d = true → DV.bel μ.length (g d) = true) :
    dLc fi bd c elt ρ μ = some (.lst ((ds.filter p).map g), μ) := by
  unfold dLc
  rw [hi, bnd_some, if_pos hz, lcLoop_pure ds [] μ rfl h, bnd_some, List.nil_append]
  refine cutd_pure ?_
  have : ∀ l : List DV, (∀ d ∈ l, p d = true → DV.bel μ.length (g d) = true) → DV.belL μ.length ((l.filter p).map g) = true := by
    intro l
    induction l with
    | nil => intro _; rfl
    | cons d l ih =>
      intro hl
      cases hp : p d with
      | true =>
        rw [List.filter_cons_of_pos hp]
        exact Bool.and_eq_true_iff.mpr ⟨hl d List.mem_cons_self hp, ih fun d' hd' => hl d' (List.mem_cons_of_mem _ hd')⟩
      | false =>
        rw [List.filter_cons_of_neg (by simp [hp])]
        exact ih fun d' hd' => hl d' (List.mem_cons_of_mem _ hd')
  exact this ds hb
theorem dLc_map {bd : Bd} {elt : Den} {g : DV → DV} {ds : List DV} (hi : fi ρ μ = some (ds, μ)) (hz : ds.length ≤ 16777216)
    (h : ∀ d ∈ ds, ∃ ρ', bd d ρ = some ρ' ∧ ∀ μ', elt ρ' μ' = some (g d, μ')) (hb : ∀ d ∈ ds, DV.bel μ.length (g d) = true) :
    dLc fi bd dT elt ρ μ = some (.lst (ds.map g), μ) := by
  have := dLc_pure (c := dT) (p := fun _ => true) hi hz (fun d hd => by
    obtain ⟨ρ', e1, e2⟩ := h d hd
    exact ⟨ρ', e1, fun μ' => ⟨rfl, fun _ => e2 μ'⟩⟩) fun d hd _ => hb d hd
  rw [this]
  congr 3
  rw [List.filter_eq_self.mpr fun _ _ => rfl]
/-! ### targets -/
abbrev DenG := DV → RO → List MO → Option (RO × List MO)
abbrev DenGs := List DV → RO → List MO → Option (RO × List MO)
def okG (o : Option (RO × List MO)) (R : RO → List MO → Prop) : Prop := match o with
  | some (ρ, μ) => R ρ μ
  | none => False
def SG (X : Cx) (t : Expr) (g : DenG) : Prop := ∀ d ρ μ R, okG (g d ρ μ) R → EvG X t d ρ μ R
def SGs (X : Cx) (ts : List Expr) (g : DenGs) : Prop := ∀ ds ρ μ R, okG (g ds ρ μ) R → EvGs X ts ds ρ μ R
theorem okG_bnd {o : Option (RO × List MO)} {k : RO → List MO → Option (RO × List MO)} {R : RO → List MO → Prop} (h : okG (bnd o k) R) : ∃ d μ, o = some (d, μ) ∧ okG (k d μ) R := by
  match o, h with
  | some (d, μ), h => exact ⟨d, μ, rfl, h⟩
theorem okG_bndE {o : RE} {k : DV → List MO → Option (RO × List MO)} {R : RO → List MO → Prop} (h : okG (bnd o k) R) : ∃ d μ, o = some (d, μ) ∧ okG (k d μ) R := by
  match o, h with
  | some (d, μ), h => exact ⟨d, μ, rfl, h⟩
def gNm (i : Nat) : DenG := fun d ρ μ => some (ρ.set i (some d), μ)
theorem SG.name (i : Nat) {x : Str} (hN : X.N.Nodup) (hi : X.N[i]? = some x) (hx : Loc X.env.scope x) (hf : X.fn x = true ∨ X.env.scope.names.lookup x = some .local) : SG X (.Name x pos) (gNm i) := fun d ρ μ R h => EvG.name i hN hi hx hf h
def gEnd : DenGs := fun ds ρ μ => match ds with
  | [] => some (ρ, μ)
  | _ => none
def gAnd (g : DenG) (gs : DenGs) : DenGs := fun ds ρ μ => match ds with
  | d :: ds => bnd (g d ρ μ) fun ρ1 μ1 => gs ds ρ1 μ1
  | [] => none
theorem SGs.nil : SGs X [] gEnd := fun ds ρ μ R h => by
  unfold gEnd at h
  split at h
  · exact EvGs.nil h
  · exact h.elim
theorem SGs.cons {t : Expr} {ts : List Expr} {g : DenG} {gs : DenGs} (sg : SG X t g) (ss : SGs X ts gs) (hs : (assignEach (t :: ts) X.env).map (·.2) = assign t X.env :: (assignEach ts X.env).map (·.2) := by rfl) : SGs X (t :: ts) (gAnd g gs) := fun ds ρ μ R h => by
  unfold gAnd at h
  split at h
  · rename_i d ds
    obtain ⟨ρ1, μ1, e1, h⟩ := okG_bnd h
    exact EvGs.cons (sg d ρ μ _ (by rw [e1]; exact ss ds ρ1 μ1 R h)) hs
  · exact h.elim
def gTu (n : Nat) (gs : DenGs) : DenG := fun d ρ μ => match d with
  | .tup ds => if ds.length = n then gs ds ρ μ else none
  | _ => none
theorem SG.tup {ts : List Expr} {k n : Nat} {gs : DenGs} (hc : X.calm = true) (ss : SGs X ts gs) (hn : (assignEach ts X.env).length = n := by rfl) (hst : (assignEach ts X.env).findIdx? (·.1) = none := by rfl) : SG X (.Tuple ts k pos) (gTu n gs) := fun d ρ μ R h => by
  unfold gTu at h
  split at h
  · rename_i ds
    by_cases c : ds.length = n
    · rw [if_pos c] at h
      exact EvG.tup hc (ss ds ρ μ R h) (by rw [hn, c]) hst
    · rw [if_neg c] at h
      exact h.elim
  · exact h.elim
def gSb (fo fi : Den) : DenG := fun d ρ μ => bnd (fo ρ μ) fun o μ1 => bnd (fi ρ μ1) fun i μ2 => match o, i with
  | .mu k, .int z => match μ2[k]? with
    | some (.lst xs) => match ixN xs.length z with
      | some j => some (ρ, μ2.set k (.lst (xs.set j d)))
      | none => none
    | _ => none
  | _, _ => none
theorem SG.sub {o i : Expr} {fo fi : Den} (so : SE X o fo) (si : SE X i fi) (ha : ∀ v, assign (.Subscript o i pos) X.env v = (do
      let ov ← holding [v] (eval o X.env)
      let iv ← holding [v, ov] (eval i X.env)
      standAt pos
      holding [v, ov, iv] (setItem ov iv v)
      release [v, ov, iv] []) := by intro _; rfl) : SG X (.Subscript o i pos) (gSb fo fi) := fun d ρ μ R h => by
  obtain ⟨x, μ1, e1, h⟩ := okG_bndE h
  obtain ⟨y, μ2, e2, h⟩ := okG_bndE h
  cases x with
  | mu k =>
    cases y with
    | int z =>
      dsimp only at h
      split at h
      · rename_i xs hk
        split at h
        · rename_i j hj
          exact EvG.sub (so.at e1 (si.at e2 ⟨k, xs, z, j, rfl, rfl, hk, hj, h⟩)) ha
        · exact h.elim
      · exact h.elim
    | _ => exact h.elim
  | _ => exact h.elim
/-! ### statements -/
abbrev DenS := RO → List MO → Option Out
def okS (o : Option Out) (R : Co) : Prop := match o with
  | some o => R o
  | none => False
def S1 (X : Cx) (s : Stmt) (f : DenS) : Prop := ∀ ρ μ R, okS (f ρ μ) R → St X s ρ μ R
def SS (X : Cx) (s : List Stmt) (f : DenS) : Prop := ∀ ρ μ R, okS (f ρ μ) R → Sts X s ρ μ R
theorem okS_bnd {o : RE} {k : DV → List MO → Option Out} {R : Co} (h : okS (bnd o k) R) : ∃ d μ, o = some (d, μ) ∧ okS (k d μ) R := by
  match o, h with
  | some (d, μ), h => exact ⟨d, μ, rfl, h⟩
theorem okS_bndA {o : Option (List DV × List MO)} {k : List DV → List MO → Option Out} {R : Co} (h : okS (bnd o k) R) : ∃ d μ, o = some (d, μ) ∧ okS (k d μ) R := by
  match o, h with
  | some (d, μ), h => exact ⟨d, μ, rfl, h⟩
theorem okS_bndG {o : Option (RO × List MO)} {k : RO → List MO → Option Out} {R : Co} (h : okS (bnd o k) R) : ∃ d μ, o = some (d, μ) ∧ okS (k d μ) R := by
  match o, h with
  | some (d, μ), h => exact ⟨d, μ, rfl, h⟩
variable {s : Stmt} {ss sa sb : List Stmt} {gs1 gs2 g1 g2 : DenS}
def sNo : DenS := fun _ _ => none
theorem S1.no : S1 X s sNo := fun _ _ _ h => h.elim
theorem SS.no : SS X ss sNo := fun _ _ _ h => h.elim
def sNil : DenS := fun ρ μ => some (.nx ρ μ)
theorem SS.nil : SS X [] sNil := fun ρ μ R h => Sts.nil h
def sCons (f g : DenS) : DenS := fun ρ μ => match f ρ μ with
  | some (.nx ρ1 μ1) => g ρ1 μ1
  | o => o
theorem SS.cons (h1 : S1 X s g1) (h2 : SS X ss g2) : SS X (s :: ss) (sCons g1 g2) := fun ρ μ R h => by
  unfold sCons at h
  cases e : g1 ρ μ with
  | none => rw [e] at h; exact h.elim
  | some o =>
    rw [e] at h
    refine Sts.cons (h1 ρ μ _ (by rw [e]; show seqR X ss R o; cases o with
      | nx ρ1 μ1 => exact h2 ρ1 μ1 R h
      | rt d μ1 => exact h
      | bk ρ1 μ1 => exact h
      | ct ρ1 μ1 => exact h))
def sExp (f : Den) : DenS := fun ρ μ => bnd (f ρ μ) fun _ μ1 => some (.nx ρ μ1)
theorem S1.expr (sa : SE X e f) (hs : swapsWith e none pos.line X.env = pure false := by rfl) : S1 X (.Expr e pos) (sExp f) := fun ρ μ R h => by
  obtain ⟨d, μ1, e1, h⟩ := okS_bnd h
  exact St.expr (sa.at e1 h) hs
def sRet (f : Den) : DenS := fun ρ μ => bnd (f ρ μ) fun d μ1 => some (.rt d μ1)
theorem S1.ret (sa : SE X e f) : S1 X (.Return (some e) pos) (sRet f) := fun ρ μ R h => by
  obtain ⟨d, μ1, e1, h⟩ := okS_bnd h
  exact St.ret (sa.at e1 h)
theorem S1.retN : S1 X (.Return none pos) (fun _ μ => some (.rt .non μ)) := fun ρ μ R h => St.retN h
theorem S1.pass : S1 X (.Pass pos) sNil := fun ρ μ R h => St.pass h
theorem S1.brk : S1 X (.Break pos) (fun ρ μ => some (.bk ρ μ)) := fun ρ μ R h => St.brk h
theorem S1.cont : S1 X (.Continue pos) (fun ρ μ => some (.ct ρ μ)) := fun ρ μ R h => St.cont h
def sIf (fc : Den) (f g : DenS) : DenS := fun ρ μ => bnd (fc ρ μ) fun t μ1 => match t with
  | .bl true => f ρ μ1
  | .bl false => g ρ μ1
  | _ => none
theorem S1.ifS (sc : ST X c fc) (h1 : SS X sa g1) (h2 : SS X sb g2) : S1 X (.If c sa sb pos) (sIf fc g1 g2) := fun ρ μ R h => by
  obtain ⟨t, μ1, e1, h⟩ := okS_bnd h
  split at h
  · exact St.ifS (sc.at e1 (iteT (h1 ρ μ1 R h)))
  · exact St.ifS (sc.at e1 (iteF (h2 ρ μ1 R h)))
  · exact h.elim
def sSet (i : Nat) (f : Den) : DenS := fun ρ μ => bnd (f ρ μ) fun d μ1 => some (.nx (ρ.set i (some d)) μ1)
theorem S1.set (i : Nat) {x : Str} {pos' : Pos} (hN : X.N.Nodup) (hi : X.N[i]? = some x) (hx : Loc X.env.scope x) (hf : X.fn x = true ∨ X.env.scope.names.lookup x = some .local) (sa : SE X e f) (hs : swapsWith e (some (.Name x pos')) pos.line X.env = pure false := by rfl) :
    S1 X (.Assign [.Name x pos'] e pos) (sSet i f) := fun ρ μ R h => by
  obtain ⟨d, μ1, e1, h⟩ := okS_bnd h
  exact St.set i hN hi hx hf (sa.at e1 h) hs
def sAsg (g : DenG) (f : Den) : DenS := fun ρ μ => bnd (f ρ μ) fun d μ1 => bnd (g d ρ μ1) fun ρ2 μ2 => some (.nx ρ2 μ2)
theorem S1.asg {t : Expr} {g : DenG} (sa : SE X e f) (sg : SG X t g) (hs : swapsWithSole [t] e pos.line X.env = pure false := by rfl) (hw : swappedStores [t] e X.env = pure none := by rfl) (h1 : (assignEach [t] X.env).map (·.2) = [assign t X.env] := by rfl) : S1 X (.Assign [t] e pos) (sAsg g f) := fun ρ μ R h => by
  obtain ⟨d, μ1, e1, h⟩ := okS_bnd h
  obtain ⟨ρ2, μ2, e2, h⟩ := okS_bndG h
  exact St.asg (sa.at e1 (sg d ρ μ1 _ (by rw [e2]; exact h))) hs hw h1
def sPar2 (i j : Nat) (fs : DenA) : DenS := fun ρ μ => bnd (fs ρ μ) fun ds μ1 => match ds with
  | [d1, d2] => some (.nx ((ρ.set i (some d1)).set j (some d2)) μ1)
  | _ => none
theorem S1.par {e1 e2 : Expr} (i j : Nat) {x y : Str} {px py pt : Pos} {kt k2 pt2} (hc : X.calm = true) (hN : X.N.Nodup) (hi : X.N[i]? = some x) (hj : X.N[j]? = some y) (hij : i ≠ j) (hx : X.env.scope.names.lookup x = some .local) (hy : X.env.scope.names.lookup y = some .local)
    (ss : SAr X [e1, e2] fs) (hw : swappedStores [.Tuple [.Name x px, .Name y py] kt pt] (.Tuple [e1, e2] k2 pt2) X.env = pure (some [x, y]) := by rfl)
    (hs : swapsWithSole [.Tuple [.Name x px, .Name y py] kt pt] (.Tuple [e1, e2] k2 pt2) pos.line X.env = pure false := by rfl) :
    S1 X (.Assign [.Tuple [.Name x px, .Name y py] kt pt] (.Tuple [e1, e2] k2 pt2) pos) (sPar2 i j fs) := fun ρ μ R h => by
  obtain ⟨ds, μ1, e1, h⟩ := okS_bndA h
  split at h
  · exact St.par i j hc hN hi hj hij hx hy (ss.at e1 ⟨_, _, rfl, h⟩) hw hs
  · exact h.elim
def sPar3 (i j l : Nat) (fs : DenA) : DenS := fun ρ μ => bnd (fs ρ μ) fun ds μ1 => match ds with
  | [d1, d2, d3] => some (.nx (((ρ.set i (some d1)).set j (some d2)).set l (some d3)) μ1)
  | _ => none
theorem S1.par3 {e1 e2 e3 : Expr} (i j l : Nat) {x y z : Str} {px py pz pt : Pos} {kt k2 pt2} (hc : X.calm = true) (hN : X.N.Nodup) (hi : X.N[i]? = some x) (hj : X.N[j]? = some y) (hl : X.N[l]? = some z) (hij : i ≠ j) (hil : i ≠ l) (hjl : j ≠ l)
    (hx : X.env.scope.names.lookup x = some .local) (hy : X.env.scope.names.lookup y = some .local) (hz : X.env.scope.names.lookup z = some .local) (ss : SAr X [e1, e2, e3] fs)
    (hw : swappedStores [.Tuple [.Name x px, .Name y py, .Name z pz] kt pt] (.Tuple [e1, e2, e3] k2 pt2) X.env = pure (some [x, y, z]) := by rfl)
    (hs : swapsWithSole [.Tuple [.Name x px, .Name y py, .Name z pz] kt pt] (.Tuple [e1, e2, e3] k2 pt2) pos.line X.env = pure false := by rfl) :
    S1 X (.Assign [.Tuple [.Name x px, .Name y py, .Name z pz] kt pt] (.Tuple [e1, e2, e3] k2 pt2) pos) (sPar3 i j l fs) := fun ρ μ R h => by
  obtain ⟨ds, μ1, e1, h⟩ := okS_bndA h
  split at h
  · exact St.par3 i j l hc hN hi hj hl hij hil hjl hx hy hz (ss.at e1 ⟨_, _, _, rfl, h⟩) hw hs
  · exact h.elim
/-- y = [e for x in xs] -/
theorem S1.setLc {elt iter : Expr} {scope : Scope} {x y : Str} {px py spos : Pos} (i j : Nat) (hc : X.calm = true) (hN : X.N.Nodup) (hy : X.N[i]? = some y) (hyl : X.env.scope.names.lookup y = some .local)
    (hsw : swapsWith (.ListComp elt [⟨.Name x px, iter, [], 0⟩] scope pos) (some (.Name y py)) spos.line X.env = pure true) (hj : X.N[j]? = some x) (ok : BlkOk X.N X.env.scope scope [(x, j)])
    (hl : ∀ (s : Shared) (H : Hp) (C : Addr) (cl : List (Str × Addr)) (fp : List Addr), Loc (blkX X s H scope C cl fp).env.scope x ∧ ((blkX X s H scope C cl fp).fn x = true ∨ (blkX X s H scope C cl fp).env.scope.names.lookup x = some .local))
    (si : SI X (.Name x px) iter fi) (se : ∀ s H C cl fp, SE (blkX X s H scope C cl fp) elt f) (hs : ∀ x, foldedSetIterable iter X.env x = pure x := by intro _; rfl) :
    S1 X (.Assign [.Name y py] (.ListComp elt [⟨.Name x px, iter, [], 0⟩] scope pos) spos) (sSet i (dLc fi (bd1 j) dT f)) := fun ρ μ R h => by
  obtain ⟨d, μE, e0, h⟩ := okS_bnd h
  have k : okE (dLc fi (bd1 j) dT f ρ μ) (fun d μ1 => okS (some (.nx (ρ.set i (some d)) μ1)) R) := by rw [e0]; exact h
  obtain ⟨ds, μ1, e1, k⟩ := okE_bndA k
  obtain ⟨hz, k⟩ := okE_if k
  obtain ⟨aF, μF, e2, k⟩ := okE_bndA k
  refine PSw (ps_setLc (own := [(x, j)]) (g := gName j) hc hN hy hyl hsw pi_a ok (fun s H C cl fp => pg_name hN hj (hl s H C cl fp).1 (hl s H C cl fp).2) (fun s H C cl fp => pts_aB s H C cl fp) (fun s H C cl fp => pe_aB s H C cl fp) hs)
    fun D σ H ⟨α, E, q⟩ => lc_S0 (ρ := ρ) (μ := μ) (R := fun d μ1 => okE (Eg.cutd μ d μ1) fun d μ1 => okS (some (.nx (ρ.set i (some d)) μ1)) R) ?_ σ H _ ⟨α, E, fun v d α1 μ1 H1 r E1 X1 hv => ?_⟩
  · refine si ρ μ _ ?_
    rw [e1]
    refine ⟨by rw [sl_eq]; exact hz, fun j' acc μ' => lcLoop (bd1 j) dT f ρ μ1.length (ds.drop j') acc μ' = some (aF, μF), e2, ?_, ?_⟩
    · intro j' d acc μ2 hd hl2 hI s H C cl fp
      rw [drop_cons hd] at hI
      obtain ⟨ρ', t, μ3, b1, c1, hh⟩ := lc_turn hI
      cases b1
      cases c1
      rcases hh with ⟨_, y, μ5, μ4, he, h5, h4, hI'⟩ | ⟨z, _⟩
      · exact (se s H C cl fp).at he ⟨μ4, h5, h4, hI'⟩
      · cases z
    · intro acc μ2 hl2 hI
      rw [List.drop_length] at hI
      cases hI
      exact k
  · obtain ⟨α2, μ2, r2, l2, k2, hv2⟩ := cutd_ok r E.live E1.live X1 hv
    exact q.1 _ _ _ _ _ r2 ((E.ext k2 l2).set i hv2) k2
theorem S1.setLcIf {elt iter ce : Expr} {scope : Scope} {x y : Str} {px py spos : Pos} (i j : Nat) (hc : X.calm = true) (hN : X.N.Nodup) (hy : X.N[i]? = some y) (hyl : X.env.scope.names.lookup y = some .local)
    (hsw : swapsWith (.ListComp elt [⟨.Name x px, iter, [ce], 0⟩] scope pos) (some (.Name y py)) spos.line X.env = pure true) (hj : X.N[j]? = some x) (ok : BlkOk X.N X.env.scope scope [(x, j)])
    (hl : ∀ (s : Shared) (H : Hp) (C : Addr) (cl : List (Str × Addr)) (fp : List Addr), Loc (blkX X s H scope C cl fp).env.scope x ∧ ((blkX X s H scope C cl fp).fn x = true ∨ (blkX X s H scope C cl fp).env.scope.names.lookup x = some .local))
    (si : SI X (.Name x px) iter fi) (sc : ∀ s H C cl fp, ST (blkX X s H scope C cl fp) ce fc) (se : ∀ s H C cl fp, SE (blkX X s H scope C cl fp) elt f) (hs : ∀ x, foldedSetIterable iter X.env x = pure x := by intro _; rfl) :
    S1 X (.Assign [.Name y py] (.ListComp elt [⟨.Name x px, iter, [ce], 0⟩] scope pos) spos) (sSet i (dLc fi (bd1 j) fc f)) := fun ρ μ R h => by
  obtain ⟨d, μE, e0, h⟩ := okS_bnd h
  have k : okE (dLc fi (bd1 j) fc f ρ μ) (fun d μ1 => okS (some (.nx (ρ.set i (some d)) μ1)) R) := by rw [e0]; exact h
  obtain ⟨ds, μ1, e1, k⟩ := okE_bndA k
  obtain ⟨hz, k⟩ := okE_if k
  obtain ⟨aF, μF, e2, k⟩ := okE_bndA k
  refine PSw (ps_setLc (own := [(x, j)]) (g := gName j) hc hN hy hyl hsw pi_a ok (fun s H C cl fp => pg_name hN hj (hl s H C cl fp).1 (hl s H C cl fp).2) (fun s H C cl fp => pts_aB s H C cl fp) (fun s H C cl fp => pe_aB s H C cl fp) hs)
    fun D σ H ⟨α, E, q⟩ => lc_SI (ρ := ρ) (μ := μ) (R := fun d μ1 => okE (Eg.cutd μ d μ1) fun d μ1 => okS (some (.nx (ρ.set i (some d)) μ1)) R) ?_ σ H _ ⟨α, E, fun v d α1 μ1 H1 r E1 X1 hv => ?_⟩
  · refine si ρ μ _ ?_
    rw [e1]
    refine ⟨by rw [sl_eq]; exact hz, fun j' acc μ' => lcLoop (bd1 j) fc f ρ μ1.length (ds.drop j') acc μ' = some (aF, μF), e2, ?_, ?_⟩
    · intro j' d acc μ2 hd hl2 hI s H C cl fp
      rw [drop_cons hd] at hI
      obtain ⟨ρ', t, μ3, b1, c1, hh⟩ := lc_turn hI
      cases b1
      refine (sc s H C cl fp).at c1 ?_
      rcases hh with ⟨rfl, y, μ5, μ4, he, h5, h4, hI'⟩ | ⟨rfl, μ4, h3, h4, hI'⟩
      · exact iteT fun s H C cl fp => (se s H C cl fp).at he ⟨μ4, h5, h4, hI'⟩
      · exact iteF ⟨μ4, h3, h4, hI'⟩
    · intro acc μ2 hl2 hI
      rw [List.drop_length] at hI
      cases hI
      exact k
  · obtain ⟨α2, μ2, r2, l2, k2, hv2⟩ := cutd_ok r E.live E1.live X1 hv
    exact q.1 _ _ _ _ _ r2 ((E.ext k2 l2).set i hv2) k2
/-! ### loops -/
def forL (g : DenG) (body : DenS) : List DV → RO → List MO → Option Out
  | [], ρ, μ => some (.nx ρ μ)
  | d :: ds, ρ, μ => match g d ρ μ with
    | none => none
    | some (ρ1, μ1) => match body ρ1 μ1 with
      | some (.nx ρ2 μ2) => forL g body ds ρ2 μ2
      | some (.ct ρ2 μ2) => forL g body ds ρ2 μ2
      | some (.bk ρ2 μ2) => some (.nx ρ2 μ2)
      | some (.rt d μ2) => some (.rt d μ2)
      | none => none
def sFor (fi : DenA) (g : DenG) (body : DenS) : DenS := fun ρ μ => bnd (fi ρ μ) fun ds μ1 => forL g body ds ρ μ1
theorem S1.for_ {tg : Expr} {body : List Stmt} {g : DenG} {fb : DenS} (hp : PassesOwn (model X.prog X.w) X.A X.env X.xe) (hc : X.calm = true) (si : SI X tg e fi) (sg : SG X tg g) (sb : SS X body fb) (hs : ∀ x, foldedSetIterable e X.env x = pure x := by intro _; rfl) :
    S1 X (.For tg e body [] pos) (sFor fi g fb) := fun ρ μ R h => by
  obtain ⟨ds, μ1, e1, h⟩ := okS_bndA h
  refine St.for_ hp hc (si ρ μ _ ?_) hs
  rw [e1]
  refine ⟨fun i ρ' μ' => okS (forL g fb (ds.drop i) ρ' μ') R, h, ?_, ?_⟩
  · intro i d ρ' μ' hd hI
    rw [drop_cons hd] at hI
    unfold forL at hI
    cases hg : g d ρ' μ' with
    | none => rw [hg] at hI; exact hI.elim
    | some q =>
      obtain ⟨ρ1, μ1'⟩ := q
      rw [hg] at hI
      dsimp only at hI
      refine sg d ρ' μ' _ ?_
      rw [hg]
      refine sb ρ1 μ1' _ ?_
      cases hb : fb ρ1 μ1' with
      | none => rw [hb] at hI; exact hI.elim
      | some o =>
        rw [hb] at hI
        cases o with
        | nx ρ2 μ2 => exact hI
        | ct ρ2 μ2 => exact hI
        | bk ρ2 μ2 => exact hI
        | rt d μ2 => exact hI
  · intro ρ' μ' hI
    rw [List.drop_length] at hI
    exact hI
def whL (fc : Den) (body : DenS) : Nat → RO → List MO → Option Out
  | 0, _, _ => none
  | n + 1, ρ, μ => match fc ρ μ with
    | some (.bl true, μ1) => match body ρ μ1 with
      | some (.nx ρ2 μ2) => whL fc body n ρ2 μ2
      | some (.ct ρ2 μ2) => whL fc body n ρ2 μ2
      | some (.bk ρ2 μ2) => some (.nx ρ2 μ2)
      | some (.rt d μ2) => some (.rt d μ2)
      | none => none
    | some (.bl false, μ1) => some (.nx ρ μ1)
    | _ => none
theorem S1.while_ {body : List Stmt} {fb : DenS} (n : Nat) (hp : PassesOwn (model X.prog X.w) X.A X.env X.xe) (sc : ST X c fc) (sb : SS X body fb) : S1 X (.While c body [] pos) (whL fc fb n) := fun ρ μ R h => by
  refine St.while_ hp (fun n ρ' μ' => okS (whL fc fb n ρ' μ') R) ⟨n, h⟩ ?_
  intro n ρ' μ' hI
  cases n with
  | zero => exact hI.elim
  | succ n =>
    unfold whL at hI
    cases hc : fc ρ' μ' with
    | none => rw [hc] at hI; exact hI.elim
    | some q =>
      obtain ⟨t, μ1⟩ := q
      rw [hc] at hI
      cases t with
      | bl t =>
        refine sc.at hc ?_
        cases t with
        | true =>
          refine iteT (sb ρ' μ1 _ ?_)
          dsimp only at hI
          cases hb : fb ρ' μ1 with
          | none => rw [hb] at hI; exact hI.elim
          | some o =>
            rw [hb] at hI
            cases o with
            | nx ρ2 μ2 => exact ⟨n, Nat.lt_succ_self n, hI⟩
            | ct ρ2 μ2 => exact ⟨n, Nat.lt_succ_self n, hI⟩
            | bk ρ2 μ2 => exact hI
            | rt d μ2 => exact hI
        | false => exact iteF hI
      | _ => exact hI.elim
def sAug (o : Int → Int → Int) (i : Nat) (f : Den) : DenS := fun ρ μ => match ρ[i]? with
  | some (some (.int n)) => bnd (f ρ μ) fun d μ1 => match d with
    | .int j => some (.nx (ρ.set i (some (.int (o n j)))) μ1)
    | _ => none
  | _ => none
theorem S1.augAdd (i : Nat) {x : Str} {pos' : Pos} (hN : X.N.Nodup) (hi : X.N[i]? = some x) (hx : Loc X.env.scope x) (hf : X.fn x = true ∨ X.env.scope.names.lookup x = some .local) (sa : SE X e f) : S1 X (.AugAssign (.Name x pos') .Add e pos) (sAug (· + ·) i f) := fun ρ μ R h => by
  unfold sAug at h
  split at h
  · rename_i n hn
    obtain ⟨d, μ1, e1, h⟩ := okS_bnd h
    split at h
    · exact St.augAdd i n hN hi hx hn hf (sa.at e1 ⟨_, rfl, h⟩)
    · exact h.elim
  · exact h.elim
theorem S1.augSub (i : Nat) {x : Str} {pos' : Pos} (hN : X.N.Nodup) (hi : X.N[i]? = some x) (hx : Loc X.env.scope x) (hf : X.fn x = true ∨ X.env.scope.names.lookup x = some .local) (sa : SE X e f) : S1 X (.AugAssign (.Name x pos') .Sub e pos) (sAug (· - ·) i f) := fun ρ μ R h => by
  unfold sAug at h
  split at h
  · rename_i n hn
    obtain ⟨d, μ1, e1, h⟩ := okS_bnd h
    split at h
    · exact St.augSub i n hN hi hx hn hf (sa.at e1 ⟨_, rfl, h⟩)
    · exact h.elim
  · exact h.elim
end
/-! ### defs -/
noncomputable def mkFn (n : Nat) (N : List Str) (body : DenS) : FD := fun ds μ => if ds.length = n then match body (startD N ds) μ with
    | some (.rt d μ') => cutd μ d μ'
    | some (.nx _ μ') => cutd μ .non μ'
    | _ => none
  else none
section
variable {P : Program} {w : World} {K : PySem.W.Frag} {mg : Str → Option Value} {base : Heap}
theorem mkFn_fin {μ : List MO} {R : Cn} {o : Out} (h : okE (match some o with
    | some (.rt d μ') => cutd μ d μ'
    | some (.nx _ μ') => cutd μ .non μ'
    | _ => none) R) (clo : μ.all (MO.bel μ.length) = true) : fin μ.length R o := by
  have key : ∀ (d : DV) (μ' : List MO), okE (cutd μ d μ') R → R d μ' ∨ (DV.bel μ.length d = true ∧ (μ'.take μ.length).all (MO.bel μ.length) = true ∧ R d (μ'.take μ.length)) := by
    intro d μ' h
    unfold cutd at h
    split at h
    · rename_i c
      exact .inr ⟨c.1, c.2.clo clo, h⟩
    · exact .inl h
  cases o with
  | rt d μ' => exact key d μ' h
  | nx ρ μ' =>
    rcases key .non μ' h with h | ⟨_, h1, h2⟩
    · exact .inl h
    · exact .inr ⟨h1, h2⟩
  | bk _ _ => exact h.elim
  | ct _ _ => exact h.elim
/-- from a start that stands for something real -/
theorem Sts.clo {X : Cx} {ss : List Stmt} {ρ : RO} {μ : List MO} {R : Co} (h : μ.all (MO.bel μ.length) = true → Sts X ss ρ μ R) : Sts X ss ρ μ R := by
  by_cases c : μ.all (MO.bel μ.length) = true
  · exact h c
  · exact ⟨fun pins s σ H D I ⟨α, E, _⟩ => absurd E.live.clo c⟩
/-- THE RULE for a def -/
theorem Fn.den {x : Str} {params : Arguments} {body : List Stmt} {scope : Scope} {kws : List (Str × V)} {f : Addr} {fd : FuncData} {N ps : List Str} {k : Nat} {n : Nat} {g : DenS}
    (F : FunD K x x params body scope [] kws f fd) (S : FnScope N ps scope) (hm : mg x = some (.ref f)) (hn : ps.length = n)
    (hbd : ∀ (kV doc pm : Value) (an : Option Addr) (cdv ct : Value) (us : List Value), us.length = ps.length → bindArgs (PySem.W.fnOf x x params body scope .none kV doc pm an cdv ct) ⟨us, []⟩ = pure (ps.zip us))
    (hb : ∀ (cd : Value) (A : Around) (outer : List PySem.Env) (s : Shared) (H : Hp), (bx P w K mg base N x scope f cd A outer s H).A.guards = some [] → Room k (bx P w K mg base N x scope f cd A outer s H).A → (bx P w K mg base N x scope f cd A outer s H).N.Nodup →
      SS (bx P w K mg base N x scope f cd A outer s H) body g) : Fn P w K mg base x (k + 1) (CtrOf (mkFn n N g)) := by
  refine Fn.mk F S hm hbd ?_ ?_
  · intro ds μ R h
    obtain ⟨c, _⟩ := okE_if h
    rw [c, hn]
  · intro cd A outer s H hg hr hnd ds μ R h
    obtain ⟨_, h⟩ := okE_if h
    refine Sts.clo fun clo => ?_
    refine hb cd A outer s H hg hr hnd (startD N ds) μ _ ?_
    cases e : g (startD N ds) μ with
    | none => rw [e] at h; exact h.elim
    | some o =>
      rw [e] at h
      exact mkFn_fin h clo
theorem FnG.den {x : Str} {params : Arguments} {body : List Stmt} {scope : Scope} {kws : List (Str × V)} {f : Addr} {fd : FuncData} {N ps : List Str} {k : Nat} {n : Nat} {g : DenS}
    (F : FunD K x x params body scope [] kws f fd) (S : FnScope N ps scope) (hn : ps.length = n)
    (hb : ∀ (cd : Value) (A : Around) (outer : List PySem.Env) (s : Shared) (H : Hp), (bx P w K mg base N x scope f cd A outer s H).A.guards = some [] → Room k (bx P w K mg base N x scope f cd A outer s H).A → (bx P w K mg base N x scope f cd A outer s H).N.Nodup →
      SS (bx P w K mg base N x scope f cd A outer s H) body g) : FnG P w K mg base (k + 1) f fd ps (SpD K (CtrOf (mkFn n N g))) := by
  refine FnG.mk2 F S ?_ ?_
  · intro ds μ R h
    obtain ⟨c, _⟩ := okE_if h
    rw [c, hn]
  · intro cd A outer s H hg hr hnd ds μ R h
    obtain ⟨_, h⟩ := okE_if h
    refine Sts.clo fun clo => ?_
    refine hb cd A outer s H hg hr hnd (startD N ds) μ _ ?_
    cases e : g (startD N ds) μ with
    | none => rw [e] at h; exact h.elim
    | some o =>
      rw [e] at h
      exact mkFn_fin h clo
end
end Eg
namespace Eg
/-- how often a while may turn, how deep a def may call itself -/
def Wn : Nat := 1099511627776
def recN : Nat := 8
end Eg

namespace Eg
open PySem PySem.Spec PyProof.Rows L2
section
variable {X : Cx} {a b c e o : Expr} {es : List Expr} {fa fb fc f : Den} {fs fi : DenA} {pos p : Pos} {ρ : RO} {μ : List MO}
/-! ### x in xs -/
def oInN (neg : Bool) (x y : DV) (μ : List MO) : RE := match itemsD μ y with
  | some ds => match DV.flat x, flatL ds with
    | some u, some us => some (.bl (if neg then !inV u us else inV u us), μ)
    | _, _ => none
  | none => none
abbrev oIn := oInN false
abbrev oNin := oInN true
theorem sIn_of {neg : Bool} {x y : DV} {μ : List MO} {R : Cn} (h : okE (oInN neg x y μ) R) : sIn neg x y μ R := by
  unfold oInN at h
  split at h
  · rename_i ds e1
    split at h
    · rename_i u us e2 e3
      exact ⟨ds, u, us, e1, e2, e3, h⟩
    · exact h.elim
  · exact h.elim
theorem SE.inn (hu : X.A.units + 64 < cLine) (sa : SE X a fa) (sb : SE X b fb) (hm : behindInMarks .In b = false := by rfl) : SE X (.Compare a [.In] [b] pos) (dOp2 oIn fa fb) := SE.op2 sa sb fun x y μ2 R h => ⟨_, sIn_of h, fun ρ μ k => Ev.inL k hm⟩
theorem SE.nin (hu : X.A.units + 64 < cLine) (sa : SE X a fa) (sb : SE X b fb) (hm : behindInMarks .NotIn b = false := by rfl) : SE X (.Compare a [.NotIn] [b] pos) (dOp2 oNin fa fb) := SE.op2 sa sb fun x y μ2 R h => ⟨_, sIn_of h, fun ρ μ k => Ev.notInL k hm⟩
theorem ST.inn (hu : X.A.units + 64 < cLine) (sa : SE X a fa) (sb : SE X b fb) (hm : behindInMarks .In b = false := by rfl) : ST X (.Compare a [.In] [b] pos) (dOp2 oIn fa fb) := ST.op2 sa sb fun x y μ2 R h => ⟨_, sIn_of h, fun R' e ρ μ k => by subst e; exact EvT.inL k hm⟩
theorem ST.nin (hu : X.A.units + 64 < cLine) (sa : SE X a fa) (sb : SE X b fb) (hm : behindInMarks .NotIn b = false := by rfl) : ST X (.Compare a [.NotIn] [b] pos) (dOp2 oNin fa fb) := ST.op2 sa sb fun x y μ2 R h => ⟨_, sIn_of h, fun R' e ρ μ k => by subst e; exact EvT.notInL k hm⟩
/-! ### xs.append(e) -/
def dApp (fo fa : Den) : Den := fun ρ μ => bnd (fo ρ μ) fun o μ1 => match o with
  | .mu k => match μ1[k]? with
    | some (.lst _) => bnd (fa ρ μ1) fun d μ2 => match μ2[k]? with
      | some (.lst ys) => if ys.length < 16777216 then some (.non, μ2.set k (.lst (ys ++ [d]))) else none
      | _ => none
    | _ => none
  | _ => none
theorem SE.append {fo : Den} {apos cpos : Pos} (so : SE X o fo) (sa : SE X e fa)
    (hbase : attributeBase o "append" X.env (eval o X.env) = eval o X.env := by rfl)
    (hfew : ((backTo cpos (starEach [e] X.env)).all (fun x => !x.1) && (backToKw cpos (keywordEach [] X.env)).all (fun x => x.1.isSome)
      && decide ([e].length + ([] : List Keyword).length + (if ([] : List Keyword).isEmpty then 0 else 1) < 30)) = true := by rfl)
    (hline : (apos.endLine == cpos.line) = true := by rfl) (hs : starEach [e] X.env = (false, eval e X.env) :: starEach [] X.env := by rfl) :
    SE X (.Call (.Attribute o "append" apos) [e] [] cpos) (dApp fo fa) := fun ρ μ R k => by
  obtain ⟨d, μ1, e1, k⟩ := okE_bnd k
  cases d with
  | mu n =>
    dsimp only at k
    split at k
    · rename_i xs hx
      obtain ⟨d, μ2, e2, k⟩ := okE_bnd k
      split at k
      · rename_i ys hy
        obtain ⟨c, k⟩ := okE_if k
        exact Ev.append (so.at e1 ⟨n, xs, rfl, hx, EvA.cons (sa.at e2 (EvA.nil ⟨d, ys, rfl, hy, by rw [sl_eq]; exact c, k⟩)) hs⟩) hbase hfew hline hs
      · exact k.elim
    · exact k.elim
  | _ => exact k.elim
/-! ### enumerate(xs) -/
def iEnm (fs : DenA) : DenA := fun ρ μ => bnd (fs ρ μ) fun ds μ1 => match ds with
  | [.lst xs] => some (cntD 0 xs, μ1)
  | [.tup xs] => some (cntD 0 xs, μ1)
  | _ => none
end
end Eg

namespace Eg
open PySem PySem.Spec PyProof.Rows L2
/-! The functions by cases of truths, for reckoning. -/
section
variable {fa fb fc f : Den} {fs fi : DenA} {g g1 g2 : DenS} {ρ : RO} {μ : List MO}
def ifB {α : Type} (d : DV) (x y : Option α) : Option α := match d with
  | .bl true => x
  | .bl false => y
  | _ => none
@[simp] theorem ifB_bl {α : Type} (b : Bool) (x y : Option α) : ifB (.bl b) x y = if b = true then x else y := by cases b <;> rfl
@[simp] theorem bnd_ite {α β γ : Type} (c : Prop) [Decidable c] (a b : Option (α × β)) (k : α → β → Option γ) : bnd (if c then a else b) k = if c then bnd a k else bnd b k := by split <;> rfl
def isB {α : Type} (d : DV) (k : Bool → Option α) : Option α := match d with
  | .bl b => k b
  | _ => none
@[simp] theorem isB_bl {α : Type} (b : Bool) (k : Bool → Option α) : isB (.bl b) k = k b := rfl
def isI {α : Type} (d : DV) (k : Int → Option α) : Option α := match d with
  | .int b => k b
  | _ => none
@[simp] theorem isI_int {α : Type} (b : Int) (k : Int → Option α) : isI (.int b) k = k b := rfl
theorem eAnd : dAnd fa fb ρ μ = bnd (fa ρ μ) fun t μ1 => ifB t (fb ρ μ1) (some (.bl false, μ1)) := by
  rfl
theorem eOr : dOr fa fb ρ μ = bnd (fa ρ μ) fun t μ1 => ifB t (some (.bl true, μ1)) (fb ρ μ1) := by
  unfold dOr
  cases fa ρ μ with
  | none => rfl
  | some q =>
    obtain ⟨t, μ1⟩ := q
    cases t with
    | bl b => cases b <;> rfl
    | _ => rfl
theorem eNot : dNot fa ρ μ = bnd (fa ρ μ) fun t μ1 => isB t fun b => some (.bl (!b), μ1) := by
  rfl
theorem eNeg : dNeg fa ρ μ = bnd (fa ρ μ) fun t μ1 => isI t fun b => some (.int (-b), μ1) := by
  rfl
theorem eIf : dIf fc fa fb ρ μ = bnd (fc ρ μ) fun t μ1 => ifB t (fa ρ μ1) (fb ρ μ1) := by
  rfl
theorem esIf : sIf fc g1 g2 ρ μ = bnd (fc ρ μ) fun t μ1 => ifB t (g1 ρ μ1) (g2 ρ μ1) := by
  rfl
theorem eChain {o o' : DV → DV → List MO → RE} : dChain o o' fa fb fc ρ μ = bnd (fa ρ μ) fun x μ1 => bnd (fb ρ μ1) fun y μ2 => bnd (o x y μ2) fun t μ3 => ifB t (bnd (fc ρ μ3) fun z μ4 => o' y z μ4) (some (.bl false, μ3)) := by
  rfl
def sqO (o : Option Out) (k : DenS) : Option Out := match o with
  | some (.nx ρ1 μ1) => k ρ1 μ1
  | o => o
@[simp] theorem sqO_nx (ρ : RO) (μ : List MO) (k : DenS) : sqO (some (.nx ρ μ)) k = k ρ μ := rfl
@[simp] theorem sqO_rt (d : DV) (μ : List MO) (k : DenS) : sqO (some (.rt d μ)) k = some (.rt d μ) := rfl
@[simp] theorem sqO_bk (ρ : RO) (μ : List MO) (k : DenS) : sqO (some (.bk ρ μ)) k = some (.bk ρ μ) := rfl
@[simp] theorem sqO_ct (ρ : RO) (μ : List MO) (k : DenS) : sqO (some (.ct ρ μ)) k = some (.ct ρ μ) := rfl
@[simp] theorem sqO_no (k : DenS) : sqO none k = none := rfl
@[simp] theorem sqO_ite (c : Prop) [Decidable c] (a b : Option Out) (k : DenS) : sqO (if c then a else b) k = if c then sqO a k else sqO b k := by split <;> rfl
theorem esCons : sCons g1 g2 ρ μ = sqO (g1 ρ μ) g2 := by
  unfold sCons sqO
  cases g1 ρ μ with
  | none => rfl
  | some o => cases o <;> rfl
noncomputable def endO (μ : List MO) (o : Option Out) : RE := match o with
  | some (.rt d μ') => cutd μ d μ'
  | some (.nx _ μ') => cutd μ .non μ'
  | _ => none
@[simp] theorem endO_rt (μ : List MO) (d : DV) (μ' : List MO) : endO μ (some (.rt d μ')) = cutd μ d μ' := rfl
@[simp] theorem endO_nx (μ : List MO) (ρ' : RO) (μ' : List MO) : endO μ (some (.nx ρ' μ')) = cutd μ .non μ' := rfl
@[simp] theorem endO_no (μ : List MO) : endO μ none = none := rfl
@[simp] theorem endO_ite (μ : List MO) (c : Prop) [Decidable c] (a b : Option Out) : endO μ (if c then a else b) = if c then endO μ a else endO μ b := by split <;> rfl
theorem eFn {n : Nat} {N : List Str} {body : DenS} {ds : List DV} : mkFn n N body ds μ = if ds.length = n then endO μ (body (startD N ds) μ) else none := by
  rfl
@[simp] theorem cutd_same {d : DV} : cutd μ d (μ ++ []) = some (d, μ) := by simp
/-- what was made beside is forgotten -/
noncomputable def dCut (f : Den) : Den := fun ρ μ => bnd (f ρ μ) fun d μ1 => cutd μ d μ1
theorem SE.cut {X : Cx} {e : Expr} (s : SE X e f) : SE X e (dCut f) := fun ρ μ R k => by
  obtain ⟨d, μ1, e1, k⟩ := okE_bnd k
  exact Ev.cutd (s.at e1 k)
theorem cutd_len {μ μ' : List MO} {d : DV} (h : μ'.length = μ.length) : cutd μ d μ' = some (d, μ') := by
  unfold cutd
  rw [← h, List.take_length]
  split <;> rfl
@[simp] theorem cutd_set {μ : List MO} {k : Nat} {a b : MO} {d : DV} : cutd (μ.set k a) d (μ.set k b) = some (d, μ.set k b) := cutd_len (by simp)
@[simp] theorem cutd_set0 {μ : List MO} {k : Nat} {b : MO} {d : DV} : cutd μ d (μ.set k b) = some (d, μ.set k b) := cutd_len (by simp)
theorem cutd_cut {μ μ' : List MO} {d : DV} (h1 : DV.bel μ.length d = true) (h2 : μ'.take μ.length = μ) : cutd μ d μ' = some (d, μ) := by
  unfold cutd
  have kp : Kept μ μ' := fun j hj => .inl (by
    rw [← h2, List.getElem?_take, if_pos]
    have := congrArg List.length h2
    rw [List.length_take] at this
    omega)
  rw [if_pos ⟨h1, kp⟩, h2]
/-- an object was changed, and others were made beside -/
theorem cutd_beside {μ0 g : List MO} {k : Nat} {X Y : MO} {d : DV} (h1 : DV.bel μ0.length d = true) (h2 : MO.bel μ0.length X = true) : cutd (μ0.set k Y) d (μ0.set k X ++ g) = some (d, μ0.set k X) := by
  unfold cutd
  have e : (μ0.set k Y).length = (μ0.set k X).length := by simp
  have e0 : (μ0.set k Y).length = μ0.length := by simp
  rw [if_pos, e, List.take_left]
  refine ⟨by rw [e0]; exact h1, fun j hj => ?_⟩
  rw [e] at hj
  rw [List.getElem?_append_left hj]
  by_cases c : k = j
  · subst c
    rw [e0]
    exact .inr ⟨X, List.getElem?_set_self (by simpa using hj), h2⟩
  · exact .inl (by rw [List.getElem?_set_ne c, List.getElem?_set_ne c])
/-! ### numbers that are small enough -/
theorem log_lt {i : Int} {n : Nat} (h : -(2 ^ n) < i) (h' : i < 2 ^ n) : i.natAbs.log2 ≤ n := by
  have e : i.natAbs < 2 ^ n := by
    have : ((2 ^ n : Nat) : Int) = 2 ^ n := by simp
    omega
  by_cases z : i.natAbs = 0
  · rw [z]; simp
  · have := (Nat.log2_lt z).mpr e
    omega
theorem oMul_ok {i j : Int} (h1 : -1267650600228229401496703205376 < i) (h2 : i < 1267650600228229401496703205376) (h3 : -1267650600228229401496703205376 < j) (h4 : j < 1267650600228229401496703205376) : oMul (.int i) (.int j) μ = some (.int (i * j), μ) := by
  have a := log_lt (n := 100) (i := i) (by omega) (by omega)
  have b := log_lt (n := 100) (i := j) (by omega) (by omega)
  unfold oMul
  dsimp only
  rw [if_pos (by omega)]
theorem oMul_ok2 {i j : Int} (h1 : -(2 ^ 400) < i) (h2 : i < 2 ^ 400) (h3 : -(2 ^ 400) < j) (h4 : j < 2 ^ 400) : oMul (.int i) (.int j) μ = some (.int (i * j), μ) := by
  have a := log_lt h1 h2
  have b := log_lt h3 h4
  unfold oMul
  dsimp only
  rw [if_pos (by omega)]
theorem oDiv_ok {i j : Int} (h1 : 0 < j) (h2 : j < 1267650600228229401496703205376) : oDiv (.int i) (.int j) μ = some (.int (i / j), μ) := by
  have b := log_lt (n := 100) (i := j) (by omega) (by omega)
  unfold oDiv
  dsimp only
  rw [if_pos ⟨h1, by omega⟩]
theorem oMod_ok {i j : Int} (h1 : 0 < j) : oMod (.int i) (.int j) μ = some (.int (i % j), μ) := by
  unfold oMod
  dsimp only
  rw [if_pos (by omega), Int.fmod_eq_emod_of_nonneg _ (by omega)]
theorem oPow_ok {i j : Int} (h0 : 0 ≤ j) (h1 : j ≤ 1000000) (h2 : -18446744073709551616 < i) (h3 : i < 18446744073709551616) : oPow (.int i) (.int j) μ = some (.int (i ^ j.toNat), μ) := by
  unfold oPow
  dsimp only
  rw [if_pos ⟨h0, h1, by omega⟩]
@[simp] theorem oAdd_i (i j : Int) : oAdd (.int i) (.int j) μ = some (.int (i + j), μ) := rfl
@[simp] theorem oAdd_s (i j : Str) : oAdd (.str i) (.str j) μ = if i.length + j.length ≤ sizeLine then some (.str (i ++ j), μ) else none := rfl
@[simp] theorem oAdd_t (i j : List DV) : oAdd (.tup i) (.tup j) μ = if i.length + j.length ≤ sizeLine then some (.tup (i ++ j), μ) else none := rfl
@[simp] theorem oAdd_l (i j : List DV) : oAdd (.lst i) (.lst j) μ = if i.length + j.length ≤ sizeLine then some (.lst (i ++ j), μ) else none := rfl
theorem inV1 (x : V) : inV x [] = false := rfl
theorem inV2 (x y : V) (r : List V) : inV x (y :: r) = (eqV y x || inV x r) := rfl
end
end Eg

namespace Eg
open PySem PySem.Spec PyProof.Rows L2
section
variable {fa fb fc f : Den} {fs fi : DenA} {g : DenG} {body : DenS} {ρ : RO} {μ : List MO}
/-! loops, for reckoning -/
def lpO (o : Option Out) (k : DenS) : Option Out := match o with
  | some (.nx ρ2 μ2) => k ρ2 μ2
  | some (.ct ρ2 μ2) => k ρ2 μ2
  | some (.bk ρ2 μ2) => some (.nx ρ2 μ2)
  | some (.rt d μ2) => some (.rt d μ2)
  | none => none
@[simp] theorem lpO_nx (ρ : RO) (μ : List MO) (k : DenS) : lpO (some (.nx ρ μ)) k = k ρ μ := rfl
@[simp] theorem lpO_ct (ρ : RO) (μ : List MO) (k : DenS) : lpO (some (.ct ρ μ)) k = k ρ μ := rfl
@[simp] theorem lpO_bk (ρ : RO) (μ : List MO) (k : DenS) : lpO (some (.bk ρ μ)) k = some (.nx ρ μ) := rfl
@[simp] theorem lpO_rt (d : DV) (μ : List MO) (k : DenS) : lpO (some (.rt d μ)) k = some (.rt d μ) := rfl
@[simp] theorem lpO_no (k : DenS) : lpO none k = none := rfl
@[simp] theorem lpO_ite (c : Prop) [Decidable c] (a b : Option Out) (k : DenS) : lpO (if c then a else b) k = if c then lpO a k else lpO b k := by split <;> rfl
theorem forL_nil : forL g body [] ρ μ = some (.nx ρ μ) := rfl
theorem forL_cons (d : DV) (ds : List DV) : forL g body (d :: ds) ρ μ = bnd (g d ρ μ) fun ρ1 μ1 => lpO (body ρ1 μ1) (forL g body ds) := by
  conv => lhs; unfold forL
  cases g d ρ μ with
  | none => rfl
  | some q =>
    obtain ⟨ρ1, μ1⟩ := q
    simp only [bnd_some]
    unfold lpO
    rfl
theorem whL_succ (n : Nat) : whL fc body (n + 1) ρ μ = bnd (fc ρ μ) fun t μ1 => ifB t (lpO (body ρ μ1) (whL fc body n)) (some (.nx ρ μ1)) := by
  conv => lhs; unfold whL
  cases fc ρ μ with
  | none => rfl
  | some q =>
    obtain ⟨t, μ1⟩ := q
    cases t with
    | bl b =>
      cases b
      · rfl
      · show (match body ρ μ1 with
          | some (.nx ρ2 μ2) => whL fc body n ρ2 μ2
          | some (.ct ρ2 μ2) => whL fc body n ρ2 μ2
          | some (.bk ρ2 μ2) => some (.nx ρ2 μ2)
          | some (.rt d μ2) => some (.rt d μ2)
          | none => none) = lpO (body ρ μ1) (whL fc body n)
        unfold lpO
        rfl
    | _ => rfl
/-- a walk that only goes on: each turn keeps what holds -/
theorem forL_inv {P : Nat → RO → List MO → Prop} (ds : List DV) (h0 : P 0 ρ μ)
    (turn : ∀ i d ρ' μ', ds[i]? = some d → P i ρ' μ' → ∃ ρ1 μ1 ρ2 μ2, g d ρ' μ' = some (ρ1, μ1) ∧ body ρ1 μ1 = some (.nx ρ2 μ2) ∧ P (i + 1) ρ2 μ2) :
    ∃ ρ2 μ2, forL g body ds ρ μ = some (.nx ρ2 μ2) ∧ P ds.length ρ2 μ2 := by
  have key : ∀ (ds' : List DV) (i : Nat) (ρ' : RO) (μ' : List MO), ds.drop i = ds' → i ≤ ds.length → P i ρ' μ' → ∃ ρ2 μ2, forL g body ds' ρ' μ' = some (.nx ρ2 μ2) ∧ P ds.length ρ2 μ2 := by
    intro ds'
    induction ds' with
    | nil =>
      intro i ρ' μ' hd hi h
      have : ds.length ≤ i := List.drop_eq_nil_iff.mp hd
      have e : i = ds.length := by omega
      subst e
      exact ⟨ρ', μ', rfl, h⟩
    | cons d ds' ih =>
      intro i ρ' μ' hd hi h
      have hg : ds[i]? = some d := by
        have z := congrArg List.head? hd
        rw [List.head?_drop] at z
        simpa using z
      obtain ⟨ρ1, μ1, ρ2, μ2, e1, e2, h2⟩ := turn i d ρ' μ' hg h
      have hl : i < ds.length := (List.getElem?_eq_some_iff.mp hg).1
      have ht : ds.drop (i + 1) = ds' := by
        have z := congrArg List.tail hd
        rw [List.tail_drop] at z
        simpa using z
      obtain ⟨ρ3, μ3, e3, h3⟩ := ih (i + 1) ρ2 μ2 ht hl h2
      refine ⟨ρ3, μ3, ?_, h3⟩
      rw [forL_cons, e1, bnd_some, e2, lpO_nx, e3]
  exact key ds 0 ρ μ rfl (Nat.zero_le _) h0
end
end Eg
namespace Eg
theorem forL_at {g : DenG} {body : DenS} {ρ : RO} {μ : List MO} {ds : List DV} {o : Option Out} (hF : forL g body ds ρ μ = o) (P : Nat → RO → List MO → Prop) (h0 : P 0 ρ μ)
    (turn : ∀ i d ρ' μ', ds[i]? = some d → P i ρ' μ' → ∃ ρ1 μ1 ρ2 μ2, g d ρ' μ' = some (ρ1, μ1) ∧ body ρ1 μ1 = some (.nx ρ2 μ2) ∧ P (i + 1) ρ2 μ2) :
    ∃ ρ2 μ2, o = some (.nx ρ2 μ2) ∧ P ds.length ρ2 μ2 := by
  obtain ⟨ρ2, μ2, e, h⟩ := forL_inv (P := P) ds h0 turn
  exact ⟨ρ2, μ2, hF.symm.trans e, h⟩
end Eg
namespace Eg
@[simp] theorem cutd_mu {μ μ' : List MO} : cutd μ (.mu μ.length) μ' = some (.mu μ.length, μ') := by
  unfold cutd
  rw [if_neg]
  rintro ⟨h, _⟩
  simp [DV.bel] at h
end Eg

namespace Eg
open PySem PySem.Spec PyProof.Rows L2
/-! ### enumerate of a tuple -/
theorem meets_enumT (l : Addr) (items : Array Value) (n : Nat) (dct : Option Addr) (sl : Array (Option Value)) :
    Meets (Builtin.«enumerate.__new__» ⟨[.type "enumerate", .ref l], []⟩) (fun _ R s => s.heap.get? l = some { cls := .type "tuple", dict := dct, data := .seq items n, slots := sl } ∧
      R (.ok (.ret (.ref (s.heap.push { cls := .type "tuple_iterator", data := .fields #[.ref l, .int 0 0] }).objs.size)))
        { s with heap := (s.heap.push { cls := .type "tuple_iterator", data := .fields #[.ref l, .int 0 0] }).push { cls := .type "enumerate", data := .fields #[.none, .bool false, .ref s.heap.objs.size, rawInt 0, .none, .none] } }) :=
  .of_wp fun prog w A R s h => by
    obtain ⟨hp, g, d, tk, os⟩ := s; obtain ⟨hl, h⟩ := h
    have hsub := sub_enumerate
    have hL : Heap.IsTuple (Shared.heap ⟨hp, g, d, tk, os⟩) l items := ⟨_, hl, rfl, n, rfl⟩
    wp_walk using wpAny_loadPart' hl
    refine wpAny_stack_any fun st => wpAny_pure ?_
    split
    · rename_i c _ _ _ _ _
      cases (c == Value.type "enumerate")
      · wp_walk using wpAny_loadPart' hl, wpAny_pyIter_tuple hL
        exact ⟨_, rfl, h⟩
      · wp_walk using wpAny_loadPart' hl, wpAny_pyIter_tuple hL
        exact ⟨_, rfl, h⟩
    · wp_walk using wpAny_loadPart' hl, wpAny_pyIter_tuple hL
      exact ⟨_, rfl, h⟩
section
variable {prog : Program} {w : World} {A : Around} {E : Value → Shared → Prop} {s : Shared}
theorem call_enumT {l : Addr} {items : Array Value} {Q : Value → Shared → Prop} (hL : s.heap.IsTuple l items)
    (h : ∀ h', IsEnum h' (s.heap.objs.size + 1) s.heap.objs.size 0 .none → h'.IsTupleIter s.heap.objs.size l 0 → h'.objs.size = s.heap.objs.size + 2 →
      (∀ b o, s.heap.get? b = some o → h'.get? b = some o) → Q (.ref (s.heap.objs.size + 1)) { s with heap := h' }) :
    wpAny (model prog w) A (call (.type "enumerate") [.ref l]) Q E s := by
  obtain ⟨⟨c, dct, dt, sl⟩, hl, hc, n, hd⟩ := hL
  replace hc : c = .type "tuple" := hc
  replace hd : dt = .seq items n := hd
  subst hc hd
  refine callType_new F.called_enumerate (by decide) (F.typeCall_enumerate_1 _) (F.newCall_enumerate_1 _) (fun obj => F.args_object_init_2 obj _) F.entry_enumerate_new
    (meets_enumT l items n dct sl) ⟨hl, ?_⟩
  have hz : (s.heap.push { cls := .type "tuple_iterator", data := .fields #[.ref l, .int 0 0] }).objs.size = s.heap.objs.size + 1 := Heap.size_push ..
  show _ ∧ _
  rw [hz]
  have he : IsEnum ((s.heap.push { cls := .type "tuple_iterator", data := .fields #[.ref l, .int 0 0] }).push
      { cls := .type "enumerate", data := .fields #[.none, .bool false, .ref s.heap.objs.size, rawInt 0, .none, .none] }) (s.heap.objs.size + 1) s.heap.objs.size 0 .none := by
    have := Heap.get?_push_size (s.heap.push { cls := .type "tuple_iterator", data := .fields #[.ref l, .int 0 0] })
      (o := { cls := .type "enumerate", data := .fields #[.none, .bool false, .ref s.heap.objs.size, rawInt 0, .none, .none] }) rfl
    rw [hz] at this; exact this
  refine ⟨⟨_, he, rfl⟩, h _ he ⟨_, Heap.get?_push_of_some _ (Heap.get?_push_size _ rfl), rfl, rfl⟩ (by rw [Heap.size_push, hz]) fun b o x => Heap.get?_push_of_some _ (Heap.get?_push_of_some _ x)⟩
end
def ItnT (K : PySem.W.Frag) (a : Addr) : It where
  go := fun i H => ∃ (xs : List V) (x : V), SqT K H a xs ∧ xs[i]? = some x
  yld := fun i H v H' => ∃ (T : Addr) (x : V), v = .ref T ∧ H T = none ∧ H' = upd H T (.tup [.int (i : Int), x]) ∧ ∀ xs, SqT K H a xs → xs[i]? = some x
  stop := fun i H => ∃ xs : List V, SqT K H a xs ∧ xs.length = i
theorem turn_enumT {P : Program} {w : World} {K : PySem.W.Frag} {elts : List Expr} {kk : Nat} {tpos : Pos} (a e it : Addr) :
    Turn P w K (.Tuple elts kk tpos) (ItnT K a) [e, it] e fun i h => (∃ old, IsEnum h e it (i : Int) old) ∧ h.IsTupleIter it a i ∧ e ≠ it ∧ a ≠ it ∧ a ≠ e where
  mem := List.mem_cons_self
  obj := by
    rintro i h ⟨⟨old, he⟩, ⟨o, ho, hc, hd⟩, _⟩ b hb
    rcases List.mem_cons.mp hb with z | z
    · subst z
      exact ⟨_, he, fun v q => nomatch q⟩
    · obtain rfl := List.mem_singleton.mp z
      exact ⟨o, ho, fun v q => by rw [hd] at q; cases q⟩
  keep := by
    rintro i h h' ⟨⟨old, he⟩, hi, r⟩ kp
    exact ⟨⟨old, kp e List.mem_cons_self _ he⟩, hi.at fun o q => kp it (List.mem_cons_of_mem _ List.mem_cons_self) o q, r⟩
  item := by
    rintro X rfl rfl rfl hc i pins s σ H E I hf ⟨⟨old, he⟩, hit, n1, n2, n3⟩ ⟨xs, x, hq, hx⟩
    obtain ⟨its, rv, p, hz⟩ := I.tuple hq
    obtain ⟨u, hu, ru⟩ := rv.get hx
    have hlt : i < its.toArray.size := by
      rw [List.size_toArray]
      exact (List.getElem?_eq_some_iff.mp hu).1
    have le : e < s.heap.objs.size := Heap.lt_size he
    have li : it < s.heap.objs.size := by
      obtain ⟨_, q, _⟩ := hit
      exact Heap.lt_size q
    have hef : e ∉ [it, a] := by
      intro z
      rcases List.mem_cons.mp z with z | z
      · exact n1 z
      · exact n3 (List.mem_singleton.mp z).symm
    refine wpAny_pyNext_enum_itemC (Draws.tuple (A := X.A.in1) (I.ok.hd hc) it a n2 its.toArray) he ⟨hit, p⟩ hlt n1 hef ?_
    rintro x' h' tk hx' out ⟨hit', _⟩ hT hsz keep
    have ex : x' = u := by
      have z : its.toArray[i]? = some u := by
        rw [List.getElem?_toArray]
        exact hu
      have hx2 : its.toArray[i]? = some x' := hx'
      rw [hx2] at z
      exact Option.some.inj z
    subst ex
    refine ⟨_, rfl, wpAny_letOwnedTupleGo_enum (s := { s with heap := h', toks := tk + 1 }) out fun h2 he2 sb => ?_⟩
    have at2 : h2.get? s.heap.objs.size = some { cls := .type "tuple", data := .seq #[.int (i : Int) tk, x'] } := (sb.2 _ (Nat.ne_of_gt le)).trans hT
    have new : ObjOk X.prog X.w (upd H s.heap.objs.size (.tup [.int (i : Int), x])) h2 s.heap.objs.size (.tup [.int (i : Int), x]) :=
      ⟨by show 2 ≤ sizeLine; decide, [.int (i : Int) tk, x'], .cons ⟨_, rfl⟩ (.cons ru .nil), ⟨_, at2, rfl, _, rfl⟩⟩
    have I2 : L2.Inv X pins σ (upd H s.heap.objs.size (.tup [.int (i : Int), x])) { s with heap := h2, toks := tk + 1 } := by
      refine I.turnedNew (ch := [e, it]) (fun b ob hb q => ?_) hf (Nat.le_refl _) new
      have b1 : b ≠ e := fun z => hb (by rw [z]; exact List.mem_cons_self)
      have b2 : b ≠ it := fun z => hb (by rw [z]; exact List.mem_cons_of_mem _ List.mem_cons_self)
      exact (sb.2 b b1).trans (keep b ob b1 b2 q)
    have cnt : ((i + 1 : Nat) : Int) = (i : Int) + 1 := by omega
    refine ⟨.ref s.heap.objs.size, _, I2, rfl, ⟨_, x, rfl, I.hok.fresh (Nat.le_refl _), rfl, fun ys hy => ?_⟩, ⟨⟨x', ?_⟩, hit'.at fun o q => (sb.2 it (Ne.symm n1)).trans q, n1, n2, n3⟩, fun b hb => ?_⟩
    · rw [I.tuple_inj hy hq]
      exact hx
    · rw [cnt]
      exact he2
    · have lb : b < s.heap.objs.size := by
        rcases List.mem_cons.mp hb with z | z
        · rw [z]; exact le
        · rw [List.mem_singleton.mp z]; exact li
      rw [upd_ne (Nat.ne_of_lt lb)]
      exact (hf b hb).1
  done := by
    rintro X rfl rfl rfl hc i pins s σ H E I hf ⟨⟨old, he⟩, hit, n1, n2, n3⟩ ⟨xs, hq, hx⟩
    obtain ⟨its, rv, p, hz⟩ := I.tuple hq
    obtain ⟨f0, f1, f2, f3, f4, f5⟩ := hf it (List.mem_cons_of_mem _ List.mem_cons_self)
    have en : its.toArray.size = i := by
      rw [List.size_toArray, ← rv.length]
      exact hx
    exact wpAny_pyNext_enum_endD (Draws.tuple (A := X.A.in1) (I.ok.hd hc) it a n2 its.toArray) he (by rw [en]; exact ⟨hit, p⟩) fun h' eb => ⟨rfl, I.turned (t' := s.toks) (fun b o hb q => eb b o hb q) f0 f1 f3 f4 f5⟩
  self := by
    rintro A i s Q E ⟨⟨_, he⟩, _⟩ h
    exact wpAny_pyIter_enum he h
def iEnumT (K : PySem.W.Frag) (ta : TA) : TI := fun σ H R => ta σ H fun vs H1 => ∃ a xs, vs = [.ref a] ∧ SqT K H1 a xs ∧ R (ItnT K a) H1
section
variable {X : Cx} {e a b : Expr} {fs : DenA} {ρ : RO} {μ : List MO} {p p2 pos pos2 tpos : Pos} {elts : List Expr} {kk : Nat} {Ra : Ca} {fa fb : Den}
theorem pi_enumT {ta : TA} (hg : Gl X "enumerate") (hm : X.mg "enumerate" = none) (ha : PA X [e] ta) (hs : starEach [e] X.env = [(false, eval e X.env)] := by rfl) :
    PI X (.Tuple elts kk tpos) (.Call (.Name "enumerate" p) [e] [] pos) (iEnumT X.K ta) := by
  refine ⟨fun pins s σ H R I h => ?_⟩
  refine Call_ (ld_blt I hg hm boot_enumerate (PyProof.Rows.callWith_type1 (thn (ha.run pos pins s σ H _ I h) fun us s1 ⟨vs, H1, I1, r1, q1⟩ => ?_) hs rfl))
  obtain ⟨a, xs, ex, hq, q⟩ := q1
  subst ex
  cases r1 with
  | cons r rr =>
    cases rr
    cases r
    obtain ⟨its, rv, p', hz⟩ := I1.tuple hq
    refine call_enumT p' fun h' he hit hsz hk => wpAny_pyIter_enum he ?_
    have I2 : L2.Inv X pins σ H1 { s1 with heap := h' } := I1.kept (t' := s1.toks) hk
    have ha : a < s1.heap.objs.size := by
      obtain ⟨o, q, _⟩ := p'
      exact Heap.lt_size q
    refine ⟨s1.heap.objs.size + 1, [s1.heap.objs.size + 1, s1.heap.objs.size], _, _, H1, rfl, I2, turn_enumT a (s1.heap.objs.size + 1) s1.heap.objs.size, ⟨⟨.none, he⟩, hit, Nat.succ_ne_self _, Nat.ne_of_lt ha, Nat.ne_of_lt (Nat.lt_succ_of_lt ha)⟩, fun b hb => ?_, q⟩
    have e' : b = s1.heap.objs.size + 1 ∨ b = s1.heap.objs.size := by simpa using hb
    have hle : s1.heap.objs.size ≤ b := by
      rcases e' with z | z
      · rw [z]; exact Nat.le_add_right _ _
      · rw [z]; exact Nat.le_refl _
    exact I1.fpOk hle (I1.hok.fresh hle)
theorem EvI.enmT (hg : Gl X "enumerate") (hm : X.mg "enumerate" = none) (h : EvA X [e] ρ μ fun ds μ1 => ∃ xs, ds = [.tup xs] ∧ Ra (cntD 0 xs) μ1) (hs : starEach [e] X.env = [(false, eval e X.env)] := by rfl) :
    EvI X (.Tuple elts kk tpos) (.Call (.Name "enumerate" p) [e] [] pos) ρ μ Ra :=
  PIw (pi_enumT hg hm pa_a hs) fun σ H Q ⟨α, E, q⟩ => ⟨_, h, α, E, fun vs ds α1 μ1 H1 ⟨xs, e1, r⟩ E1 X1 hv => by
    subst e1
    obtain ⟨v, rfl, hv'⟩ := hasL1 hv
    obtain ⟨a, ws, rfl, s1, t1⟩ := sqT_of hv'
    refine ⟨a, ws, rfl, s1, q _ _ α1 μ1 H1 r E1 X1 fun α3 μ3 H3 kp l => ?_⟩
    obtain ⟨a', ws', ea, s3, t3⟩ := sqT_of (kp.has hv')
    cases ea
    refine ⟨fun i d hd => ?_, ⟨ws', s3, by rw [cntD_len, t3.length]⟩⟩
    obtain ⟨x, f1, rfl⟩ := cntD_at _ _ _ _ hd
    obtain ⟨y, g1, g2⟩ := t3.get f1
    refine ⟨⟨ws', y, s3, g1⟩, ?_⟩
    rintro z H' ⟨T, y2, rfl, nT, rfl, c1⟩
    have q1 := c1 ws' s3
    rw [g1] at q1
    cases q1
    obtain ⟨k2, l2⟩ := l.lay (o := .tup [.int (i : Int), y]) nT
    rw [show (0 : Int) + (i : Int) = (i : Int) by omega]
    exact ⟨k2, l2, .tup (.of upd_same) (.cons .int (.cons (k2.has g2) .nil))⟩⟩
theorem EvI.enmL (hg : Gl X "enumerate") (hm : X.mg "enumerate" = none) (h : EvA X [e] ρ μ fun ds μ1 => ∃ xs, ds = [.lst xs] ∧ Ra (cntD 0 xs) μ1) (hs : starEach [e] X.env = [(false, eval e X.env)] := by rfl) :
    EvI X (.Tuple elts kk tpos) (.Call (.Name "enumerate" p) [e] [] pos) ρ μ Ra :=
  PIw (pi_enum hg hm pa_a hs) fun σ H Q ⟨α, E, q⟩ => ⟨_, h, α, E, fun vs ds α1 μ1 H1 ⟨xs, e1, r⟩ E1 X1 hv => by
    subst e1
    obtain ⟨v, rfl, hv'⟩ := hasL1 hv
    obtain ⟨a, ws, rfl, s1, t1⟩ := sqL_of hv'
    refine ⟨a, ws, rfl, s1, q _ _ α1 μ1 H1 r E1 X1 fun α3 μ3 H3 kp l => ?_⟩
    obtain ⟨a', ws', ea, s3, t3⟩ := sqL_of (kp.has hv')
    cases ea
    refine ⟨fun i d hd => ?_, ⟨ws', s3, by rw [cntD_len, t3.length]; exact Nat.le_refl _⟩⟩
    obtain ⟨x, f1, rfl⟩ := cntD_at _ _ _ _ hd
    obtain ⟨y, g1, g2⟩ := t3.get f1
    refine ⟨⟨ws', y, s3, g1⟩, ?_⟩
    rintro z H' ⟨T, y2, rfl, nT, rfl, c1⟩
    have q1 := c1 ws' s3
    rw [g1] at q1
    cases q1
    obtain ⟨k2, l2⟩ := l.lay (o := .tup [.int (i : Nat), y]) nT
    rw [show (0 : Int) + (i : Int) = (i : Int) by omega]
    exact ⟨k2, l2, .tup (.of upd_same) (.cons .int (.cons (k2.has g2) .nil))⟩⟩
theorem SI.enm (hg : Gl X "enumerate") (hm : X.mg "enumerate" = none) (ss : SAr X [e] fs) (hs : starEach [e] X.env = [(false, eval e X.env)] := by rfl) : SI X (.Tuple elts kk tpos) (.Call (.Name "enumerate" p) [e] [] pos) (iEnm fs) := fun ρ μ R k => by
  obtain ⟨ds, μ1, e1, k⟩ := okA_bndA k
  split at k
  · exact EvI.enmL hg hm (ss.at e1 ⟨_, rfl, k⟩) hs
  · exact EvI.enmT hg hm (ss.at e1 ⟨_, rfl, k⟩) hs
  · exact k.elim
/-! ### list(range(..)), tuple(range(..)) -/
theorem rgV_has {w : Wd} (a b : Int) : HasL w (rgV a b) (rgD a (b - a).toNat) := by
  unfold rgV rgD
  generalize (List.range (b - a).toNat) = l
  induction l with
  | nil => exact .nil
  | cons i l ih => exact .cons .int ih
def dRgL (fa fb : Den) : Den := fun ρ μ => bnd (fa ρ μ) fun x μ1 => bnd (fb ρ μ1) fun y μ2 => match x, y with
  | .int i, .int j => if -4000000000000000000 ≤ i ∧ i < 4000000000000000000 ∧ -4000000000000000000 ≤ j ∧ j < 4000000000000000000 ∧ j - i ≤ 16777216 then some (.lst (rgD i (j - i).toNat), μ2) else none
  | _, _ => none
theorem SE.rgL (hc : X.calm = true) (hg : Gl X "list") (hm : X.mg "list" = none) (hg2 : Gl X "range") (hm2 : X.mg "range" = none) (sa : SE X a fa) (sb : SE X b fb)
    (na : starEach [a, b] X.env = (false, eval a X.env) :: starEach [b] X.env := by rfl) (nb : starEach [b] X.env = (false, eval b X.env) :: starEach [] X.env := by rfl) (hp : (backTo pos2 (starEach [b] X.env)).any (·.1) = false := by rfl)
    (nc : starEach [.Call (.Name "range" p2) [a, b] [] pos2] X.env = (false, eval (.Call (.Name "range" p2) [a, b] [] pos2) X.env) :: starEach [] X.env := by rfl) :
    SE X (.Call (.Name "list" p) [.Call (.Name "range" p2) [a, b] [] pos2] [] pos) (dRgL fa fb) := fun ρ μ R k => by
  obtain ⟨x, μ1, e1, k⟩ := okE_bnd k
  obtain ⟨y, μ2, e2, k⟩ := okE_bnd k
  cases x with
  | int i =>
   cases y with
   | int j =>
    obtain ⟨c, k⟩ := okE_if k
    refine PEw (pe_listRg hc hg hm (prg_2 hg2 hm2 pe_a pe_a na nb hp) nc) fun σ H Q ⟨α, E, q⟩ => ?_
    refine ⟨_, sa.at (R := fun d m => d = .int i ∧ m = μ1) e1 ⟨rfl, rfl⟩, α, E, ?_⟩
    rintro v d α1 μ1' H1 ⟨rfl, rfl⟩ E1 X1 hv
    cases hv
    refine ⟨_, sb.at (R := fun d m => d = .int j ∧ m = μ2) e2 ⟨rfl, rfl⟩, α1, E1, ?_⟩
    rintro v d α2 μ2' H2 ⟨rfl, rfl⟩ E2 X2 hv
    cases hv
    refine ⟨i, j, rfl, rfl, ⟨by omega, by omega, by omega, by omega, by omega⟩, fun q' nq => ?_⟩
    obtain ⟨k2, l2⟩ := E2.live.lay (o := .lst (rgV i j)) nq
    exact q _ _ α2 μ2' _ k (E2.ext k2 l2) (X1.trans (X2.trans k2)) (.lst (.inl ⟨E2.live.fresh nq, .inl upd_same⟩) (rgV_has i j))
   | _ => exact k.elim
  | _ => exact k.elim
/-! ### a list that was made to be changed is told to stay as it is -/
theorem Sts.frz {xs : List Stmt} {R : Co} (i k : Nat) {ds : List DV} (hi : ρ[i]? = some (some (.mu k))) (hk : μ[k]? = some (.lst ds)) (h : Sts X xs (ρ.set i (some (.lst ds))) (μ.set k .dead) R) : Sts X xs ρ μ R :=
  PSsw h fun D σ H ⟨α, E, q⟩ => by
    obtain ⟨v, e1, e2⟩ := E.at_ i _ hi
    cases e2 with
    | mu ha =>
      obtain ⟨kp, l, nl⟩ := E.live.freeze (k := k)
      obtain ⟨vs, h1, h2⟩ := E.live.ob k _ _ ha hk
      have E2 := (E.ext kp l).set i (.lst (.inl ⟨nl _ ha, .inl h1⟩) (kp.hasL h2))
      have es : ∀ u, σ[i]? = some (some u) → σ.set i (some u) = σ := fun u e1 => by
        obtain ⟨hl, he⟩ := List.getElem?_eq_some_iff.mp e1
        apply List.ext_getElem?
        intro j
        by_cases hj : j = i
        · subst hj
          rw [List.getElem?_set_self hl]
          exact e1.symm
        · rw [List.getElem?_set_ne (Ne.symm hj)]
      rw [es _ e1] at E2
      exact ⟨α, E2, fun ρ' σ' α' μ' H' r E' k' => q.1 ρ' σ' α' μ' H' r E' (kp.trans k'), fun v d α' μ' H' r l' k' => q.2.1 v d α' μ' H' r l' (kp.trans k'),
        fun ρ' σ' α' μ' H' r E' k' => q.2.2.1 ρ' σ' α' μ' H' r E' (kp.trans k'), fun ρ' σ' α' μ' H' r E' k' => q.2.2.2 ρ' σ' α' μ' H' r E' (kp.trans k')⟩
def sFrz (i : Nat) (g : DenS) : DenS := fun ρ μ => match ρ[i]? with
  | some (some (.mu k)) => match μ[k]? with
    | some (.lst ds) => g (ρ.set i (some (.lst ds))) (μ.set k .dead)
    | _ => none
  | some (some (.lst _)) => g ρ μ
  | _ => none
theorem SS.frz {ss : List Stmt} {g : DenS} (i : Nat) (h : SS X ss g) : SS X ss (sFrz i g) := fun ρ μ R k => by
  unfold sFrz at k
  split at k
  · rename_i n hn
    split at k
    · rename_i ds hd
      exact Sts.frz i n hn hd (h _ _ R k)
    · exact k.elim
  · exact h ρ μ R k
  · exact k.elim
end
end Eg

namespace Eg
open PySem PySem.Spec PyProof.Rows L2
section
variable {μ : List MO}
theorem xItems_t (ds : List DV) : itemsD μ (.tup ds) = some ds := rfl
theorem xItems_l (ds : List DV) : itemsD μ (.lst ds) = some ds := rfl
theorem xItems_m (k : Nat) : itemsD μ (.mu k) = match μ[k]? with | some (.lst ds) => some ds | _ => none := rfl
theorem xLen_t (ds : List DV) : lenD μ (.tup ds) = some ds.length := rfl
theorem xLen_l (ds : List DV) : lenD μ (.lst ds) = some ds.length := rfl
theorem xLen_m (k : Nat) : lenD μ (.mu k) = (itemsD μ (.mu k)).map List.length := rfl
theorem xLen_s (y : Str) : lenD μ (.str y) = if y.length ≤ sizeLine then some y.length else none := rfl
theorem xIx_t (ds : List DV) (i : Int) : oIx (.tup ds) (.int i) μ = (atI ds i).map fun d => (d, μ) := rfl
theorem xIx_l (ds : List DV) (i : Int) : oIx (.lst ds) (.int i) μ = (atI ds i).map fun d => (d, μ) := rfl
theorem xIx_m (k : Nat) (i : Int) : oIx (.mu k) (.int i) μ = match itemsD μ (.mu k) with | some ds => (atI ds i).map fun d => (d, μ) | none => none := rfl
theorem xIx_s (z : Str) (i : Int) : oIx (.str z) (.int i) μ = if z.length ≤ sizeLine then (atI z.cps.toList i).map fun c => (.str ⟨#[c]⟩, μ) else none := rfl
end
end Eg

namespace Eg
open PySem PySem.Spec PyProof.Rows L2
/-! ### list(range(..)) of any bounds -/
section
variable {pr : Program} {wo : World} {Ar : Around} {sh : Shared} {rg : Addr} {lo hi : Int} {t1 t2 t3 : Tok} {m : Nat}
/-- how a builtin's code may end, when it goes on as another code -/
def goesOn (pr : Program) (wo : World) (Ar : Around) (W : Result → Shared → Prop) (x : PySem.Fin) (y : Shared) : Prop :=
  match x with
  | .done z => W (.ok z) y
  | .again z => z.quiet = true ∧ codeAny (model pr wo) Ar z W y
/-- what the made list is -/
def madeL (lo : Int) (m : Nat) (sh : Shared) (T : Addr) (W : Heap → Nat → Prop) : Prop := ∀ (g : Heap) (tk : Nat) (got : Array Value) (cap : Nat), (∀ (x : Addr) o, x ≠ T → sh.heap.get? x = some o → g.get? x = some o) →
  g.get? T = some { cls := .type "list", dict := none, data := .seq got cap, slots := #[] } → ItemsOf (fun j v => ∃ t, v = .int (lo + j * 1) t) got m → W g tk
theorem ext_long {W : Result → Shared → Prop} (ho : Ar.handled = none) (hr : IsRange sh.heap rg lo hi 1 t1 t2 t3) (hb : Builtin.Range.small lo hi 1 = false) (hn : Builtin.Range.rangeSize lo hi 1 = m)
    (hm : m ≤ 2 ^ 24) (T : Addr) (out : Value) (cap0 : Nat) (hT : sh.heap.get? T = some { cls := .type "list", data := .seq #[] cap0 })
    (fine : madeL lo m sh T fun g tk => W (.ok (.ret out)) { sh with heap := g, toks := tk }) :
    wpAny (model pr wo) Ar.in1 (Builtin.List.listExtendWith (.ref T) (.ref rg) out) (goesOn pr wo Ar W) (fun e y => W (.error e) y) sh := by
  have nr : T ≠ rg := by
    rintro rfl
    rw [hr] at hT
    simp at hT
  have lt : T < sh.heap.objs.size := Heap.lt_size hT
  have ne : T ≠ sh.heap.objs.size := Nat.ne_of_lt lt
  have walk := (Walks.longrange (prog := pr) (w := wo) (A := Ar.in1) ho sh.heap.objs.size lo 1 m).toS
  have loop : ∀ (g : Heap) (cp tk : Nat), IsLongIter g sh.heap.objs.size (lo + ((0 : Nat) : Int) * 1) ((m : Int) - ((0 : Nat) : Int)) 1 →
      (∀ (x : Addr) o, x ≠ T → sh.heap.get? x = some o → g.get? x = some o) → g.get? T = some { cls := .type "list", data := .seq #[] cp } →
      codeAny (model pr wo) Ar (.builtin "list.extend.loop" ⟨[.ref T, .ref sh.heap.objs.size, out], []⟩) W { sh with heap := g, toks := tk } := by
    intro g cp tk it kp hg
    refine codeAny_extend_loopS walk (by rw [sizeLine_eq]; omega) T (fun q => ne (List.mem_singleton.mp q)) out m 0 _ #[] cp rfl (Nat.zero_le _) it hg (ItemsOf.nil _) ?_
    intro y got cp2 mv hy its
    rw [Moved.eq_with mv]
    refine fine y.heap y.toks got cp2 (fun x o hx e => ?_) hy its
    refine mv.heap x o (fun q => ?_) (kp x o hx e)
    rcases List.mem_cons.mp q with q | q
    · exact hx q
    · rw [List.mem_singleton.mp q] at e
      exact absurd (Heap.lt_size e) (Nat.lt_irrefl _)
  unfold Builtin.List.listExtendWith
  refine wpAny_bind (wpAny_typeOf (T := "range") ⟨_, hr, rfl⟩ ?_)
  have f1 : Builtin.List.listSameRef (.ref T) (.ref rg) = false := by
    unfold Builtin.List.listSameRef
    simp [nr]
  have f2 : (Value.type "range" == Value.type "list") = false := by
    decide
  have f3 : (Value.type "range" == Value.type "tuple") = false := by
    decide
  rw [f1, f2, f3]
  simp only [Bool.or_false, Bool.false_eq_true, if_false]
  refine wpAny_bind (wpAny_pyIter_longrange hr hb ?_)
  refine wpAny_bind (wpAny_holding ?_)
  refine wpAny_hint_range (n := m) (Heap.get?_push_of_some _ hr) hn hm ?_
  generalize hob : ({ cls := .type "longrange_iterator", data := .fields #[rawInt lo, rawInt (Builtin.Range.rangeSize lo hi 1), rawInt 1] } : Obj) = ob
  have it1 : IsLongIter (sh.heap.push ob) sh.heap.objs.size (lo + ((0 : Nat) : Int) * 1) ((m : Int) - ((0 : Nat) : Int)) 1 := by
    show (sh.heap.push ob).get? sh.heap.objs.size = _
    rw [Heap.get?_push_size _ (by rw [← hob]; rfl), ← hob, hn]
    simp
  have hT1 : (sh.heap.push ob).get? T = some { cls := .type "list", data := .seq #[] cap0 } := Heap.get?_push_of_some ob hT
  refine wpAny_ite_split (fun _ => ?_) fun _ => wpAny_pure ⟨plainId_quiet F.plain_extend_loop _, loop _ cap0 _ it1 (fun x o _ e => Heap.get?_push_of_some _ e) hT1⟩
  refine wpAny_bind (wpAny_rule ?_)
  refine wpAny_bind ?_
  show wpAny _ _ (updateSeq T (fun z => z.push .none) >>= fun _ => updateSeq T (fun z => z.pop)) _ _ _
  refine wpAny_bind (wpAny_updateSeq hT1 rfl ?_)
  have hT2 := Heap.get?_update_self (Obj.mapSeq fun z => z.push Value.none) hT1 rfl
  refine wpAny_updateSeq (hz := by seq_fits) hT2 rfl ?_
  have hT3 := Heap.get?_update_self (Obj.mapSeq fun z => z.pop) hT2 rfl
  refine wpAny_pure ⟨plainId_quiet F.plain_extend_loop _, loop _ _ _ ?_ (fun x o hx e => ?_) hT3⟩
  · show Heap.get? _ _ = _
    rw [Heap.get?_update_other _ _ ne, Heap.get?_update_other _ _ ne]
    exact it1
  · rw [Heap.get?_update_other _ _ (Ne.symm hx), Heap.get?_update_other _ _ (Ne.symm hx)]
    exact Heap.get?_push_of_some _ e
theorem init_long {W : Result → Shared → Prop} (ho : Ar.handled = none) (hr : IsRange sh.heap rg lo hi 1 t1 t2 t3) (hb : Builtin.Range.small lo hi 1 = false) (hn : Builtin.Range.rangeSize lo hi 1 = m)
    (hm : m ≤ 2 ^ 24) (T : Addr) (hT : sh.heap.get? T = some { cls := .type "list", data := .seq #[] })
    (fine : madeL lo m sh T fun g tk => W (.ok (.ret .none)) { sh with heap := g, toks := tk }) :
    wpAny (model pr wo) Ar.in1 (Builtin.«list.__init__» ⟨[.ref T, .ref rg], []⟩) (goesOn pr wo Ar W) (fun e y => W (.error e) y) sh := by
  have nr : T ≠ rg := by
    rintro rfl
    rw [hr] at hT
    simp at hT
  show wpAny _ _ (Builtin.List.listItems (.ref T) >>= fun z => Builtin.List.listUpdate (.ref T) (fun _ => #[]) >>= fun _ => letGo z.toList.reverse >>= fun _ => Builtin.List.listExtendWith (.ref T) (.ref rg) .none) _ _ sh
  refine wpAny_bind ?_
  unfold Builtin.List.listItems
  refine wpAny_bind (wpAny_seqItems hT rfl (wpAny_pure ?_))
  show wpAny _ _ (updateSeq T (fun _ => #[]) >>= fun _ => letGo (#[] : Array Value).toList.reverse >>= fun _ => Builtin.List.listExtendWith (.ref T) (.ref rg) .none) _ _ sh
  refine wpAny_bind (wpAny_updateSeq hT rfl ?_)
  have hT2 := Heap.get?_update_self (Obj.mapSeq fun _ => (#[] : Array Value)) hT rfl
  have same : ∀ (x : Addr) o, x ≠ T → sh.heap.get? x = some o → (sh.heap.update T (Obj.mapSeq fun _ => (#[] : Array Value))).get? x = some o := fun x o hx e => by
    rw [Heap.get?_update_other _ _ (Ne.symm hx)]
    exact e
  refine wpAny_bind (wpAny_letGo ?_)
  refine ext_long ho (same rg _ (Ne.symm nr) hr) hb hn hm T .none _ hT2 ?_
  intro g tk got cp kp hg its
  exact fine g tk got cp (fun x o hx e => kp x o hx (same x o hx e)) hg its
theorem call_list_long {Q E : Value → Shared → Prop} (ho : Ar.handled = none) (hr : IsRange sh.heap rg lo hi 1 t1 t2 t3) (hb : Builtin.Range.small lo hi 1 = false) (hn : Builtin.Range.rangeSize lo hi 1 = m)
    (hm : m ≤ 2 ^ 24)
    (fine : ∀ (g : Heap) (tk : Nat) (got : Array Value) (cap : Nat), (∀ x o, sh.heap.get? x = some o → g.get? x = some o) → g.get? sh.heap.objs.size = some { cls := .type "list", dict := none, data := .seq got cap, slots := #[] } →
      ItemsOf (fun j v => ∃ t, v = .int (lo + j * 1) t) got m → Q (.ref sh.heap.objs.size) { sh with heap := g, toks := tk }) :
    wpAny (model pr wo) Ar (call (.type "list") [.ref rg]) Q E sh := by
  refine callType_codes (Q₁ := fun ob y => ob = .ref sh.heap.objs.size ∧ y = { sh with heap := sh.heap.push { cls := .type "list", data := .seq #[] } }) F.called_list (F.typeCall_list_1 _) F.entry_list_init
    (code_list_new _ ⟨rfl, rfl⟩) ?_
  rintro ob y ⟨rfl, rfl⟩
  have hT : (sh.heap.push { cls := .type "list", data := .seq #[] }).get? sh.heap.objs.size = some { cls := .type "list", data := .seq #[] } := Heap.get?_push_size _ rfl
  refine ⟨⟨_, hT, rfl⟩, F.args_list_init_2 _ _, ?_⟩
  refine init_long (Ar := Ar.in1) (sh := { sh with heap := sh.heap.push { cls := .type "list", data := .seq #[] } }) ho (Heap.get?_push_of_some _ hr) hb hn hm _ hT ?_
  intro g tk got cp kp hg its
  exact ⟨rfl, fine g tk got cp (fun x o e => kp x o (Nat.ne_of_lt (Heap.lt_size e)) (Heap.get?_push_of_some _ e)) hg its⟩
end
section
variable {X : Cx} {e a b : Expr} {ρ : RO} {μ : List MO} {p p2 pos pos2 : Pos} {fa fb : Den} {te : L2.St → Hp → (Int → Int → Hp → Prop) → Prop}
def tLstRgA (te : L2.St → Hp → (Int → Int → Hp → Prop) → Prop) : TE := fun σ H Q => te σ H fun i j H1 => (j - i ≤ 16777216) ∧ ∀ q, H1 q = none → Q (.ref q) (upd H1 q (.lst (rgV i j)))
theorem pe_listRgA (hc : X.calm = true) (hg : Gl X "list") (hm : X.mg "list" = none) (he : PRg X e te) (na : starEach [e] X.env = (false, eval e X.env) :: starEach [] X.env := by rfl) :
    PE X (.Call (.Name "list" p) [e] [] pos) (tLstRgA te) := by
  refine ⟨fun pins s σ H Q I h => ?_⟩
  refine Call_ (ld_blt I hg hm boot_list (PyProof.Rows.callWith_type1 (args_cons (thn (he pins s σ H _ I h) fun x s1 q1 => args_nil ?_) na) na))
  obtain ⟨r, i, j, t, u, v, H1, rfl, hr, I1, ok, q⟩ := q1
  have fine : ∀ (g : Heap) (tk : Nat) (got : Array Value) (cap : Nat), (∀ x o, s1.heap.get? x = some o → g.get? x = some o) →
      g.get? s1.heap.objs.size = some { cls := .type "list", dict := none, data := .seq got cap, slots := #[] } → ItemsOf (fun j v => ∃ t, v = .int (i + j * 1) t) got (j - i).toNat →
      ∃ (v : V) (H' : Hp), L2.Inv X pins σ H' { s1 with heap := g, toks := tk } ∧ RelV v (.ref s1.heap.objs.size) ∧ Q v H' := fun g tk got cap kp hg its => by
    refine ⟨.ref s1.heap.objs.size, upd H1 s1.heap.objs.size (.lst (rgV i j)), I1.laid kp (Nat.le_refl _) (show ObjOk X.prog X.w _ _ _ (.lst (rgV i j)) from ⟨?_, got.toList, cap, vals_rg its, ?_⟩), rfl, q _ (I1.hok.fresh (Nat.le_refl _))⟩
    · rw [rgV_length, sizeLine_eq]
      omega
    · rw [Array.toArray_toList]
      exact hg
  cases hs : Builtin.Range.small i j 1
  · exact call_list_long (m := (j - i).toNat) (I1.ok.hd hc) hr hs (rangeSize_nat i j) (by omega) fine
  · exact call_list_range (n := (j - i).toNat) (I1.ok.hd hc) hr hs (rangeSize_nat i j) (by omega) fine
def dRgA (fa fb : Den) : Den := fun ρ μ => bnd (fa ρ μ) fun x μ1 => bnd (fb ρ μ1) fun y μ2 => match x, y with
  | .int i, .int j => if j - i ≤ 16777216 then some (.lst (rgD i (j - i).toNat), μ2) else none
  | _, _ => none
theorem SE.rgA (hc : X.calm = true) (hg : Gl X "list") (hm : X.mg "list" = none) (hg2 : Gl X "range") (hm2 : X.mg "range" = none) (sa : SE X a fa) (sb : SE X b fb)
    (na : starEach [a, b] X.env = (false, eval a X.env) :: starEach [b] X.env := by rfl) (nb : starEach [b] X.env = (false, eval b X.env) :: starEach [] X.env := by rfl) (hp : (backTo pos2 (starEach [b] X.env)).any (·.1) = false := by rfl)
    (nc : starEach [.Call (.Name "range" p2) [a, b] [] pos2] X.env = (false, eval (.Call (.Name "range" p2) [a, b] [] pos2) X.env) :: starEach [] X.env := by rfl) :
    SE X (.Call (.Name "list" p) [.Call (.Name "range" p2) [a, b] [] pos2] [] pos) (dRgA fa fb) := fun ρ μ R k => by
  obtain ⟨x, μ1, e1, k⟩ := okE_bnd k
  obtain ⟨y, μ2, e2, k⟩ := okE_bnd k
  cases x with
  | int i =>
   cases y with
   | int j =>
    obtain ⟨c, k⟩ := okE_if k
    refine PEw (pe_listRgA hc hg hm (prg_2 hg2 hm2 pe_a pe_a na nb hp) nc) fun σ H Q ⟨α, E, q⟩ => ?_
    refine ⟨_, sa.at (R := fun d m => d = .int i ∧ m = μ1) e1 ⟨rfl, rfl⟩, α, E, ?_⟩
    rintro v d α1 μ1' H1 ⟨rfl, rfl⟩ E1 X1 hv
    cases hv
    refine ⟨_, sb.at (R := fun d m => d = .int j ∧ m = μ2) e2 ⟨rfl, rfl⟩, α1, E1, ?_⟩
    rintro v d α2 μ2' H2 ⟨rfl, rfl⟩ E2 X2 hv
    cases hv
    refine ⟨i, j, rfl, rfl, c, fun q' nq => ?_⟩
    obtain ⟨k2, l2⟩ := E2.live.lay (o := .lst (rgV i j)) nq
    exact q _ _ α2 μ2' _ k (E2.ext k2 l2) (X1.trans (X2.trans k2)) (.lst (.inl ⟨E2.live.fresh nq, .inl upd_same⟩) (rgV_has i j))
   | _ => exact k.elim
  | _ => exact k.elim
theorem dRgA_def (fa fb : Den) (ρ : RO) (μ : List MO) : dRgA fa fb ρ μ = bnd (fa ρ μ) fun x μ1 => bnd (fb ρ μ1) fun y μ2 => match x, y with
  | .int i, .int j => if j - i ≤ 16777216 then some (.lst (rgD i (j - i).toNat), μ2) else none
  | _, _ => none := rfl
end
end Eg

namespace Eg
open PySem PySem.Spec PyProof.Rows L2
/-! ### walking range(a, b) of any bounds -/
theorem turn_long {Pr : Program} {wo : World} {K : PySem.W.Frag} {tgt : Expr} (itr : Addr) (lo : Int) (m : Nat) :
    Turn Pr wo K tgt (Itr lo m) [itr] itr (fun j g => IsLongIter g itr (lo + (j : Nat) * 1) ((m : Int) - (j : Nat)) 1) where
  mem := List.mem_cons_self
  obj := by
    rintro j g st b hb
    obtain rfl := List.mem_singleton.mp hb
    exact ⟨_, st, fun v q => nomatch q⟩
  keep := fun j g g' st kp => kp itr List.mem_cons_self _ st
  item := by
    rintro X rfl rfl rfl hc j pins sh σ H E I hf st hg
    obtain ⟨a0, a1, a2, a3, a4, a5⟩ := hf itr List.mem_cons_self
    refine (Walks.longrange (prog := X.prog) (w := X.w) (A := X.A) (I.ok.hd hc) itr lo 1 m).item j sh _ _ hg st ?_
    rintro v g tk ⟨t, rfl⟩ st' kp
    have I2 : L2.Inv X pins σ H { sh with heap := g, toks := tk } := I.turned (fun b o hb e => kp b o (by simpa using hb) e) a0 a1 a3 a4 a5
    refine ⟨_, rfl, go_of (s := { sh with heap := g, toks := tk }) (n := "longrange_iterator") st' rfl rfl (by decide) ?_⟩
    refine ⟨.int (lo + j), H, I2, ⟨t, ?_⟩, ⟨rfl, rfl⟩, st', fun b hb => (hf b hb).1⟩
    rw [Int.mul_one]
  done := by
    rintro X rfl rfl rfl hc j pins sh σ H E I hf st hg
    obtain ⟨a0, a1, a2, a3, a4, a5⟩ := hf itr List.mem_cons_self
    have hg' : m ≤ j := hg
    refine wpAny_pyNext_long_end (I.ok.hd hc) st (by omega) fun g eb => ?_
    exact ⟨rfl, I.turned (t' := sh.toks) (fun b o hb e => eb b o hb e) a0 a1 a3 a4 a5⟩
  self := fun _ _ _ _ _ st h => wpAny_pyIter_longiter st h
def iRngA (ta : TA) : TI := fun σ H R => ta σ H fun vs H1 => ∃ i j, vs = [.int i, .int j] ∧ R (Itr i (j - i).toNat) H1
section
variable {X : Cx} {e a b : Expr} {fs : DenA} {ρ : RO} {μ : List MO} {p p2 pos pos2 tpos : Pos} {Ra : Ca} {fa fb : Den}
theorem range_itA {tg : Expr} {pins : List (Addr × Obj)} {σ : L2.St} {H : Hp} {sh : Shared} {R : It → Hp → Prop} {E : Value → Shared → Prop} {lo hi : Int} {t1 t2 t3 : Tok} {tk : Nat} (I : L2.Inv X pins σ H sh) (q : R (Itr lo (hi - lo).toNat) H) :
    wpAny (model X.prog X.w) X.A (pyIter (.ref sh.heap.objs.size)) (PIE X pins σ tg R) E { sh with heap := sh.heap.push { cls := .type "range", data := .fields #[.int lo t1, .int hi t2, .int 1 t3] }, toks := tk } := by
  generalize hg : sh.heap.push { cls := .type "range", data := .fields #[.int lo t1, .int hi t2, .int 1 t3] } = g
  have ir : IsRange g sh.heap.objs.size lo hi 1 t1 t2 t3 := by
    rw [← hg]
    exact IsRange.new ..
  have I1 : L2.Inv X pins σ H { sh with heap := g, toks := tk } := I.kept fun b o e => by
    rw [← hg]
    exact Heap.get?_push_of_some _ e
  have sz : (((hi - lo).toNat : Nat) : Int) - ((0 : Nat) : Int) = Builtin.Range.rangeSize lo hi 1 := by
    rw [rangeSize_one]
    split <;> omega
  have z1 : lo + ((0 : Nat) : Int) * 1 = lo := by omega
  have fp : ∀ b ∈ [g.objs.size], FpOk X pins H b := fun b hb => by
    rw [List.mem_singleton.mp hb]
    exact I1.fpOk (Nat.le_refl _) (I1.hok.fresh (Nat.le_refl _))
  cases hsm : Builtin.Range.small lo hi 1 with
  | true =>
    refine wpAny_pyIter_range ir hsm ⟨g.objs.size, [g.objs.size], _, _, H, rfl, I1.kept (t' := tk) fun b o e => Heap.get?_push_of_some _ e, turn_range _ lo (hi - lo).toNat, ?_, fp, q⟩
    show IsRangeIter _ _ (lo + ((0 : Nat) : Int) * 1) _ 1
    rw [z1, sz]
    exact Heap.get?_push_size _ rfl
  | false =>
    refine wpAny_pyIter_longrange ir hsm ⟨g.objs.size, [g.objs.size], _, _, H, rfl, I1.kept (t' := tk) fun b o e => Heap.get?_push_of_some _ e, turn_long _ lo (hi - lo).toNat, ?_, fp, q⟩
    show IsLongIter _ _ (lo + ((0 : Nat) : Int) * 1) _ 1
    rw [z1, sz]
    exact Heap.get?_push_size _ rfl
theorem pi_range2A {tg : Expr} {ta : TA} (hg : Gl X "range") (hm : X.mg "range" = none) (ha : PA X [a, b] ta) (hs : starEach [a, b] X.env = [(false, eval a X.env), (false, eval b X.env)] := by rfl) (hs2 : starEach [b] X.env = [(false, eval b X.env)] := by rfl) :
    PI X tg (.Call (.Name "range" p) [a, b] [] pos) (iRngA ta) := by
  refine ⟨fun pins s σ H R I h => ?_⟩
  refine Call_ (ld_blt I hg hm boot_range (PyProof.Rows.callWith_type1 (thn (ha.run pos pins s σ H _ I h) fun us s1 q1 => ?_) (by rw [hs, hs2]) (by rw [hs2]; rfl)))
  obtain ⟨vs, H1, I1, r1, i, j, rfl, q⟩ := q1
  cases r1 with
  | cons r rr =>
    cases rr with
    | cons r' rr =>
      cases rr
      obtain ⟨t, rfl⟩ := r
      obtain ⟨t', rfl⟩ := r'
      exact call_range_2 (range_itA I1 q)
def iRangeA (fs : DenA) : DenA := fun ρ μ => bnd (fs ρ μ) fun ds μ1 => match ds with
  | [.int i, .int j] => some (rgD i (j - i).toNat, μ1)
  | _ => none
theorem SI.rangeA {tg : Expr} (hg : Gl X "range") (hm : X.mg "range" = none) (ss : SAr X [a, b] fs) (hs : starEach [a, b] X.env = [(false, eval a X.env), (false, eval b X.env)] := by rfl) (hs2 : starEach [b] X.env = [(false, eval b X.env)] := by rfl) : SI X tg (.Call (.Name "range" p) [a, b] [] pos) (iRangeA fs) := fun ρ μ R k => by
  obtain ⟨ds, μ1, e1, k⟩ := okA_bndA k
  split at k
  · rename_i i j
    refine PIw (pi_range2A hg hm pa_a hs hs2) fun σ H Q ⟨α, E, q⟩ => ⟨_, ss.at (R := fun ds m => ds = [.int i, .int j] ∧ m = μ1) e1 ⟨rfl, rfl⟩, α, E, ?_⟩
    rintro vs ds α1 μ1' H1 ⟨rfl, rfl⟩ E1 X1 hv
    obtain ⟨v, u, rfl, hw, hu⟩ := hasL2 hv
    cases hw
    cases hu
    exact ⟨i, j, rfl, q _ _ α1 μ1' H1 k E1 X1 (itr_ok i (j - i).toNat)⟩
  · exact k.elim
/-! ### a list that may change and another one: a new one that may change -/
def oAddM : DV → DV → List MO → RE
  | .mu k, .lst ys, μ => match μ[k]? with
    | some (.lst xs) => if xs.length + ys.length ≤ sizeLine then some (.mu μ.length, μ ++ [.lst (xs ++ ys)]) else none
    | _ => none
  | _, _, _ => none
def sCatMM : S2 := fun x y μ R => ∃ k xs ys, x = .mu k ∧ μ[k]? = some (.lst xs) ∧ y = .lst ys ∧ xs.length + ys.length ≤ sizeLine ∧ R (.mu μ.length) (μ ++ [.lst (xs ++ ys)])
theorem rCatMM_S : R2S X (rCatL X.K) sCatMM := fun α μ H σ ρ x y da db R Q E hx hy h q => by
  obtain ⟨k, xs, ys, rfl, hk, rfl, c, r⟩ := h
  obtain ⟨b, us, rfl, s2, t2⟩ := sqL_of hy
  cases hx with
  | mu ha =>
    obtain ⟨vs, h1, t1⟩ := E.live.ob k _ _ ha hk
    refine ⟨_, b, vs, us, rfl, rfl, .inl (.inl h1), s2, by rw [t1.length, t2.length]; exact c, fun p np => ?_⟩
    obtain ⟨kp, l, e⟩ := E.live.layM (o := .lst (vs ++ us)) (m := .lst (xs ++ ys)) np (fun _ k => ⟨vs ++ us, upd_same, k.hasL (HasL.app t1 t2)⟩)
    exact q _ _ _ _ _ r (E.ext kp l) kp (.mu e)
theorem SE.addM (sa : SE X a fa) (sb : SE X b fb) : SE X (.BinOp a .Add b pos) (dOp2 oAddM fa fb) := SE.op2 sa sb fun x y μ2 R h => by
  unfold oAddM at h
  split at h
  · split at h
    · rename_i hk
      obtain ⟨c, h⟩ := okE_if h
      exact ⟨sCatMM, ⟨_, _, _, rfl, hk, rfl, c, h⟩, fun ρ μ k => Ev.op op_catL rCatMM_S k⟩
    · exact h.elim
  · exact h.elim
end
end Eg

namespace Eg
open PySem PySem.Spec PyProof.Rows L2
/-! ### gcd of two to four numbers -/
def gcdL (ns : List Int) : Nat := ns.foldl (fun g x => g.gcd x.natAbs) 0
theorem args_gcd3 (a b c : Value) : argsOk "math.gcd" ⟨[a, b, c], []⟩ := by unfold argsOk; kernel_rfl
theorem args_gcd4 (a b c d : Value) : argsOk "math.gcd" ⟨[a, b, c, d], []⟩ := by unfold argsOk; kernel_rfl
theorem run_gcd2 (a b : Int) (t u : Tok) : Gives (Builtin.«math.gcd» ⟨[.int a t, .int b u], []⟩) (.int ((gcdL [a, b] : Nat) : Int)) :=
  .of_wp fun M A E s Q h => by
    obtain ⟨hp, g, d, tk, os⟩ := s
    wp_walk
    exact ⟨_, rfl, h⟩
theorem run_gcd3 (a b c : Int) (t u v : Tok) : Gives (Builtin.«math.gcd» ⟨[.int a t, .int b u, .int c v], []⟩) (.int ((gcdL [a, b, c] : Nat) : Int)) :=
  .of_wp fun M A E s Q h => by
    obtain ⟨hp, g, d, tk, os⟩ := s
    wp_walk
    exact ⟨_, rfl, h⟩
theorem run_gcd4 (a b c e : Int) (t u v x : Tok) : Gives (Builtin.«math.gcd» ⟨[.int a t, .int b u, .int c v, .int e x], []⟩) (.int ((gcdL [a, b, c, e] : Nat) : Int)) :=
  .of_wp fun M A E s Q h => by
    obtain ⟨hp, g, d, tk, os⟩ := s
    wp_walk
    exact ⟨_, rfl, h⟩
def rGcdN : List V → Hp → VK → Prop := fun vs H Q => ∃ ns : List Int, vs = ns.map V.int ∧ (2 ≤ ns.length ∧ ns.length ≤ 4) ∧ Q (.int ((gcdL ns : Nat) : Int)) H
section
variable {X : Cx} {a : Expr} {es : List Expr} {fs : DenA} {ρ : RO} {μ : List MO} {p pos : Pos}
theorem cr_gcdN : CallR X (.builtin "math.gcd") rGcdN := by
  intro pins s σ H vs us Q I r h
  obtain ⟨ns, rfl, ⟨l1, l2⟩, q⟩ := h
  match ns, l1, l2, r with
  | [a, b], _, _, .cons r1 (.cons r2 .nil) =>
    obtain ⟨t1, rfl⟩ := r1
    obtain ⟨t2, rfl⟩ := r2
    exact call_function_meets PySem.W.MGF.kind_gcd PySem.W.MGF.plain_gcd PySem.W.MGF.entry_gcd (PySem.W.MGF.args_gcd _ _) (run_gcd2 a b t1 t2).meets ⟨.int _, H, I.tok _, ⟨_, rfl⟩, q⟩
  | [a, b, c], _, _, .cons r1 (.cons r2 (.cons r3 .nil)) =>
    obtain ⟨t1, rfl⟩ := r1
    obtain ⟨t2, rfl⟩ := r2
    obtain ⟨t3, rfl⟩ := r3
    exact call_function_meets PySem.W.MGF.kind_gcd PySem.W.MGF.plain_gcd PySem.W.MGF.entry_gcd (args_gcd3 _ _ _) (run_gcd3 a b c t1 t2 t3).meets ⟨.int _, H, I.tok _, ⟨_, rfl⟩, q⟩
  | [a, b, c, e], _, _, .cons r1 (.cons r2 (.cons r3 (.cons r4 .nil))) =>
    obtain ⟨t1, rfl⟩ := r1
    obtain ⟨t2, rfl⟩ := r2
    obtain ⟨t3, rfl⟩ := r3
    obtain ⟨t4, rfl⟩ := r4
    exact call_function_meets PySem.W.MGF.kind_gcd PySem.W.MGF.plain_gcd PySem.W.MGF.entry_gcd (args_gcd4 _ _ _ _) (run_gcd4 a b c e t1 t2 t3 t4).meets ⟨.int _, H, I.tok _, ⟨_, rfl⟩, q⟩
theorem hasL_ints {w : Wd} : ∀ {vs : List V} {ns : List Int}, HasL w vs (ns.map DV.int) → vs = ns.map V.int
  | _, [], h => by cases h; rfl
  | _, n :: ns, h => by
    cases h with
    | cons h1 h2 =>
      cases h1
      rw [hasL_ints h2]
      rfl
def oGcd : List DV → List MO → RE := fun ds μ => match intsD ds with
  | some ns => if 2 ≤ ns.length ∧ ns.length ≤ 4 then some (.int ((gcdL ns : Nat) : Int), μ) else none
  | none => none
theorem SE.gcd {x : Str} (hg : Gl X x) (hm : X.mg x = some (.builtin "math.gcd")) (ss : SAr X (a :: es) fs) (hdb : (x == ("__debug__" : Str)) = false := by decide)
    (he : starEach (a :: es) X.env = (false, eval a X.env) :: starEach es X.env := by rfl) (hpl : (backTo pos (starEach es X.env)).any (·.1) = false := by rfl) :
    SE X (.Call (.Name x p) (a :: es) [] pos) (dBlt oGcd fs) := fun ρ μ R k => by
  obtain ⟨ds, μ1, e1, k⟩ := okE_bndA k
  unfold oGcd at k
  split at k
  · rename_i ns hn
    obtain ⟨c, k⟩ := okE_if k
    have hd := intsD_eq hn
    refine PEw (pe_callBfun cr_gcdN hg hm pa_a hdb he hpl) fun σ H Q ⟨α, E, q⟩ => ⟨_, ss.at (R := fun ds' m => ds' = ds ∧ m = μ1) e1 ⟨rfl, rfl⟩, α, E, ?_⟩
    rintro vs ds' α1 μ1' H1 ⟨rfl, rfl⟩ E1 X1 hv
    subst hd
    exact ⟨ns, hasL_ints hv, c, q _ _ α1 μ1' H1 k E1 X1 .int⟩
  · exact k.elim
end
end Eg

namespace Eg
open PySem PySem.Spec PyProof.Rows L2
/-! ### lcm of two numbers -/
def rLcmN : List V → Hp → VK → Prop := fun vs H Q => ∃ a b : Int, vs = [.int a, .int b] ∧ (a.natAbs < 2 ^ 64 ∧ b.natAbs < 2 ^ 64) ∧ Q (.int ((Nat.lcm a.natAbs b.natAbs : Nat) : Int)) H
section
variable {X : Cx} {a b : Expr} {fs : DenA} {ρ : RO} {μ : List MO} {p pos : Pos}
theorem cr_lcmN : CallR X (.builtin "math.lcm") rLcmN := by
  intro pins s σ H vs us Q I r h
  obtain ⟨a, b, rfl, ⟨ha, hb⟩, q⟩ := h
  obtain ⟨t, u, rfl⟩ := Vals.int2 r
  have e : Nat.lcm 1 a.natAbs = a.natAbs := Nat.lcm_one_left _
  refine PySem.W.mg_lcm ha hb ?_ ⟨.int _, H, I.tok _, ⟨_, rfl⟩, by rw [e]; exact q⟩
  rw [e]
  have le : Nat.lcm a.natAbs b.natAbs ≤ a.natAbs * b.natAbs := Nat.div_le_self _ _
  have lt : a.natAbs * b.natAbs < 2 ^ 64 * 2 ^ 64 := Nat.mul_lt_mul'' ha hb
  have lt2 : Nat.lcm a.natAbs b.natAbs < 2 ^ 128 := Nat.lt_of_le_of_lt le lt
  have := log_lt (n := 128) (i := ((Nat.lcm a.natAbs b.natAbs : Nat) : Int)) (by omega) (by omega)
  refine Nat.lt_of_le_of_lt this ?_
  decide
def oLcm : List DV → List MO → RE
  | [.int a, .int b], μ => if a.natAbs < 2 ^ 64 ∧ b.natAbs < 2 ^ 64 then some (.int ((Nat.lcm a.natAbs b.natAbs : Nat) : Int), μ) else none
  | _, _ => none
theorem SE.lcm {x : Str} (hg : Gl X x) (hm : X.mg x = some (.builtin "math.lcm")) (ss : SAr X [a, b] fs) (hdb : (x == ("__debug__" : Str)) = false := by decide)
    (he : starEach [a, b] X.env = (false, eval a X.env) :: starEach [b] X.env := by rfl) (hpl : (backTo pos (starEach [b] X.env)).any (·.1) = false := by rfl) :
    SE X (.Call (.Name x p) [a, b] [] pos) (dBlt oLcm fs) := fun ρ μ R k => by
  obtain ⟨ds, μ1, e1, k⟩ := okE_bndA k
  unfold oLcm at k
  split at k
  · rename_i i j
    obtain ⟨c, k⟩ := okE_if k
    refine PEw (pe_callBfun cr_lcmN hg hm pa_a hdb he hpl) fun σ H Q ⟨α, E, q⟩ => ⟨_, ss.at (R := fun ds' m => ds' = [.int i, .int j] ∧ m = μ1) e1 ⟨rfl, rfl⟩, α, E, ?_⟩
    rintro vs ds' α1 μ1' H1 ⟨rfl, rfl⟩ E1 X1 hv
    obtain ⟨v, u, rfl, hw, hu⟩ := hasL2 hv
    cases hw
    cases hu
    exact ⟨i, j, rfl, c, q _ _ α1 μ1' H1 k E1 X1 .int⟩
  · exact k.elim
end
end Eg

namespace Eg
open PySem PySem.Spec PyProof.Rows L2
section
variable {X : Cx} {a b c e : Expr} {es : List Expr} {fa fb fc f : Den} {fs : DenA} {pos p : Pos} {ρ : RO} {μ : List MO}
/-! ### a tuple, k times -/
def oRep : DV → DV → List MO → RE
  | .tup xs, .int k, μ => if xs.isEmpty = false ∧ 2 ≤ k ∧ k ≤ 1000 ∧ xs.length ≤ 1000 then some (.tup (List.replicate k.toNat xs).flatten, μ) else none
  | _, _, _ => none
def sRep : S2 := fun x y μ R => ∃ xs k, x = .tup xs ∧ y = .int k ∧ xs.isEmpty = false ∧ 2 ≤ k ∧ k ≤ 1000 ∧ xs.length ≤ 1000 ∧ R (.tup (List.replicate k.toNat xs).flatten) μ
theorem HasL.rep {w : Wd} {vs : List V} {ds : List DV} (h : HasL w vs ds) : ∀ m : Nat, HasL w (List.replicate m vs).flatten (List.replicate m ds).flatten
  | 0 => .nil
  | m + 1 => by
    rw [List.replicate_succ, List.replicate_succ, List.flatten_cons, List.flatten_cons]
    exact HasL.app h (HasL.rep h m)
theorem rRepT_S : R2S X (rRepT X.K) sRep := fun α μ H σ ρ x y da db R Q E hx hy h q => by
  obtain ⟨xs, k, rfl, rfl, hne, h1, h2, hz, r⟩ := h
  cases hx with
  | @tup a vs _ s1 t1 =>
    cases hy
    refine ⟨a, k, vs, rfl, rfl, s1, ?_, h1, h2, by rw [t1.length]; exact hz, ?_⟩
    · rintro rfl
      have e : xs = [] := List.length_eq_zero_iff.mp t1.length.symm
      subst e
      simp at hne
    · intro p np
      obtain ⟨kk, l⟩ := E.live.lay (o := .tup (List.replicate k.toNat vs).flatten) np
      exact q _ _ α μ _ r (E.ext kk l) kk (.tup (.of upd_same) (kk.hasL (HasL.rep t1 _)))
theorem SE.rep (sa : SE X a fa) (sb : SE X b fb) : SE X (.BinOp a .Mult b pos) (dOp2 oRep fa fb) := SE.op2 sa sb fun x y μ2 R h => by
  unfold oRep at h
  split at h
  · obtain ⟨⟨c1, c2, c3, c4⟩, h⟩ := okE_if h
    exact ⟨sRep, ⟨_, _, rfl, rfl, c1, c2, c3, c4, h⟩, fun ρ μ k => Ev.op op_repT rRepT_S k⟩
  · exact h.elim
end
end Eg

namespace Eg
open PySem PySem.Spec PyProof.Rows L2
section
variable {X : Cx} {a b c e : Expr} {es : List Expr} {fa fb fc f : Den} {fs : DenA} {pos p : Pos} {ρ : RO} {μ : List MO}
/-! ### range(a, b, c) -/
def stD (lo c : Int) (n : Nat) : List DV := (List.range n).map fun (i : Nat) => DV.int (lo + (i : Int) * c)
theorem stD_len (lo c : Int) (n : Nat) : (stD lo c n).length = n := by simp [stD]
theorem itc_ok {w : Wd} (lo c : Int) (n : Nat) : ItOk X (Itc lo c n) (stD lo c n) w := fun α μ H k l => by
  refine ⟨fun i d hd => ?_, Nat.le_of_eq (stD_len lo c n).symm⟩
  obtain ⟨hi, e⟩ := List.getElem?_eq_some_iff.mp hd
  rw [stD_len] at hi
  refine ⟨hi, fun x H' y => ?_⟩
  obtain ⟨rfl, rfl⟩ := y
  have e' : d = .int (lo + (i : Int) * c) := by
    rw [← e]
    simp [stD]
  rw [e']
  exact ⟨l.refl, l, .int⟩
def rgOk (i j c : Int) : Prop := c ≠ 0 ∧ c.natAbs < 1073741824 ∧ Builtin.Range.small i j c = true ∧ Builtin.Range.rangeSize i j c = ((Builtin.Range.rangeSize i j c).toNat : Int)
instance (i j c : Int) : Decidable (rgOk i j c) := by unfold rgOk; infer_instance
def iRange3 (fs : DenA) : DenA := fun ρ μ => bnd (fs ρ μ) fun ds μ1 => match ds with
  | [.int i, .int j, .int c] => if rgOk i j c then some (stD i c (Builtin.Range.rangeSize i j c).toNat, μ1) else none
  | _ => none
theorem SI.range3 {tg : Expr} (hg : Gl X "range") (hm : X.mg "range" = none) (ss : SAr X [a, b, c] fs)
    (hs : starEach [a, b, c] X.env = (false, eval a X.env) :: starEach [b, c] X.env := by rfl) (hpl : (backTo pos (starEach [b, c] X.env)).any (·.1) = false := by rfl) : SI X tg (.Call (.Name "range" p) [a, b, c] [] pos) (iRange3 fs) := fun ρ μ R k => by
  obtain ⟨ds, μ1, e1, k⟩ := okA_bndA k
  split at k
  · rename_i i j c
    obtain ⟨⟨c1, c2, c3, c4⟩, k⟩ := okA_if k
    refine PIw (pi_range3 hg hm pa_a hs hpl) fun σ H Q ⟨α, E, q⟩ => ⟨_, ss.at (R := fun ds m => ds = [.int i, .int j, .int c] ∧ m = μ1) e1 ⟨rfl, rfl⟩, α, E, ?_⟩
    rintro vs ds α1 μ1' H1 ⟨rfl, rfl⟩ E1 X1 hv
    obtain ⟨v, u, t, rfl, hw, hu, ht⟩ := hasL3 hv
    cases hw
    cases hu
    cases ht
    exact ⟨i, j, c, _, rfl, ⟨c1, c2, c3, c4⟩, q _ _ α1 μ1' H1 k E1 X1 (itc_ok i c _)⟩
  · exact k.elim
theorem rgOk_up {i j c : Int} (hi : -(2 ^ 40) ≤ i) (hi' : i < 2 ^ 40) (hj : -(2 ^ 40) ≤ j) (hj' : j < 2 ^ 40) (hc : 0 < c) (hc' : c < 2 ^ 20) : rgOk i j c := by
  refine ⟨by omega, by omega, ?_, ?_⟩
  · have e : Builtin.Range.rangeSize i j c = (if i < j then (j - i - 1) / c + 1 else 0) := by
      unfold Builtin.Range.rangeSize
      rw [if_pos (by omega)]
    have n0 : 0 ≤ Builtin.Range.rangeSize i j c ∧ Builtin.Range.rangeSize i j c ≤ 2 ^ 42 := by
      rw [e]
      split
      · have h1 : (j - i - 1) / c ≤ j - i - 1 := Int.ediv_le_self _ (by omega)
        have h2 : 0 ≤ (j - i - 1) / c := Int.ediv_nonneg (by omega) (by omega)
        omega
      · omega
    unfold Builtin.Range.small
    generalize Builtin.Range.rangeSize i j c = n at *
    simp only [Builtin.Range.rangeFitsLong, Bool.and_eq_true, Bool.or_eq_true, decide_eq_true_eq, beq_iff_eq]
    have hc0 : c > 0 := hc
    simp only [if_pos hc0]
    simp
    omega
  · rw [Int.toNat_of_nonneg]
    unfold Builtin.Range.rangeSize
    rw [if_pos (by omega)]
    split
    · have h2 : 0 ≤ (j - i - 1) / c := Int.ediv_nonneg (by omega) (by omega)
      omega
    · omega
theorem oDiv_neg {i j : Int} (h1 : j < 0) (h2 : -1267650600228229401496703205376 < j) : oDiv (.int i) (.int j) μ = some (.int (i.fdiv j), μ) := by
  have b := log_lt (n := 100) (i := j) (by omega) (by omega)
  unfold oDiv
  dsimp only
  rw [if_neg (by omega), if_pos ⟨h1, by omega⟩]
theorem oDiv_big {i j : Int} (h1 : j ≠ 0) (h2 : -(2 ^ 400) < j) (h3 : j < 2 ^ 400) : oDiv (.int i) (.int j) μ = some (.int (i.fdiv j), μ) := by
  have b := log_lt (n := 400) (i := j) h2 h3
  unfold oDiv
  dsimp only
  by_cases c : 0 < j
  · rw [if_pos ⟨c, by omega⟩, Int.fdiv_eq_ediv_of_nonneg _ (by omega)]
  · rw [if_neg (by omega), if_pos ⟨by omega, by omega⟩]
theorem oMod_any {i j : Int} (h1 : j ≠ 0) : oMod (.int i) (.int j) μ = some (.int (i.fmod j), μ) := by
  unfold oMod
  dsimp only
  rw [if_pos h1]
/-! ### i << j -/
def oShl : DV → DV → List MO → RE
  | .int i, .int j, μ => if 0 ≤ j ∧ j ≤ 1000000 ∧ i.natAbs < 2 ^ 64 then some (.int (i * 2 ^ j.toNat), μ) else none
  | _, _, _ => none
def sShl : S2 := fun x y μ R => ∃ i j, x = .int i ∧ y = .int j ∧ CPow i j ∧ R (.int (i * 2 ^ j.toNat)) μ
theorem SE.shl (sa : SE X a fa) (sb : SE X b fb) : SE X (.BinOp a .LShift b pos) (dOp2 oShl fa fb) := SE.op2 sa sb fun x y μ2 R h => by
  unfold oShl at h
  split at h
  · obtain ⟨c, h⟩ := okE_if h
    exact ⟨sShl, ⟨_, _, rfl, rfl, c, h⟩, fun ρ μ k => Ev.op op_shl (rI_S fun _ _ _ => .int) k⟩
  · exact h.elim
end
end Eg

namespace Eg
open PySem PySem.Spec PyProof.Rows L2
section
variable {X : Cx} {a b c e : Expr} {es : List Expr} {fa fb fc f : Den} {fs : DenA} {pos p : Pos} {ρ : RO} {μ : List MO} {k : Nat}
/-! ### repr of data -/
noncomputable def reprD : DV → Option Str
  | .non => some "None"
  | .bl b => some (if b then "True" else "False")
  | .int i => if i.natAbs.log2 < 1920 then some (toString i : String) else none
  | .tup xs => match toPy (.tup xs) with
    | some pd => if pd.showable = true ∧ pd.depth ≤ 100 ∧ pd.shown.length ≤ sizeLine then some pd.shown else none
    | none => none
  | .lst xs => match toPy (.lst xs) with
    | some pd => if pd.showable = true ∧ pd.depth ≤ 100 ∧ pd.shown.length ≤ sizeLine then some pd.shown else none
    | none => none
  | _ => none
noncomputable def oRepr : List DV → List MO → RE
  | [d], μ => match reprD d with
    | some x => some (.str x, μ)
    | none => none
  | _, _ => none
theorem Ev.reprA {R : Cn} (hA : X.A.guards = some []) (hu : X.A.units + 200 < cLine) (hB : ∃ mm, X.base.Ns sysModules mm) (hg : Gl X "repr") (hm : X.mg "repr" = none)
    (h : EvA X [e] ρ μ fun ds μ1 => ∃ d x, ds = [d] ∧ reprD d = some x ∧ R (.str x) μ1) (he : starEach [e] X.env = (false, eval e X.env) :: starEach [] X.env := by rfl) :
    Ev X (.Call (.Name "repr" p) [e] [] pos) ρ μ R := by
  refine ⟨fun pins s σ H Q I ⟨α, E, q⟩ => ?_⟩
  refine wpAny_Call_Name_kw (ld_blt I hg hm PyProof.Rows.boot_repr ?_ (by decide) (by decide))
  have ha : PA X [e] (tEvA X ρ μ fun ds μ1 => ∃ d x, ds = [d] ∧ reprD d = some x ∧ R (.str x) μ1) := h
  refine PyProof.Rows.callWith_builtin1 (thn (ha.run pos pins s σ H (fun vs H1 => ∃ α1 μ1 ds, (∃ d x, ds = [d] ∧ reprD d = some x ∧ R (.str x) μ1) ∧ En ⟨X.K, α1, μ1, H1⟩ σ ρ ∧ Kp ⟨X.K, α, μ, H⟩ ⟨X.K, α1, μ1, H1⟩ ∧ HasL ⟨X.K, α1, μ1, H1⟩ vs ds) I ⟨α, E, fun vs ds α1 μ1 H1 c E1 X1 hv => ⟨α1, μ1, ds, c, E1, X1, hv⟩⟩) ?_) he rfl
  rintro us s1 ⟨vs, H1, I1, rv, α1, μ1, ds, ⟨d, x, rfl, hx, r⟩, E1, X1, hv⟩
  obtain ⟨v, rfl, hw⟩ := hasL1 hv
  obtain ⟨u, rfl, ru⟩ := vals1 rv
  cases hw with
  | non =>
    have e1 : u = .none := ru
    subst e1
    cases hx
    exact PySem.P.repr_of_none ⟨.str _, H1, I1.tok _, ⟨_, rfl⟩, q _ _ α1 μ1 H1 r E1 X1 .str⟩
  | @bl bb =>
    have e1 : u = .bool bb := ru
    subst e1
    cases hx
    exact PySem.P.repr_of_bool ⟨.str _, H1, I1.tok _, ⟨_, by cases bb <;> rfl⟩, q _ _ α1 μ1 H1 r E1 X1 .str⟩
  | @int i =>
    obtain ⟨t, rfl⟩ := ru
    simp only [reprD] at hx
    split at hx
    · rename_i hl
      cases hx
      exact PySem.P.repr_of_int hl ⟨.str _, H1, I1.tok _, ⟨_, rfl⟩, q _ _ α1 μ1 H1 r E1 X1 .str⟩
    · cases hx
  | @tup pp vs2 ds2 h1 h2 =>
    have e1 : u = .ref pp := ru
    subst e1
    simp only [reprD] at hx
    split at hx
    · rename_i pd hpd
      split at hx
      · rename_i hc
        cases hx
        obtain ⟨as, rd, ns⟩ := rd_of I1 hB (.tup h1 h2) (u := .ref pp) rfl hpd
        exact PySem.repr_of_reads' rd hc.1 (fun _ => ns) hA (by omega) (fun _ _ z => z) (fun h' t tk k => ⟨.str pd.shown, H1, I1.kept k, ⟨_, rfl⟩, q _ _ α1 μ1 H1 r E1 X1 .str⟩) hc.2.2
      · cases hx
    · cases hx
  | @lst pp vs2 ds2 h1 h2 =>
    have e1 : u = .ref pp := ru
    subst e1
    simp only [reprD] at hx
    split at hx
    · rename_i pd hpd
      split at hx
      · rename_i hc
        cases hx
        obtain ⟨as, rd, ns⟩ := rd_of I1 hB (.lst h1 h2) (u := .ref pp) rfl hpd
        exact PySem.repr_of_reads' rd hc.1 (fun _ => ns) hA (by omega) (fun _ _ z => z) (fun h' t tk k => ⟨.str pd.shown, H1, I1.kept k, ⟨_, rfl⟩, q _ _ α1 μ1 H1 r E1 X1 .str⟩) hc.2.2
      · cases hx
    · cases hx
  | str => cases hx
  | dic _ _ _ => cases hx
  | exc _ _ _ => cases hx
  | exc0 _ => cases hx
  | mu _ => cases hx
  | rg _ => cases hx
  | fn _ => cases hx
theorem SE.repr (hA : X.A.guards = some []) (hr : Room k X.A) (hB : ∃ mm, X.base.Ns sysModules mm) (hg : Gl X "repr") (hm : X.mg "repr" = none) (ss : SAr X [e] fs)
    (he : starEach [e] X.env = (false, eval e X.env) :: starEach [] X.env := by rfl) : SE X (.Call (.Name "repr" p) [e] [] pos) (dBlt oRepr fs) := fun ρ μ R h => by
  obtain ⟨ds, μ1, e1, h⟩ := okE_bndA h
  have hu := hr.un
  refine Ev.reprA hA (by omega) hB hg hm (ss.at (R := fun ds m => ∃ d x, ds = [d] ∧ reprD d = some x ∧ R (.str x) m) e1 ?_) he
  unfold oRepr at h
  split at h
  · rename_i d
    split at h
    · rename_i x hx
      exact ⟨d, x, rfl, hx, h⟩
    · exact h.elim
  · exact h.elim
/-! ### two reprs beside one another -/
def oNeR : DV → DV → List MO → RE
  | .str x, .str y, μ => some (.bl (!decide (x = y)), μ)
  | _, _, _ => none
def oEqR : DV → DV → List MO → RE
  | .str x, .str y, μ => some (.bl (decide (x = y)), μ)
  | _, _, _ => none
theorem SE.neR (sa : SE X a fa) (sb : SE X b fb) : SE X (.Compare a [.NotEq] [b] pos) (dOp2 oNeR fa fb) := SE.op2 sa sb fun x y μ2 R h => by
  unfold oNeR at h
  split at h
  · rename_i x y
    have h' : R (.bl (!decide (x = y))) μ2 := h
    exact ⟨sNe, ⟨_, _, rfl, rfl, rfl, by simpa using h'⟩, fun ρ μ k => Ev.ne k⟩
  · exact h.elim
theorem SE.eqR (sa : SE X a fa) (sb : SE X b fb) : SE X (.Compare a [.Eq] [b] pos) (dOp2 oEqR fa fb) := SE.op2 sa sb fun x y μ2 R h => by
  unfold oEqR at h
  split at h
  · rename_i x y
    have h' : R (.bl (decide (x = y))) μ2 := h
    exact ⟨sEq, ⟨_, _, rfl, rfl, rfl, by simpa using h'⟩, fun ρ μ k => Ev.eq k⟩
  · exact h.elim
theorem ST.neR (sa : SE X a fa) (sb : SE X b fb) : ST X (.Compare a [.NotEq] [b] pos) (dOp2 oNeR fa fb) := ST.op2 sa sb fun x y μ2 R h => by
  unfold oNeR at h
  split at h
  · rename_i x y
    have h' : R (.bl (!decide (x = y))) μ2 := h
    exact ⟨sNe, ⟨_, _, rfl, rfl, rfl, by simpa using h'⟩, fun R' e ρ μ k => by subst e; exact EvT.ne k⟩
  · exact h.elim
theorem ST.eqR (sa : SE X a fa) (sb : SE X b fb) : ST X (.Compare a [.Eq] [b] pos) (dOp2 oEqR fa fb) := ST.op2 sa sb fun x y μ2 R h => by
  unfold oEqR at h
  split at h
  · rename_i x y
    have h' : R (.bl (decide (x = y))) μ2 := h
    exact ⟨sEq, ⟨_, _, rfl, rfl, rfl, by simpa using h'⟩, fun R' e ρ μ k => by subst e; exact EvT.eq k⟩
  · exact h.elim
end
/-! ### what is shown is short -/
def Shw (n L : Nat) (d : DV) : Prop := ∃ pd, toPy d = some pd ∧ pd.showable = true ∧ pd.depth ≤ n ∧ pd.shown.length ≤ L
theorem Shw.repr {n L : Nat} {xs : List DV} (h : Shw n L (.tup xs)) (hn : n ≤ 100) (hL : L ≤ sizeLine) : ∃ x, reprD (.tup xs) = some x := by
  obtain ⟨pd, e, h1, h2, h3⟩ := h
  refine ⟨pd.shown, ?_⟩
  simp only [reprD, e]
  rw [if_pos ⟨h1, by omega, by omega⟩]
end Eg

namespace Eg
open PySem PySem.Spec PyProof.Rows L2
section
variable {X : Cx} {a b c e : Expr} {es : List Expr} {fa fb fc f : Den} {fs : DenA} {pos p : Pos} {ρ : RO} {μ : List MO}
/-! ### any, sum of a list -/
def oAny : List DV → List MO → RE
  | [.lst xs], μ => match blsD xs with
    | some bs => some (.bl (bs.any id), μ)
    | none => none
  | _, _ => none
def sAny : SA := fun ds μ R => ∃ bs : List Bool, ds = [.lst (bs.map DV.bl)] ∧ R (.bl (bs.any id)) μ
theorem any_S : RaS X (rAny X.K) sAny := fun α μ H σ ρ vs ds R Q E hv h q => by
  obtain ⟨bs, rfl, hR⟩ := h
  obtain ⟨v, rfl, hw⟩ := hasL1 hv
  obtain ⟨a, vs, rfl, s1, t1⟩ := sqL_of hw
  have ev := bls_has t1
  subst ev
  exact ⟨a, bs, rfl, s1, q.sc E hR .bl⟩
theorem Ev.any {R : Cn} {p : Pos} (hc : X.calm = true) (hg : Gl X "any") (hm : X.mg "any" = none) (h : EvA X [e] ρ μ fun ds μ1 => sAny ds μ1 R) (he : starEach [e] X.env = (false, eval e X.env) :: starEach [] X.env := by rfl) :
    Ev X (.Call (.Name "any" p) [e] [] pos) ρ μ R := .callB (cr_any hc) any_S hg hm PyProof.Rows.boot_any h (by decide) (by decide) he rfl
theorem SE.any (hc : X.calm = true) (hg : Gl X "any") (hm : X.mg "any" = none) (ss : SAr X [a] fs) (he : starEach [a] X.env = (false, eval a X.env) :: starEach [] X.env := by rfl) : SE X (.Call (.Name "any" p) [a] [] pos) (dBlt oAny fs) :=
  SE.blt ss (S := sAny) (fun ds μ R h => by
    unfold oAny at h
    split at h
    · split at h
      · rename_i xs _ bs e
        exact ⟨bs, by rw [blsD_eq e], h⟩
      · exact h.elim
    · exact h.elim) fun ρ μ R k => Ev.any hc hg hm k he
def oSum : List DV → List MO → RE
  | [.lst xs], μ => match intsD xs with
    | some ns => some (.int ns.sum, μ)
    | none => none
  | _, _ => none
def sSum : SA := fun ds μ R => ∃ ns : List Int, ds = [.lst (ns.map DV.int)] ∧ R (.int ns.sum) μ
theorem sum_S : RaS X (rSum X.K) sSum := fun α μ H σ ρ vs ds R Q E hv h q => by
  obtain ⟨ns, rfl, hR⟩ := h
  obtain ⟨v, rfl, hw⟩ := hasL1 hv
  obtain ⟨a, vs, rfl, s1, t1⟩ := sqL_of hw
  have ev := hasL_ints t1
  subst ev
  exact ⟨a, ns, rfl, s1, q.sc E hR .int⟩
theorem Ev.sum {R : Cn} {p : Pos} (hc : X.calm = true) (hg : Gl X "sum") (hm : X.mg "sum" = none) (h : EvA X [e] ρ μ fun ds μ1 => sSum ds μ1 R) (he : starEach [e] X.env = (false, eval e X.env) :: starEach [] X.env := by rfl) :
    Ev X (.Call (.Name "sum" p) [e] [] pos) ρ μ R := .callB (cr_sum hc) sum_S hg hm PyProof.Rows.boot_sum h (by decide) (by decide) he rfl
theorem SE.sum (hc : X.calm = true) (hg : Gl X "sum") (hm : X.mg "sum" = none) (ss : SAr X [a] fs) (he : starEach [a] X.env = (false, eval a X.env) :: starEach [] X.env := by rfl) : SE X (.Call (.Name "sum" p) [a] [] pos) (dBlt oSum fs) :=
  SE.blt ss (S := sSum) (fun ds μ R h => by
    unfold oSum at h
    split at h
    · split at h
      · rename_i xs _ bs e
        exact ⟨bs, by rw [intsD_eq e], h⟩
      · exact h.elim
    · exact h.elim) fun ρ μ R k => Ev.sum hc hg hm k he
end
end Eg

namespace Eg
open PySem PySem.Spec PyProof.Rows L2
section
variable {X : Cx} {a b c e : Expr} {es : List Expr} {fa fb fc f : Den} {fs fi : DenA} {pos p : Pos} {ρ : RO} {μ : List MO} {R : Cn}
/-! ### a comprehension whose elements make objects -/
theorem lc_SG {elt iter : Expr} {ifs : List Expr} {scope : Scope} {x : Str} {px : Pos} (i : Nat)
    (h : EvI X (.Name x px) iter ρ μ fun ds μ1 => ds.length ≤ sizeLine ∧ ∃ I : Nat → List DV → List MO → List MO → Prop, I 0 [] μ1 [] ∧
      (∀ j d acc A B, ds[j]? = some d → A.length = μ1.length → I j acc A B → ∃ tt : RO → List MO → Ct → TT, (∀ s H C cl fp, PTs (blkX X s H scope C cl fp) ifs (tt (ρ.set i (some d)) (A ++ .lst acc :: B) fun b μ3 =>
        if b = true then ∀ s H C cl fp, Ev (blkX X s H scope C cl fp) elt (ρ.set i (some d)) μ3 fun y μ5 => ∃ A' B', μ5 = A' ++ .lst acc :: B' ∧ A'.length = μ1.length ∧ I (j + 1) (acc ++ [y]) A' B'
        else ∃ A' B', μ3 = A' ++ .lst acc :: B' ∧ A'.length = μ1.length ∧ I (j + 1) acc A' B')) ∧ ∀ ρ' μ' Rt σ H Q, tEvT X ρ' μ' Rt σ H Q → tt ρ' μ' Rt σ H Q) ∧
      ∀ acc A B, A.length = μ1.length → I ds.length acc A B → R (.lst acc) (A ++ .dead :: B))
    (σ : L2.St) (H : Hp) (Q : VK) (q : tEv X ρ μ R σ H Q) : tLc (aI X (.Name x px) iter) (gName i) (aBT X scope ifs) (aB X scope elt) [i] σ H Q := by
  obtain ⟨α, E, q⟩ := q
  refine ⟨_, h, α, E, ?_⟩
  rintro J ds α1 μ1 H1 ⟨hz, I, i0, turn, done⟩ E1 X1 ok D hD
  have hlen : α1.length = μ1.length := E1.live.len
  obtain ⟨kM, lM, eM⟩ := E1.live.layM (o := .lst []) (m := .lst []) hD (fun _ k => ⟨[], upd_same, .nil⟩)
  let P : Nat → Hp → Prop := fun j H' => ∃ acc A B α', acc.length ≤ j ∧ I j acc A B ∧ A.length = μ1.length ∧ α'[μ1.length]? = some D ∧ Live ⟨X.K, α', A ++ .lst acc :: B, H'⟩ ∧ Kp ⟨X.K, α1, μ1, H1⟩ ⟨X.K, α', A ++ .lst acc :: B, H'⟩
  refine ⟨fun j m H' => m = ds.length - j ∧ j ≤ ds.length ∧ P j H', ⟨ds.length, by simp, Nat.zero_le _, [], μ1, [], α1 ++ [D], Nat.le_refl _, i0, rfl, eM, lM, kM⟩, ?_⟩
  rintro j m H2 ⟨rfl, hj, acc, A, B, α2, ha, hI, hA, hα, l2, k2⟩
  obtain ⟨go, stop⟩ := ok α2 _ H2 k2 l2
  have at_ : ∀ (A B : List MO) (m : MO), A.length = μ1.length → (A ++ m :: B)[μ1.length]? = some m := fun A B m e => by
    rw [List.getElem?_append_right (by omega), e, Nat.sub_self]
    rfl
  have setl : ∀ (A B : List MO) (m m' : MO), A.length = μ1.length → (A ++ m :: B).set μ1.length m' = A ++ m' :: B := fun A B m m' e => by
    rw [← e]
    simp
  have kD := at_ A B (.lst acc) hA
  by_cases hlt : j < ds.length
  · obtain ⟨g1, g2⟩ := go j ds[j] (by simp [hlt])
    refine .inr ⟨g1, P (j + 1), fun H' p => ⟨ds.length - (j + 1), by omega, rfl, hlt, p⟩, fun y H3 yy => ?_⟩
    obtain ⟨ky, ly, hy⟩ := g2 y H3 yy
    obtain ⟨tt, ht, hm⟩ := turn j ds[j] acc A B (by simp [hlt]) hA hI
    show wipe ((wipe σ [i]).set i (some y)) [i] = wipe σ [i] ∧ _
    refine ⟨by simp [wipe], _, ht, ?_⟩
    have k3 := k2.trans ky
    have E3 : En ⟨X.K, α2, A ++ .lst acc :: B, H3⟩ ((wipe σ [i]).set i (some y)) (ρ.set i (some ds[j])) := by
      have z := ((E1.ext k3 ly).wipe i).set i hy
      have eρ : (ρ.set i none).set i (some ds[j]) = ρ.set i (some ds[j]) := by simp
      rw [eρ] at z
      exact z
    refine hm _ _ _ _ _ _ ⟨α2, E3, ?_⟩
    intro b α3 μ3 H4 r3 E4 k4
    cases b with
    | false =>
      refine iteF ?_
      obtain ⟨A', B', rfl, h4, hI4⟩ := r3
      exact ⟨acc, A', B', α3, Nat.le_succ_of_le ha, hI4, h4, k4.α _ _ hα, E4.live, k3.trans k4⟩
    | true =>
      refine iteT ⟨tEv X (ρ.set i (some ds[j])) μ3 _, r3, α3, E4, ?_⟩
      rintro v d α5 μ5 H5 ⟨A', B', rfl, h4, hI4⟩ E5 k5 hv
      have hα5 := k5.α _ _ (k4.α _ _ hα)
      have kD5 := at_ A' B' (.lst acc) h4
      obtain ⟨vs, e1, e2⟩ := E5.live.ob _ _ _ hα5 kD5
      have hl := e2.length
      refine ⟨vs, e1, by omega, ?_⟩
      obtain ⟨k6, l6⟩ := E5.live.put (o := .lst (vs ++ [v])) (m := .lst (acc ++ [d])) hα5 kD5 (fun z => nomatch z) fun k => ⟨_, upd_same, HasL.app (k.hasL e2) (.cons (k.has hv) .nil)⟩
      rw [setl _ _ _ _ h4] at k6 l6
      exact ⟨acc ++ [d], A', B', α5, by rw [List.length_append]; exact Nat.succ_le_succ ha, hI4, h4, hα5, l6, k3.trans (k4.trans (k5.trans k6))⟩
  · have e : j = ds.length := by omega
    subst e
    refine .inl ⟨stop, ?_⟩
    obtain ⟨vs, e1, e2⟩ := l2.ob _ _ _ hα kD
    obtain ⟨k6, l6, nl⟩ := l2.freeze (k := μ1.length)
    rw [setl _ _ _ _ hA] at k6 l6 nl
    have k7 := k2.trans k6
    exact q _ _ _ _ _ (done acc A B hA hI) (E1.ext k7 l6) (X1.trans k7) (.lst (.inl ⟨nl _ hα, .inl e1⟩) (k6.hasL e2))
theorem lc_SG0 {elt iter : Expr} {scope : Scope} {x : Str} {px : Pos} {i : Nat}
    (h : EvI X (.Name x px) iter ρ μ fun ds μ1 => ds.length ≤ sizeLine ∧ ∃ I : Nat → List DV → List MO → List MO → Prop, I 0 [] μ1 [] ∧
      (∀ j d acc A B, ds[j]? = some d → A.length = μ1.length → I j acc A B → ∀ s H C cl fp, Ev (blkX X s H scope C cl fp) elt (ρ.set i (some d)) (A ++ .lst acc :: B) fun y μ5 => ∃ A' B', μ5 = A' ++ .lst acc :: B' ∧ A'.length = μ1.length ∧ I (j + 1) (acc ++ [y]) A' B') ∧
      ∀ acc A B, A.length = μ1.length → I ds.length acc A B → R (.lst acc) (A ++ .dead :: B))
    (σ : L2.St) (H : Hp) (Q : VK) (q : tEv X ρ μ R σ H Q) : tLc (aI X (.Name x px) iter) (gName i) (aBT X scope []) (aB X scope elt) [i] σ H Q :=
  lc_SG i (EvI.mono h fun ds μ1 ⟨hz, I, i0, turn, done⟩ => ⟨hz, I, i0, fun j d acc A B h1 h2 h3 => ⟨fun ρ' μ' Rt σ H Q => ∃ α, En ⟨X.K, α, μ', H⟩ σ ρ' ∧ ∀ b α' μ'' H', Rt b μ'' → En ⟨X.K, α', μ'', H'⟩ σ ρ' → Kp ⟨X.K, α, μ', H⟩ ⟨X.K, α', μ'', H'⟩ → Q b H',
    fun s H C cl fp => ⟨fun pins s' σ H' Q' J ⟨α, E, q⟩ => pts_nil.run pins s' σ H' Q' J (q true α _ H' (turn j d acc A B h1 h2 h3) E E.live.refl)⟩, fun _ _ _ _ _ _ z => z⟩, done⟩) σ H Q q
/-! ### list(xs), a list that may change -/
def sListM : SA := fun ds μ R => ∃ xs, (ds = [.lst xs] ∨ ds = [.tup xs]) ∧ R (.mu μ.length) (μ ++ [.lst xs])
theorem list_SM : RaS X (fun xs H Q => ∃ p ys, xs = [.ref p] ∧ (SqL X.K H p ys ∨ SqT X.K H p ys) ∧ ∀ l, H l = none → Q (.ref l) (upd H l (.lst ys))) sListM := fun α μ H σ ρ vs ds R Q E hv h q => by
  obtain ⟨xs, hd, r⟩ := h
  have key : ∃ p ys, vs = [.ref p] ∧ (SqL X.K H p ys ∨ SqT X.K H p ys) ∧ HasL ⟨X.K, α, μ, H⟩ ys xs := by
    rcases hd with rfl | rfl
    · obtain ⟨v, rfl, hw⟩ := hasL1 hv
      obtain ⟨a, vs, rfl, s1, t1⟩ := sqL_of hw
      exact ⟨a, vs, rfl, .inl s1, t1⟩
    · obtain ⟨v, rfl, hw⟩ := hasL1 hv
      cases hw with
      | tup h1 h2 => exact ⟨_, _, rfl, .inr h1, h2⟩
  obtain ⟨p, ys, rfl, hs, hl⟩ := key
  refine ⟨p, ys, rfl, hs, fun l nl => ?_⟩
  obtain ⟨k, l', e⟩ := E.live.layM (o := .lst ys) (m := .lst xs) nl (fun _ k => ⟨ys, upd_same, k.hasL hl⟩)
  exact q _ _ _ _ _ r (E.ext k l') k (.mu e)
def oListM : List DV → List MO → RE
  | [.lst xs], μ => some (.mu μ.length, μ ++ [.lst xs])
  | [.tup xs], μ => some (.mu μ.length, μ ++ [.lst xs])
  | _, _ => none
theorem SE.listM (hg : Gl X "list") (hm : X.mg "list" = none) (ss : SAr X [a] fs) (he : starEach [a] X.env = (false, eval a X.env) :: starEach [] X.env := by rfl) : SE X (.Call (.Name "list" p) [a] [] pos) (dBlt oListM fs) :=
  SE.blt ss (S := sListM) (fun ds μ R h => by
    unfold oListM at h
    split at h
    · exact ⟨_, .inl rfl, h⟩
    · exact ⟨_, .inr rfl, h⟩
    · exact h.elim) fun ρ μ R k => Ev.callTy call_list_of list_SM hg hm PyProof.Rows.boot_list k (by decide) (by decide) he rfl
/-! ### ys = [list(x) for x in xs]: rows that may change -/
def rowsD : List DV → Option (List (List DV))
  | [] => some []
  | .lst xs :: r => (rowsD r).map (xs :: ·)
  | .tup xs :: r => (rowsD r).map (xs :: ·)
  | _ :: _ => none
theorem rowsD_len : ∀ {ds : List DV} {rs : List (List DV)}, rowsD ds = some rs → rs.length = ds.length
  | [], _, e => by cases e; rfl
  | .lst xs :: r, _, e => by
    obtain ⟨rs, e1, rfl⟩ := Option.map_eq_some_iff.mp (show (rowsD r).map (xs :: ·) = some _ from e)
    simp [rowsD_len e1]
  | .tup xs :: r, _, e => by
    obtain ⟨rs, e1, rfl⟩ := Option.map_eq_some_iff.mp (show (rowsD r).map (xs :: ·) = some _ from e)
    simp [rowsD_len e1]
  | .non :: _, _, e => by cases e
  | .bl _ :: _, _, e => by cases e
  | .int _ :: _, _, e => by cases e
  | .str _ :: _, _, e => by cases e
  | .dic _ :: _, _, e => by cases e
  | .exc _ _ :: _, _, e => by cases e
  | .mu _ :: _, _, e => by cases e
  | .rg _ _ :: _, _, e => by cases e
  | .fn _ :: _, _, e => by cases e
theorem rowsD_at : ∀ {ds : List DV} {rs : List (List DV)} {j : Nat} {d : DV}, rowsD ds = some rs → ds[j]? = some d → ∃ xs, rs[j]? = some xs ∧ (d = .lst xs ∨ d = .tup xs)
  | [], _, j, d, e, h => by simp at h
  | .lst xs :: r, _, j, d, e, h => by
    obtain ⟨rs, e1, rfl⟩ := Option.map_eq_some_iff.mp (show (rowsD r).map (xs :: ·) = some _ from e)
    cases j with
    | zero => simp at h; exact ⟨xs, rfl, .inl h.symm⟩
    | succ j => exact rowsD_at (j := j) e1 (by simpa using h)
  | .tup xs :: r, _, j, d, e, h => by
    obtain ⟨rs, e1, rfl⟩ := Option.map_eq_some_iff.mp (show (rowsD r).map (xs :: ·) = some _ from e)
    cases j with
    | zero => simp at h; exact ⟨xs, rfl, .inr h.symm⟩
    | succ j => exact rowsD_at (j := j) e1 (by simpa using h)
  | .non :: _, _, _, _, e, _ => by cases e
  | .bl _ :: _, _, _, _, e, _ => by cases e
  | .int _ :: _, _, _, _, e, _ => by cases e
  | .str _ :: _, _, _, _, e, _ => by cases e
  | .dic _ :: _, _, _, _, e, _ => by cases e
  | .exc _ _ :: _, _, _, _, e, _ => by cases e
  | .mu _ :: _, _, _, _, e, _ => by cases e
  | .rg _ _ :: _, _, _, _, e, _ => by cases e
  | .fn _ :: _, _, _, _, e, _ => by cases e
/-- the rows' places: behind the place of the list of them -/
def musL (n m : Nat) : List DV := (List.range m).map fun j => DV.mu (n + 1 + j)
def sRows (i j : Nat) (fi : DenA) : DenS := fun ρ μ => bnd (fi ρ μ) fun ds μ1 => match rowsD ds with
  | some rs => if ds.length ≤ 1000 ∧ j < ρ.length then some (.nx (ρ.set i (some (.lst (musL μ1.length rs.length)))) (μ1 ++ .dead :: rs.map MO.lst)) else none
  | none => none
theorem S1.rows {elt iter : Expr} {scope : Scope} {x y : Str} {px py spos : Pos} (i j : Nat) (hc : X.calm = true) (hN : X.N.Nodup) (hy : X.N[i]? = some y) (hyl : X.env.scope.names.lookup y = some .local)
    (hsw : swapsWith (.ListComp elt [⟨.Name x px, iter, [], 0⟩] scope pos) (some (.Name y py)) spos.line X.env = pure true) (hj : X.N[j]? = some x) (ok : BlkOk X.N X.env.scope scope [(x, j)])
    (hl : ∀ (s : Shared) (H : Hp) (C : Addr) (cl : List (Str × Addr)) (fp : List Addr), Loc (blkX X s H scope C cl fp).env.scope x ∧ ((blkX X s H scope C cl fp).fn x = true ∨ (blkX X s H scope C cl fp).env.scope.names.lookup x = some .local))
    (si : SI X (.Name x px) iter fi) (se : ∀ s H C cl fp, SE (blkX X s H scope C cl fp) elt (dBlt oListM (aCons (dVar j) aNil))) (hs : ∀ x, foldedSetIterable iter X.env x = pure x := by intro _; rfl) :
    S1 X (.Assign [.Name y py] (.ListComp elt [⟨.Name x px, iter, [], 0⟩] scope pos) spos) (sRows i j fi) := fun ρ μ R h => by
  obtain ⟨ds, μ1, e1, k⟩ := okS_bndA h
  split at k
  · rename_i rs hrs
    by_cases hcd : ds.length ≤ 1000 ∧ j < ρ.length
    · rw [if_pos hcd] at k
      have rl := rowsD_len hrs
      refine PSw (ps_setLc (own := [(x, j)]) (g := gName j) hc hN hy hyl hsw pi_a ok (fun s H C cl fp => pg_name hN hj (hl s H C cl fp).1 (hl s H C cl fp).2) (fun s H C cl fp => pts_aB s H C cl fp) (fun s H C cl fp => pe_aB s H C cl fp) hs)
        fun D σ H ⟨α, E, q⟩ => lc_SG0 (ρ := ρ) (μ := μ) (R := fun d μ1 => okS (some (.nx (ρ.set i (some d)) μ1)) R) ?_ σ H _ ⟨α, E, fun v d α1 μ1 H1 r E1 X1 hv => ?_⟩
      · refine si ρ μ _ ?_
        rw [e1]
        refine ⟨by rw [sizeLine_eq]; omega, fun j' acc A B => A = μ1 ∧ acc = (musL μ1.length rs.length).take j' ∧ B = (rs.map MO.lst).take j', ⟨rfl, rfl, rfl⟩, ?_, ?_⟩
        · rintro j' d acc A B hd hA ⟨rfl, rfl, rfl⟩ s H C cl fp
          obtain ⟨xs, hx, hdx⟩ := rowsD_at hrs hd
          have hj' : j' < rs.length := (List.getElem?_eq_some_iff.mp hx).1
          have hlen : (A ++ MO.lst ((musL A.length rs.length).take j') :: (rs.map MO.lst).take j').length = A.length + 1 + j' := by
            simp only [List.length_append, List.length_cons, List.length_take, List.length_map]
            omega
          have ev : dBlt oListM (aCons (dVar j) aNil) (ρ.set j (some d)) (A ++ MO.lst ((musL A.length rs.length).take j') :: (rs.map MO.lst).take j') = some (.mu (A.length + 1 + j'), (A ++ MO.lst ((musL A.length rs.length).take j') :: (rs.map MO.lst).take j') ++ [.lst xs]) := by
            have hv : (ρ.set j (some d))[j]? = some (some d) := List.getElem?_set_self hcd.2
            unfold dBlt aCons aNil dVar
            rw [hv]
            rcases hdx with rfl | rfl <;> (simp only [bnd_some, oListM]; rw [hlen])
          refine (se s H C cl fp).at ev ⟨A, (rs.map MO.lst).take (j' + 1), ?_, rfl, rfl, ?_, rfl⟩
          · rw [List.take_add_one, List.getElem?_map, hx]
            simp
          · rw [List.take_add_one]
            have : (musL A.length rs.length)[j']? = some (.mu (A.length + 1 + j')) := by
              unfold musL
              rw [List.getElem?_map, List.getElem?_range hj']
              rfl
            rw [this]
            rfl
        · rintro acc A B hA ⟨rfl, rfl, rfl⟩
          have t1 : (musL A.length rs.length).take ds.length = musL A.length rs.length := List.take_of_length_le (by unfold musL; simp; omega)
          have t2 : (rs.map MO.lst).take ds.length = rs.map MO.lst := List.take_of_length_le (by simp; omega)
          rw [t1, t2]
          exact k
      · exact q.1 _ _ _ _ _ r (E1.set i hv) X1
    · rw [if_neg hcd] at k
      exact k.elim
  · exact k.elim
/-! ### rows in a slot are told to stay as they are -/
def thawL : List MO → List DV → Option (List DV × List MO)
  | μ, [] => some ([], μ)
  | μ, .mu k :: ds => match μ[k]? with
    | some (.lst xs) => (thawL (μ.set k .dead) ds).map fun q => (.lst xs :: q.1, q.2)
    | _ => none
  | μ, d :: ds => (thawL μ ds).map fun q => (d :: q.1, q.2)
theorem thaw_ok {K : PySem.W.Frag} {α : List Addr} {H : Hp} : ∀ {ds : List DV} {vs : List V} {μ : List MO} {ds' : List DV} {μ' : List MO}, Live ⟨K, α, μ, H⟩ → HasL ⟨K, α, μ, H⟩ vs ds → thawL μ ds = some (ds', μ') →
    Kp ⟨K, α, μ, H⟩ ⟨K, α, μ', H⟩ ∧ Live ⟨K, α, μ', H⟩ ∧ HasL ⟨K, α, μ', H⟩ vs ds'
  | [], vs, μ, ds', μ', l, h, e => by
    cases h
    cases e
    exact ⟨l.refl, l, .nil⟩
  | d :: ds, vs, μ, ds', μ', l, h, e => by
    cases h with
    | @cons v _ vs _ h1 h2 =>
    have other : (thawL μ ds).map (fun q => (d :: q.1, q.2)) = some (ds', μ') → Kp ⟨K, α, μ, H⟩ ⟨K, α, μ', H⟩ ∧ Live ⟨K, α, μ', H⟩ ∧ HasL ⟨K, α, μ', H⟩ (v :: vs) ds' := fun e => by
      obtain ⟨⟨q1, q2⟩, e1, e2⟩ := Option.map_eq_some_iff.mp e
      cases e2
      obtain ⟨kp, l', hl⟩ := thaw_ok l h2 e1
      exact ⟨kp, l', .cons (kp.has h1) hl⟩
    cases d with
    | mu k =>
      unfold thawL at e
      split at e
      · rename_i xs hk
        obtain ⟨⟨q1, q2⟩, e1, e2⟩ := Option.map_eq_some_iff.mp e
        cases e2
        cases h1 with
        | @mu _ a ha =>
          obtain ⟨kp, l1, nl⟩ := l.freeze (k := k)
          obtain ⟨us, z1, z2⟩ := l.ob k a _ ha hk
          obtain ⟨kp2, l2, hl⟩ := thaw_ok l1 (kp.hasL h2) e1
          exact ⟨kp.trans kp2, l2, .cons (kp2.has (.lst (.inl ⟨nl _ ha, .inl z1⟩) (kp.hasL z2))) hl⟩
      · cases e
    | non => exact other e
    | bl _ => exact other e
    | int _ => exact other e
    | str _ => exact other e
    | tup _ => exact other e
    | lst _ => exact other e
    | dic _ => exact other e
    | exc _ _ => exact other e
    | rg _ _ => exact other e
    | fn _ => exact other e
def sThaw (i : Nat) (g : DenS) : DenS := fun ρ μ => match ρ[i]? with
  | some (some (.lst ds)) => match thawL μ ds with
    | some (ds', μ') => g (ρ.set i (some (.lst ds'))) μ'
    | none => none
  | _ => none
theorem SS.thaw {ss : List Stmt} {g : DenS} (i : Nat) (h : SS X ss g) : SS X ss (sThaw i g) := fun ρ μ R k => by
  unfold sThaw at k
  split at k
  · rename_i ds hi
    split at k
    · rename_i ds' μ' ht
      refine PSsw (h _ _ R k) fun D σ H ⟨α, E, q⟩ => ?_
      obtain ⟨v, e1, e2⟩ := E.at_ i _ hi
      cases e2 with
      | @lst p vs _ r t =>
        obtain ⟨kp, l, hl⟩ := thaw_ok E.live t ht
        have r' : (¬ Wd.lv ⟨X.K, α, μ', H⟩ p ∧ Rd H p (.lst vs)) ∨ WrL X.K p vs := by
          rcases r with ⟨n, r⟩ | r
          · refine .inl ⟨fun z => n (kp.lv _ (by rcases r with r | ⟨o, r⟩ <;> (rw [r]; exact fun z => nomatch z)) z), r⟩
          · exact .inr r
        have E2 := (E.ext kp l).set i (.lst r' hl)
        have es : ∀ u, σ[i]? = some (some u) → σ.set i (some u) = σ := fun u e1 => by
          obtain ⟨hl, he⟩ := List.getElem?_eq_some_iff.mp e1
          apply List.ext_getElem?
          intro j
          by_cases hj : j = i
          · subst hj
            rw [List.getElem?_set_self hl]
            exact e1.symm
          · rw [List.getElem?_set_ne (Ne.symm hj)]
        rw [es _ e1] at E2
        exact ⟨α, E2, fun ρ' σ' α' μ' H' r E' k' => q.1 ρ' σ' α' μ' H' r E' (kp.trans k'), fun v d α' μ' H' r l' k' => q.2.1 v d α' μ' H' r l' (kp.trans k'),
          fun ρ' σ' α' μ' H' r E' k' => q.2.2.1 ρ' σ' α' μ' H' r E' (kp.trans k'), fun ρ' σ' α' μ' H' r E' k' => q.2.2.2 ρ' σ' α' μ' H' r E' (kp.trans k')⟩
    · exact k.elim
  · exact k.elim
end
end Eg

namespace Eg
open PySem PySem.Spec PyProof.Rows L2
open PySem.Sem (wp)
/-! ### zip of a list and a tuple: sequences of either kind (true: a list) -/
def sqk : Bool → Heap → Addr → Array Value → Prop
  | true => fun h a xs => h.IsList a xs
  | false => fun h a xs => h.IsTuple a xs
def itk : Bool → Heap → Addr → Addr → Nat → Prop
  | true => fun h a l i => h.IsListIter a l i
  | false => fun h a l i => h.IsTupleIter a l i
def itName : Bool → String
  | true => "list_iterator"
  | false => "tuple_iterator"
theorem sqk.ext {b : Bool} {h h' : Heap} {a c : Addr} {xs : Array Value} (x : sqk b h a xs) (hs : Heap.ExtBut c h h') (n : a ≠ c) : sqk b h' a xs := by
  cases b
  · exact Heap.IsTuple.extBut x hs n
  · exact Heap.IsList.extBut x hs n
theorem itk.ext {b : Bool} {h h' : Heap} {a c l : Addr} {i : Nat} (x : itk b h a l i) (hs : Heap.ExtBut c h h') (n : a ≠ c) : itk b h' a l i := by
  cases b
  · exact Heap.IsTupleIter.extBut x hs n
  · exact Heap.IsListIter.extBut x hs n
theorem itk.to {b : Bool} {h h' : Heap} {a l : Addr} {i : Nat} (x : itk b h a l i) (e : ∀ o, h.get? a = some o → h'.get? a = some o) : itk b h' a l i := by
  cases b
  · exact Heap.IsTupleIter.at x e
  · exact Heap.IsListIter.at x e
theorem itk.obj {b : Bool} {h : Heap} {a l : Addr} {i : Nat} (x : itk b h a l i) : ∃ o, h.get? a = some o ∧ o.cls = .type (itName b) ∧ o.data = .fields #[.ref l, rawInt i] := by
  cases b
  · exact x
  · exact x
section
variable {prog : Program} {w : World} {A : Around} {E : Value → Shared → Prop} {s : Shared}
theorem nextK {b : Bool} {it l : Addr} {i : Nat} {xs : Array Value} {x : Value} {Q : Value → Shared → Prop} (hi : itk b s.heap it l i) (hl : sqk b s.heap l xs) (hx : xs[i]? = some x)
    (hQ : ∀ h', itk b h' it l (i + 1) → Heap.SameBut it s.heap h' → Q x { s with heap := h' }) : wpAny (model prog w) A (Builtin.SmallTypes.nextOf (.ref it)) Q E s := by
  cases b
  · exact RZ.nextOf_tuple_item hi hl hx hQ
  · exact wpAny_nextOf_list_item hi hl hx hQ
theorem lastK {b : Bool} {it l : Addr} {i : Nat} {xs : Array Value} {Q : Value → Shared → Prop} (hh : A.handled = none) (hi : itk b s.heap it l i) (hl : sqk b s.heap l xs) (hx : xs[i]? = none)
    (hE : ∀ h' e, Heap.ExtBut it s.heap h' → (∃ o, h'.get? e = some o ∧ o.cls = .type "StopIteration") → E (.ref e) { s with heap := h' }) : wpAny (model prog w) A (Builtin.SmallTypes.nextOf (.ref it)) Q E s := by
  cases b
  · exact RZ.nextOf_tuple_end hh hi hl hx hE
  · exact wpAny_nextOf_list_end hh hi hl hx hE
theorem iterK {b : Bool} {l : Addr} {xs : Array Value} {Q : Value → Shared → Prop} (hl : sqk b s.heap l xs)
    (hQ : Q (.ref s.heap.objs.size) { s with heap := s.heap.push { cls := .type (itName b), data := .fields #[.ref l, .int 0 0] } }) : wpAny (model prog w) A (pyIter (.ref l)) Q E s := by
  cases b
  · exact wpAny_pyIter_tuple hl hQ
  · exact wpAny_pyIter_list hl hQ

variable {z TI TO i1 i2 l1 l2 : Addr} {k1 k2 : Nat} {xs ys : Array Value} {b1 b2 : Bool}
theorem zipK_item {x y a b : Value} {Q : Value → Shared → Prop} (D : ZipApart z TI TO i1 i2 l1 l2)
    (hz : IsZip s.heap z TI TO .none) (hTI : IsPair s.heap TI (.ref i1) (.ref i2)) (hTO : IsPair s.heap TO a b)
    (g1 : itk b1 s.heap i1 l1 k1) (g2 : itk b2 s.heap i2 l2 k2) (f1 : sqk b1 s.heap l1 xs) (f2 : sqk b2 s.heap l2 ys) (hx : xs[k1]? = some x) (hy : ys[k2]? = some y)
    (hQ : ∀ h', IsZip h' z TI TO (rawInt s.heap.objs.size) → IsPair h' TO x y → itk b1 h' i1 l1 (k1 + 1) → itk b2 h' i2 l2 (k2 + 1) → IsPair h' s.heap.objs.size x y → h'.objs.size = s.heap.objs.size + 1 →
      (∀ c o, c ≠ z → c ≠ TO → c ≠ i1 → c ≠ i2 → s.heap.get? c = some o → h'.get? c = some o) → Q (.ref s.heap.objs.size) { s with heap := h' }) :
    wpAny (model prog w) A (Builtin.«zip.__next__» ⟨[.ref z], []⟩) (fun fin s' => ∃ v, fin = .done (.ret v) ∧ Q v s') E s := by
  show wpAny _ _ (field (.ref z) 2 >>= _) _ _ _
  refine wpAny_bind (wpAny_field hz rfl (x := .bool false) rfl ?_)
  show wpAny _ _ (field (.ref z) 3 >>= _) _ _ _
  refine wpAny_bind (wpAny_field hz rfl (x := .ref TI) rfl (wpAny_bind (wpAny_seqItems hTI rfl ?_)))
  show wpAny _ _ (Builtin.SmallTypes.ownedTupleIsFree (.ref z) >>= _) _ _ _
  refine wpAny_bind ?_
  unfold Builtin.SmallTypes.ownedTupleIsFree
  refine wpAny_bind (wpAny_field hz rfl (x := .none) rfl (wpAny_pure ?_))
  simp only [if_true]
  refine wpAny_bind (wpAny_rule (wpAny_bind (wpAny_field hz rfl (x := .ref TO) rfl ?_)))
  refine wpAny_bind (wpAny_setField_rec hz (by simp) fun ha za sa => ?_)
  replace za : IsZip ha z TI TO .ellipsis := za
  refine wpAny_bind ?_
  simp only [List.zipIdx_cons, List.zipIdx_nil, List.forIn_cons, List.forIn_nil]
  refine wpAny_bind (wpAny_bind (wpAny_onRaise ?_))
  show wpAny _ _ (Builtin.SmallTypes.nextOf (.ref i1) >>= _) _ _ _
  refine wpAny_bind (nextK (g1.ext sa.extBut D.i1z) (f1.ext sa.extBut D.l1z) hx fun hb g1b sb => wpAny_pure ?_)
  have Tb : IsPair hb TO a b := sb.extBut _ _ D.TOi1 (sa.extBut _ _ D.TOz hTO)
  refine wpAny_bind (wpAny_seqItems Tb rfl (wpAny_bind (wpAny_updateSeq_pair Tb fun hc Tc sc => ?_)))
  replace Tc : IsPair hc TO x b := Tc
  refine wpAny_bind (wpAny_letGo (wpAny_pure (wpAny_bind (wpAny_bind (wpAny_onRaise ?_)))))
  show wpAny _ _ (Builtin.SmallTypes.nextOf (.ref i2) >>= _) _ _ _
  refine wpAny_bind (nextK (((g2.ext sa.extBut D.i2z).ext sb.extBut D.i12.symm).ext sc.extBut D.TOi2.symm)
    (((f2.ext sa.extBut D.l2z).ext sb.extBut D.l2i1).ext sc.extBut D.l2TO) hy fun hd g2d sd => wpAny_pure ?_)
  have Td : IsPair hd TO x b := sd.extBut _ _ D.TOi2 Tc
  refine wpAny_bind (wpAny_seqItems Td rfl (wpAny_bind (wpAny_updateSeq_pair Td fun he Te se => ?_)))
  replace Te : IsPair he TO x y := Te
  refine wpAny_bind (wpAny_letGo (wpAny_pure (wpAny_pure ?_)))
  refine wpAny_bind (wpAny_seqItems Te rfl (wpAny_bind (wpAny_newTuple ?_)))
  have size : he.objs.size = s.heap.objs.size := by rw [se.1, sd.1, sc.1, sb.1, sa.1]
  have ze : IsZip he z TI TO .ellipsis := se.extBut _ _ D.TOz.symm (sd.extBut _ _ D.i2z.symm (sc.extBut _ _ D.TOz.symm (sb.extBut _ _ D.i1z.symm za)))
  have old : ∀ c o, c ≠ z → c ≠ TO → c ≠ i1 → c ≠ i2 → s.heap.get? c = some o → he.get? c = some o := fun c o c1 c2 c3 c4 e =>
    se.extBut _ _ c2 (sd.extBut _ _ c4 (sc.extBut _ _ c2 (sb.extBut _ _ c3 (sa.extBut _ _ c1 e))))
  have g1e : itk b1 he i1 l1 (k1 + 1) := ((g1b.ext sc.extBut D.TOi1.symm).ext sd.extBut D.i12).ext se.extBut D.TOi1.symm
  have g2e : itk b2 he i2 l2 (k2 + 1) := g2d.ext se.extBut D.TOi2.symm
  have zlt : z < he.objs.size := Heap.lt_size ze
  show wpAny _ _ (Builtin.SmallTypes.ownedTupleHandOut (.ref z) (.ref he.objs.size) >>= _) _ _ _
  refine wpAny_bind ?_
  unfold Builtin.SmallTypes.ownedTupleHandOut
  have zf : IsZip (he.push { cls := .type "tuple", data := .seq #[x, y] }) z TI TO .ellipsis := Heap.get?_push_of_some _ ze
  refine wpAny_bind (wpAny_setField_rec zf (by simp) fun hg zg sg => ?_)
  replace zg : IsZip hg z TI TO (rawInt he.objs.size) := zg
  refine wpAny_setField_rec zg (by simp) fun hh zh sh => ?_
  replace zh : IsZip hh z TI TO (rawInt he.objs.size) := zh
  have up : ∀ c o, c ≠ z → he.get? c = some o → hh.get? c = some o := fun c o c1 e => sh.extBut _ _ c1 (sg.extBut _ _ c1 (Heap.get?_push_of_some _ e))
  have Th : IsPair hh he.objs.size x y := sh.extBut _ _ (Nat.ne_of_gt zlt) (sg.extBut _ _ (Nat.ne_of_gt zlt) (Heap.get?_push_size _ rfl))
  have s8 : hh.objs.size = he.objs.size + 1 := by rw [sh.1, sg.1, Heap.size_push]
  rw [size] at zh Th s8
  refine wpAny_pure ⟨_, rfl, ?_⟩
  show Q (.ref he.objs.size) _
  rw [size]
  exact hQ hh zh (up _ _ D.TOz Te) (g1e.to fun o e => up _ o D.i1z e) (g2e.to fun o e => up _ o D.i2z e) Th s8 fun c o c1 c2 c3 c4 e => up c o c1 (old c o c1 c2 c3 c4 e)
theorem zipK_end {a b : Value} {Q : Fin → Shared → Prop} (hn : A.handled = none) (D : ZipApart z TI TO i1 i2 l1 l2)
    (hz : IsZip s.heap z TI TO .none) (hTI : IsPair s.heap TI (.ref i1) (.ref i2)) (hTO : IsPair s.heap TO a b)
    (g1 : itk b1 s.heap i1 l1 k1) (g2 : itk b2 s.heap i2 l2 k2) (f1 : sqk b1 s.heap l1 xs) (f2 : sqk b2 s.heap l2 ys) (hend : xs[k1]? = none ∨ ys[k2]? = none)
    (hE : ∀ h' e, (∀ c o, c ≠ z → c ≠ TO → c ≠ i1 → c ≠ i2 → s.heap.get? c = some o → h'.get? c = some o) → (∃ o, h'.get? e = some o ∧ o.cls = .type "StopIteration") → E (.ref e) { s with heap := h' }) :
    wpAny (model prog w) A (Builtin.«zip.__next__» ⟨[.ref z], []⟩) Q E s := by
  have stop : ∀ {g h : Heap} {e : Addr}, IsZip g z TI TO .ellipsis → (∃ o, g.get? e = some o ∧ o.cls = .type "StopIteration") → Heap.SameBut z g h → e ≠ z ∧ ∃ o, h.get? e = some o ∧ o.cls = .type "StopIteration" := by
    intro g h e hg ⟨o, ho, hc⟩ sb
    have n : e ≠ z := fun q => by subst q; rw [hg] at ho; cases ho; simp at hc
    exact ⟨n, o, sb.extBut _ _ n ho, hc⟩
  show wpAny _ _ (field (.ref z) 2 >>= _) _ _ _
  refine wpAny_bind (wpAny_field hz rfl (x := .bool false) rfl ?_)
  show wpAny _ _ (field (.ref z) 3 >>= _) _ _ _
  refine wpAny_bind (wpAny_field hz rfl (x := .ref TI) rfl (wpAny_bind (wpAny_seqItems hTI rfl ?_)))
  show wpAny _ _ (Builtin.SmallTypes.ownedTupleIsFree (.ref z) >>= _) _ _ _
  refine wpAny_bind ?_
  unfold Builtin.SmallTypes.ownedTupleIsFree
  refine wpAny_bind (wpAny_field hz rfl (x := .none) rfl (wpAny_pure ?_))
  simp only [if_true]
  refine wpAny_bind (wpAny_rule (wpAny_bind (wpAny_field hz rfl (x := .ref TO) rfl ?_)))
  refine wpAny_bind (wpAny_setField_rec hz (by simp) fun ha za sa => ?_)
  replace za : IsZip ha z TI TO .ellipsis := za
  refine wpAny_bind ?_
  simp only [List.zipIdx_cons, List.zipIdx_nil, List.forIn_cons, List.forIn_nil]
  refine wpAny_bind (wpAny_bind (wpAny_onRaise ?_))
  show wpAny _ _ (Builtin.SmallTypes.nextOf (.ref i1) >>= _) _ _ _
  cases hx : xs[k1]? with
  | none =>
    refine wpAny_bind (lastK hn (g1.ext sa.extBut D.i1z) (f1.ext sa.extBut D.l1z) hx fun hb e sb st => ?_)
    have zb : IsZip hb z TI TO .ellipsis := sb _ _ D.i1z.symm za
    refine wpAny_setField_rec zb (by simp) fun hc _ sc => hE hc e (fun c o c1 _ c3 _ q => sc.extBut _ _ c1 (sb _ _ c3 (sa.extBut _ _ c1 q))) (stop zb st sc).2
  | some x =>
    have hy : ys[k2]? = none := by
      rcases hend with h | h
      · rw [hx] at h; cases h
      · exact h
    refine wpAny_bind (nextK (g1.ext sa.extBut D.i1z) (f1.ext sa.extBut D.l1z) hx fun hb g1b sb => wpAny_pure ?_)
    have Tb : IsPair hb TO a b := sb.extBut _ _ D.TOi1 (sa.extBut _ _ D.TOz hTO)
    refine wpAny_bind (wpAny_seqItems Tb rfl (wpAny_bind (wpAny_updateSeq_pair Tb fun hc Tc sc => ?_)))
    refine wpAny_bind (wpAny_letGo (wpAny_pure (wpAny_bind (wpAny_bind (wpAny_onRaise ?_)))))
    show wpAny _ _ (Builtin.SmallTypes.nextOf (.ref i2) >>= _) _ _ _
    refine wpAny_bind (lastK hn (((g2.ext sa.extBut D.i2z).ext sb.extBut D.i12.symm).ext sc.extBut D.TOi2.symm)
      (((f2.ext sa.extBut D.l2z).ext sb.extBut D.l2i1).ext sc.extBut D.l2TO) hy fun hd e sd st => ?_)
    have zd : IsZip hd z TI TO .ellipsis := sd _ _ D.i2z.symm (sc.extBut _ _ D.TOz.symm (sb.extBut _ _ D.i1z.symm (show IsZip ha z TI TO .ellipsis from za)))
    refine wpAny_setField_rec zd (by simp) fun he _ se => hE he e (fun c o c1 c2 c3 c4 q => se.extBut _ _ c1 (sd _ _ c4 (sc.extBut _ _ c2 (sb.extBut _ _ c3 (sa.extBut _ _ c1 q))))) (stop zd st se).2
theorem nextZ_item {x y a b : Value} {Q : Option Value → Shared → Prop} (D : ZipApart z TI TO i1 i2 l1 l2)
    (hz : IsZip s.heap z TI TO .none) (hTI : IsPair s.heap TI (.ref i1) (.ref i2)) (hTO : IsPair s.heap TO a b)
    (g1 : itk b1 s.heap i1 l1 k1) (g2 : itk b2 s.heap i2 l2 k2) (f1 : sqk b1 s.heap l1 xs) (f2 : sqk b2 s.heap l2 ys) (hx : xs[k1]? = some x) (hy : ys[k2]? = some y)
    (hQ : ∀ h', IsZip h' z TI TO (rawInt s.heap.objs.size) → IsPair h' TO x y → itk b1 h' i1 l1 (k1 + 1) → itk b2 h' i2 l2 (k2 + 1) → IsPair h' s.heap.objs.size x y → h'.objs.size = s.heap.objs.size + 1 →
      (∀ c o, c ≠ z → c ≠ TO → c ≠ i1 → c ≠ i2 → s.heap.get? c = some o → h'.get? c = some o) → Q (some (.ref s.heap.objs.size)) { s with heap := h' }) :
    wpAny (model prog w) A (pyNext (.ref z)) Q E s := by
  have hT : s.TypeIs (.ref z) "zip" := ⟨_, hz, rfl⟩
  unfold pyNext
  exact wpAny_bind (wpAny_attempt (wpAny_callSpecial?_slot (name := Str.ofString "__next__") hT F.slot_zip_next (wpAny_call_entry F.slot_zip_next hT F.entry_zip_next
    (zipK_item D hz hTI hTO g1 g2 f1 f2 hx hy fun h' q1 q2 q3 q4 q5 q6 q7 => wpAny_pure (hQ h' q1 q2 q3 q4 q5 q6 q7)) (F.args_zip_next_1 _))))
theorem nextZ_end {a b : Value} {Q : Option Value → Shared → Prop} (hn : A.handled = none) (D : ZipApart z TI TO i1 i2 l1 l2)
    (hz : IsZip s.heap z TI TO .none) (hTI : IsPair s.heap TI (.ref i1) (.ref i2)) (hTO : IsPair s.heap TO a b)
    (g1 : itk b1 s.heap i1 l1 k1) (g2 : itk b2 s.heap i2 l2 k2) (f1 : sqk b1 s.heap l1 xs) (f2 : sqk b2 s.heap l2 ys) (hend : xs[k1]? = none ∨ ys[k2]? = none)
    (hQ : ∀ h', (∀ c o, c ≠ z → c ≠ TO → c ≠ i1 → c ≠ i2 → s.heap.get? c = some o → h'.get? c = some o) → Q none { s with heap := h' }) : wpAny (model prog w) A (pyNext (.ref z)) Q E s := by
  have hT : s.TypeIs (.ref z) "zip" := ⟨_, hz, rfl⟩
  unfold pyNext
  refine wpAny_bind (wpAny_attempt (wpAny_callSpecial?_slot (name := Str.ofString "__next__") hT F.slot_zip_next
    (wpAny_call_entry F.slot_zip_next hT F.entry_zip_next (zipK_end hn D hz hTI hTO g1 g2 f1 f2 hend fun h' e k st => ?_) (F.args_zip_next_1 _))))
  exact wpAny_bind (wpAny_isInstance (T := "StopIteration") (b := true) st isSubtype_stop (wpAny_pure (hQ _ k)))
end
/-! making one -/
abbrev zH1 (b : Bool) (h : Heap) (l : Addr) : Heap := h.push { cls := .type (itName b), data := .fields #[.ref l, .int 0 0] }
abbrev zH2 (b c : Bool) (h : Heap) (l m : Addr) : Heap := zH1 c (zH1 b h l) m
abbrev zH3 (b c : Bool) (h : Heap) (l m : Addr) : Heap := (zH2 b c h l m).push { cls := .type "tuple", data := .seq #[.ref h.objs.size, .ref (zH1 b h l).objs.size] }
abbrev zH4 (b c : Bool) (h : Heap) (l m : Addr) : Heap := (zH3 b c h l m).push { cls := .type "tuple", data := .seq #[.none, .none] }
abbrev zH5 (b c : Bool) (h : Heap) (l m : Addr) : Heap := (zH4 b c h l m).push { cls := .type "zip", data := .fields #[.none, .bool false, .bool false, .ref (zH2 b c h l m).objs.size, .ref (zH3 b c h l m).objs.size] }
theorem sqk.push {b : Bool} {h : Heap} {a : Addr} {xs : Array Value} (x : sqk b h a xs) (o : Obj) : sqk b (h.push o) a xs := by
  cases b
  · exact Heap.IsTuple.push x o
  · exact Heap.IsList.push x o
theorem meets_zipK (b c : Bool) (l m : Addr) (xs ys : Array Value) :
    Meets (Builtin.«zip.__new__» ⟨[.type "zip", .ref l, .ref m], []⟩) (fun _ R s => sqk b s.heap l xs ∧ sqk c s.heap m ys ∧
      R (.ok (.ret (.ref (zH4 b c s.heap l m).objs.size))) { s with heap := zH5 b c s.heap l m }) :=
  .of_wp fun prog w A R s h => by
    obtain ⟨hp, g, d, tk, os⟩ := s; obtain ⟨f1, f2, h⟩ := h
    have hsub := sub_zip
    have F1 : sqk b (Shared.heap ⟨hp, g, d, tk, os⟩) l xs := f1
    have F2 : sqk c (Shared.heap ⟨hp.push { cls := .type (itName b), data := .fields #[.ref l, .int 0 0] }, g, d, tk, os⟩) m ys := sqk.push f2 _
    wp_walk using iterK F1, iterK F2
    exact ⟨_, rfl, h⟩
section
variable {prog : Program} {w : World} {A : Around} {E : Value → Shared → Prop} {s : Shared}
theorem call_zipK {b c : Bool} {l m : Addr} {xs ys : Array Value} {Q : Value → Shared → Prop} (f1 : sqk b s.heap l xs) (f2 : sqk c s.heap m ys)
    (h : ∀ h', IsZip h' (s.heap.objs.size + 4) (s.heap.objs.size + 2) (s.heap.objs.size + 3) .none → IsPair h' (s.heap.objs.size + 2) (.ref s.heap.objs.size) (.ref (s.heap.objs.size + 1)) →
      IsPair h' (s.heap.objs.size + 3) .none .none → itk b h' s.heap.objs.size l 0 → itk c h' (s.heap.objs.size + 1) m 0 →
      (∀ a o, s.heap.get? a = some o → h'.get? a = some o) → Q (.ref (s.heap.objs.size + 4)) { s with heap := h' }) :
    wpAny (model prog w) A (call (.type "zip") [.ref l, .ref m]) Q E s := by
  refine callType_new F.called_zip (by decide) (F.typeCall_zip_2 _ _) (F.newCall_zip_2 _ _) (fun obj => F.args_object_init_3 obj _ _) F.entry_zip_new (meets_zipK b c l m xs ys) ⟨f1, f2, ?_⟩
  have z1 : (zH1 b s.heap l).objs.size = s.heap.objs.size + 1 := Heap.size_push ..
  have z2 : (zH2 b c s.heap l m).objs.size = s.heap.objs.size + 2 := by rw [Heap.size_push, z1]
  have z3 : (zH3 b c s.heap l m).objs.size = s.heap.objs.size + 3 := by rw [Heap.size_push, z2]
  have z4 : (zH4 b c s.heap l m).objs.size = s.heap.objs.size + 4 := by rw [Heap.size_push, z3]
  have p5 : ∀ {a o}, (zH4 b c s.heap l m).get? a = some o → (zH5 b c s.heap l m).get? a = some o := fun e => Heap.get?_push_of_some _ e
  have p4 : ∀ {a o}, (zH3 b c s.heap l m).get? a = some o → (zH5 b c s.heap l m).get? a = some o := fun e => p5 (Heap.get?_push_of_some _ e)
  have p3 : ∀ {a o}, (zH2 b c s.heap l m).get? a = some o → (zH5 b c s.heap l m).get? a = some o := fun e => p4 (Heap.get?_push_of_some _ e)
  have p2 : ∀ {a o}, (zH1 b s.heap l).get? a = some o → (zH5 b c s.heap l m).get? a = some o := fun e => p3 (Heap.get?_push_of_some _ e)
  have p1 : ∀ {a o}, s.heap.get? a = some o → (zH5 b c s.heap l m).get? a = some o := fun e => p2 (Heap.get?_push_of_some _ e)
  have q5 : (zH5 b c s.heap l m).get? (zH4 b c s.heap l m).objs.size = some _ := Heap.get?_push_size _ rfl
  have q4 : (zH5 b c s.heap l m).get? (zH3 b c s.heap l m).objs.size = some _ := p5 (Heap.get?_push_size _ rfl)
  have q3 : (zH5 b c s.heap l m).get? (zH2 b c s.heap l m).objs.size = some _ := p4 (Heap.get?_push_size _ rfl)
  have q2 : (zH5 b c s.heap l m).get? (zH1 b s.heap l).objs.size = some _ := p3 (Heap.get?_push_size _ rfl)
  have q1 : (zH5 b c s.heap l m).get? s.heap.objs.size = some _ := p2 (Heap.get?_push_size _ rfl)
  show _ ∧ _
  rw [z2, z3, z4] at q5
  rw [z1, z2] at q3
  rw [z3] at q4
  rw [z1] at q2
  rw [z4]
  refine ⟨⟨_, q5, rfl⟩, h _ q5 q3 q4 ?_ ?_ fun _ _ e => p1 e⟩
  · cases b <;> exact ⟨_, q1, rfl, rfl⟩
  · cases c <;> exact ⟨_, q2, rfl, rfl⟩
end
/-! the walked thing -/
def sqv : Bool → PySem.W.Frag → Hp → Addr → List V → Prop
  | true => SqL
  | false => SqT
theorem sqv.is {X : Cx} {pins : List (Addr × Obj)} {σ : L2.St} {H : Hp} {s : Shared} (I : Inv X pins σ H s) {b : Bool} {a : Addr} {xs : List V} (h : sqv b X.K H a xs) :
    ∃ its, Vals xs its ∧ sqk b s.heap a its.toArray ∧ a < s.heap.objs.size := by
  cases b
  · obtain ⟨its, rv, p, _⟩ := I.tuple h
    obtain ⟨o, ho, _⟩ := id p
    exact ⟨its, rv, p, Heap.lt_size ho⟩
  · obtain ⟨its, rv, p, _⟩ := I.list h
    exact ⟨its, rv, p.isList, p.lt⟩
theorem sqv.inj {X : Cx} {pins : List (Addr × Obj)} {σ : L2.St} {H : Hp} {s : Shared} (I : Inv X pins σ H s) {b : Bool} {a : Addr} {xs ys : List V} (h : sqv b X.K H a xs) (k : sqv b X.K H a ys) : xs = ys := by
  cases b
  · exact I.tuple_inj h k
  · exact I.list_inj h k
def ItzK (b c : Bool) (K : PySem.W.Frag) (l m : Addr) : It :=
  ⟨fun i H => ∃ (xs ys : List V) (x y : V), sqv b K H l xs ∧ sqv c K H m ys ∧ xs[i]? = some x ∧ ys[i]? = some y,
    fun i H v H' => ∃ T x y, v = .ref T ∧ H T = none ∧ H' = upd H T (.tup [x, y]) ∧ (∀ xs, sqv b K H l xs → xs[i]? = some x) ∧ ∀ ys, sqv c K H m ys → ys[i]? = some y,
    fun i H => ∃ xs ys : List V, sqv b K H l xs ∧ sqv c K H m ys ∧ (xs.length ≤ i ∨ ys.length ≤ i)⟩
theorem five {P : Addr → Prop} {a b c d e : Addr} (h1 : P a) (h2 : P b) (h3 : P c) (h4 : P d) (h5 : P e) : ∀ x ∈ [a, b, c, d, e], P x := by
  intro x hx
  simp only [List.mem_cons, List.not_mem_nil, or_false] at hx
  rcases hx with q | q | q | q | q <;> (rw [q]; assumption)
theorem turn_zipK {P : Program} {w : World} {K : PySem.W.Frag} {elts : List Expr} {kk : Nat} {tpos : Pos} {b c : Bool} {l m z TI TO i1 i2 : Addr} (D : ZipApart z TI TO i1 i2 l m) :
    Turn P w K (.Tuple elts kk tpos) (ItzK b c K l m) [z, TI, TO, i1, i2] z (fun i h => IsZip h z TI TO .none ∧ IsPair h TI (.ref i1) (.ref i2) ∧ (∃ x y, IsPair h TO x y) ∧ itk b h i1 l i ∧ itk c h i2 m i) where
  mem := by simp
  obj := fun i h st => by
    obtain ⟨hz, hTI, ⟨x, y, hTO⟩, g1, g2⟩ := st
    obtain ⟨o1, e1, _, d1⟩ := g1.obj
    obtain ⟨o2, e2, _, d2⟩ := g2.obj
    exact five ⟨_, hz, fun v q => nomatch q⟩ ⟨_, hTI, fun v q => nomatch q⟩ ⟨_, hTO, fun v q => nomatch q⟩ ⟨o1, e1, fun v q => by rw [d1] at q; cases q⟩ ⟨o2, e2, fun v q => by rw [d2] at q; cases q⟩
  keep := fun i h h' st k => by
    obtain ⟨hz, hTI, ⟨x, y, hTO⟩, h1, h2⟩ := st
    exact ⟨k z (by simp) _ hz, k TI (by simp) _ hTI, ⟨x, y, k TO (by simp) _ hTO⟩, h1.to fun o q => k i1 (by simp) o q, h2.to fun o q => k i2 (by simp) o q⟩
  item := by
    intro X hP hw hK hc i pins s σ H E I hf st hg
    subst hP hw hK
    obtain ⟨hz, hTI, ⟨x0, y0, hTO⟩, h1, h2⟩ := st
    obtain ⟨xs, ys, x, y, hqx, hqy, hx, hy⟩ := hg
    obtain ⟨its, rv, p, _⟩ := hqx.is I
    obtain ⟨its2, rv2, p2, _⟩ := hqy.is I
    obtain ⟨u, hu, ru⟩ := rv.get hx
    obtain ⟨u2, hu2, ru2⟩ := rv2.get hy
    have hzl : z < s.heap.objs.size := Heap.lt_size hz
    have out : ∀ {q : Addr}, q ∉ [z, TI, TO, i1, i2] → q ≠ z ∧ q ≠ TO ∧ q ≠ i1 ∧ q ≠ i2 := fun hb => ⟨fun q => hb (by simp [q]), fun q => hb (by simp [q]), fun q => hb (by simp [q]), fun q => hb (by simp [q])⟩
    refine nextZ_item D hz hTI hTO h1 h2 p p2 (x := u) (y := u2) (by simpa using hu) (by simpa using hu2) fun h' z' TO' h1' h2' hT hsz hk => ?_
    refine ⟨_, rfl, wpAny_letOwnedTupleGo_zip (s := { s with heap := h' }) z' fun h'' z'' sb => ?_⟩
    have hT2 : h''.get? s.heap.objs.size = some { cls := .type "tuple", data := .seq #[u, u2] } := (sb.2 _ (Nat.ne_of_gt hzl)).trans hT
    have new : ObjOk X.prog X.w (upd H s.heap.objs.size (.tup [x, y])) h'' s.heap.objs.size (.tup [x, y]) :=
      ⟨by show 2 ≤ sizeLine; decide, [u, u2], .cons ru (.cons ru2 .nil), ⟨_, hT2, rfl, _, rfl⟩⟩
    have I1 : Inv X pins σ (upd H s.heap.objs.size (.tup [x, y])) { s with heap := h'' } :=
      I.turnedNew (t' := s.toks) (ch := [z, TI, TO, i1, i2]) (fun q o hb e => (sb.2 q (out hb).1).trans (hk q o (out hb).1 (out hb).2.1 (out hb).2.2.1 (out hb).2.2.2 e)) hf (Nat.le_refl _) new
    refine ⟨.ref s.heap.objs.size, _, I1, rfl, ⟨_, x, y, rfl, I.hok.fresh (Nat.le_refl _), rfl, fun l hl => by rw [sqv.inj I hl hqx]; exact hx, fun l hl => by rw [sqv.inj I hl hqy]; exact hy⟩, ⟨z'', ?_, ⟨u, u2, ?_⟩, ?_, ?_⟩, fun q hq => ?_⟩
    · exact (sb.2 _ D.TIz).trans (hk _ _ D.TIz D.TITO D.TIi1 D.TIi2 hTI)
    · exact (sb.2 _ D.TOz).trans TO'
    · exact h1'.to fun o q => (sb.2 _ D.i1z).trans q
    · exact h2'.to fun o q => (sb.2 _ D.i2z).trans q
    · obtain ⟨o1, e1, _⟩ := h1.obj
      obtain ⟨o2, e2, _⟩ := h2.obj
      have hlt : q < s.heap.objs.size := five (P := fun q => q < s.heap.objs.size) hzl (Heap.lt_size hTI) (Heap.lt_size hTO) (Heap.lt_size e1) (Heap.lt_size e2) q hq
      rw [upd_ne (Nat.ne_of_lt hlt)]
      exact (hf q hq).1
  done := by
    intro X hP hw hK hc i pins s σ H E I hf st hg
    subst hP hw hK
    obtain ⟨hz, hTI, ⟨x0, y0, hTO⟩, h1, h2⟩ := st
    obtain ⟨xs, ys, hqx, hqy, hend⟩ := hg
    obtain ⟨its, rv, p, _⟩ := hqx.is I
    obtain ⟨its2, rv2, p2, _⟩ := hqy.is I
    have l1 := rv.length
    have l2 := rv2.length
    have out : ∀ {q : Addr}, q ∉ [z, TI, TO, i1, i2] → q ≠ z ∧ q ≠ TO ∧ q ≠ i1 ∧ q ≠ i2 := fun hb => ⟨fun q => hb (by simp [q]), fun q => hb (by simp [q]), fun q => hb (by simp [q]), fun q => hb (by simp [q])⟩
    have he : its.toArray[i]? = none ∨ its2.toArray[i]? = none := by
      rcases hend with q | q
      · exact .inl (by simp; omega)
      · exact .inr (by simp; omega)
    exact nextZ_end (I.ok.hd hc) D hz hTI hTO h1 h2 p p2 he fun h' hk => ⟨rfl, I.turnedL (t' := s.toks) (ch := [z, TI, TO, i1, i2]) (fun q o hb e => hk q o (out hb).1 (out hb).2.1 (out hb).2.2.1 (out hb).2.2.2 e) hf⟩
  self := fun A i s Q E st h => wpAny_pyIter_zip st.1 h
def iZipK (K : PySem.W.Frag) (ta : TA) : TI := fun σ H R => ta σ H fun vs H1 => ∃ (b c : Bool) (l m : Addr) (xs ys : List V), vs = [.ref l, .ref m] ∧ sqv b K H1 l xs ∧ sqv c K H1 m ys ∧ R (ItzK b c K l m) H1
theorem pi_zipK {X : Cx} {e e2 : Expr} {ta : TA} {p pos tpos : Pos} {elts : List Expr} {kk : Nat} (hg : Gl X "zip") (hm : X.mg "zip" = none) (ha : PA X [e, e2] ta)
    (hs : starEach [e, e2] X.env = (false, eval e X.env) :: starEach [e2] X.env := by rfl) (hpl : (backTo pos (starEach [e2] X.env)).any (·.1) = false := by rfl) :
    PI X (.Tuple elts kk tpos) (.Call (.Name "zip" p) [e, e2] [] pos) (iZipK X.K ta) := by
  refine ⟨fun pins s σ H R I h => ?_⟩
  refine Call_ (ld_blt I hg hm PyProof.Rows.boot_zip (PyProof.Rows.callWith_type1 (thn (ha.run pos pins s σ H _ I h) fun us s1 ⟨vs, H1, I1, r1, q1⟩ => ?_) hs hpl))
  obtain ⟨b, c, l, m, xs, ys, ex, hqx, hqy, q⟩ := q1
  subst ex
  cases r1 with
  | cons r rr =>
    cases rr with
    | cons r' rr =>
      cases rr
      cases r
      cases r'
      obtain ⟨its, rv, p1, lt1⟩ := hqx.is I1
      obtain ⟨its2, rv2, p2, lt2⟩ := hqy.is I1
      have fr : ∀ k, FpOk X pins H1 (s1.heap.objs.size + k) := fun k => I1.fpOk (Nat.le_add_right _ _) (I1.hok.fresh (Nat.le_add_right _ _))
      refine call_zipK p1 p2 fun h' hz hTI hTO h1 h2 hk => wpAny_pyIter_zip hz ?_
      have I2 : Inv X pins σ H1 { s1 with heap := h' } := I1.kept (t' := s1.toks) hk
      exact ⟨s1.heap.objs.size + 4, [s1.heap.objs.size + 4, s1.heap.objs.size + 2, s1.heap.objs.size + 3, s1.heap.objs.size, s1.heap.objs.size + 1], _, _, H1, rfl, I2, turn_zipK (PySem.W.ktu_apart s1.heap.objs.size l m lt1 lt2), ⟨hz, hTI, ⟨_, _, hTO⟩, h1, h2⟩,
        five (fr 4) (fr 2) (fr 3) (fr 0) (fr 1), q⟩
section
variable {X : Cx} {a b e e2 : Expr} {ρ : RO} {μ : List MO} {p pos tpos : Pos} {elts : List Expr} {kk : Nat} {Ra : Ca} {fs : DenA}
/-- the items of a sequence -/
def sqD : DV → Option (Bool × List DV)
  | .lst xs => some (true, xs)
  | .tup xs => some (false, xs)
  | _ => none
theorem sqv_of {w : Wd} {v : V} {d : DV} {k : Bool} {ds : List DV} (h : Has w v d) (e : sqD d = some (k, ds)) : ∃ a vs, v = .ref a ∧ sqv k w.K w.H a vs ∧ HasL w vs ds := by
  cases d with
  | lst xs => cases e; exact sqL_of h
  | tup xs => cases e; exact sqT_of h
  | _ => cases e
theorem EvI.zipK (hg : Gl X "zip") (hm : X.mg "zip" = none) (h : EvA X [e, e2] ρ μ fun ds μ1 => ∃ d d' k k' xs ys, ds = [d, d'] ∧ sqD d = some (k, xs) ∧ sqD d' = some (k', ys) ∧ Ra (zipD xs ys) μ1)
    (hs : starEach [e, e2] X.env = (false, eval e X.env) :: starEach [e2] X.env := by rfl) (hpl : (backTo pos (starEach [e2] X.env)).any (·.1) = false := by rfl) : EvI X (.Tuple elts kk tpos) (.Call (.Name "zip" p) [e, e2] [] pos) ρ μ Ra :=
  PIw (pi_zipK hg hm pa_a hs hpl) fun σ H Q ⟨α, E, q⟩ => ⟨_, h, α, E, fun vs ds α1 μ1 H1 ⟨d, d', k, k', xs, ys, e, f, f', r⟩ E1 X1 hv => by
    subst e
    obtain ⟨v, u, rfl, h1, h2⟩ := hasL2 hv
    obtain ⟨a, vs1, rfl, s1, t1⟩ := sqv_of h1 f
    obtain ⟨b, vs2, rfl, s2, t2⟩ := sqv_of h2 f'
    refine ⟨k, k', a, b, vs1, vs2, rfl, s1, s2, q _ _ α1 μ1 H1 r E1 X1 fun α2 μ2 H2 kp l => ?_⟩
    obtain ⟨a', ws1, ea, r1, m1⟩ := sqv_of (kp.has h1) f
    obtain ⟨b', ws2, eb, r2, m2⟩ := sqv_of (kp.has h2) f'
    cases ea
    cases eb
    refine ⟨fun i d hd => ?_, ⟨ws1, ws2, r1, r2, ?_⟩⟩
    · obtain ⟨x, y, e1, e2, rfl⟩ := zipD_at hd
      obtain ⟨x1, f1, g1⟩ := m1.get e1
      obtain ⟨y1, f2, g2⟩ := m2.get e2
      refine ⟨⟨ws1, ws2, x1, y1, r1, r2, f1, f2⟩, ?_⟩
      rintro z H' ⟨T, x2, y2, rfl, nT, rfl, c1, c2⟩
      have q1 := c1 ws1 r1
      have q2 := c2 ws2 r2
      rw [f1] at q1
      rw [f2] at q2
      cases q1
      cases q2
      obtain ⟨k2, l2⟩ := l.lay (o := .tup [x1, y1]) nT
      exact ⟨k2, l2, .tup (.of upd_same) (.cons (k2.has g1) (.cons (k2.has g2) .nil))⟩
    · rw [zipD_len, m1.length, m2.length]
      omega⟩
def iZipX (fs : DenA) : DenA := fun ρ μ => bnd (fs ρ μ) fun ds μ1 => match ds with
  | [d, d'] => match sqD d, sqD d' with
    | some (_, xs), some (_, ys) => some (zipD xs ys, μ1)
    | _, _ => none
  | _ => none
theorem SI.zipX (hg : Gl X "zip") (hm : X.mg "zip" = none) (ss : SAr X [a, b] fs)
    (hs : starEach [a, b] X.env = (false, eval a X.env) :: starEach [b] X.env := by rfl) (hpl : (backTo pos (starEach [b] X.env)).any (·.1) = false := by rfl) : SI X (.Tuple elts kk tpos) (.Call (.Name "zip" p) [a, b] [] pos) (iZipX fs) := fun ρ μ R k => by
  obtain ⟨ds, μ1, e1, k⟩ := okA_bndA k
  split at k
  · split at k
    · rename_i d d' _ _ _ _ h1 h2
      exact EvI.zipK hg hm (ss.at e1 ⟨_, _, _, _, _, _, rfl, h1, h2, k⟩) hs hpl
    · exact k.elim
  · exact k.elim
end
end Eg

namespace Eg
open PySem PySem.Spec PyProof.Rows L2
/-! ### for i, x in enumerate(xs), xs a list that may change but does not while the loop goes on -/
def ItOkM (X : Cx) (J : It) (k : Nat) (xs ds : List DV) (w : Wd) : Prop := ∀ α μ H, Kp w ⟨X.K, α, μ, H⟩ → Live ⟨X.K, α, μ, H⟩ → μ[k]? = some (.lst xs) →
  (∀ i d, ds[i]? = some d → J.go i H ∧ ∀ x H', J.yld i H x H' → Kp ⟨X.K, α, μ, H⟩ ⟨X.K, α, μ, H'⟩ ∧ Live ⟨X.K, α, μ, H'⟩ ∧ Has ⟨X.K, α, μ, H'⟩ x d) ∧ J.stop ds.length H
abbrev Cm := Nat → List DV → List DV → List MO → Prop
def tEvIM (X : Cx) (ρ : RO) (μ : List MO) (R : Cm) : TI := fun σ H Rr => ∃ α, En ⟨X.K, α, μ, H⟩ σ ρ ∧ ∀ J k xs ds α' μ' H', R k xs ds μ' → En ⟨X.K, α', μ', H'⟩ σ ρ → Kp ⟨X.K, α, μ, H⟩ ⟨X.K, α', μ', H'⟩ → ItOkM X J k xs ds ⟨X.K, α', μ', H'⟩ → Rr J H'
def EvIM (X : Cx) (tg e : Expr) (ρ : RO) (μ : List MO) (R : Cm) : Prop := PI X tg e (tEvIM X ρ μ R)
section
variable {X : Cx} {e : Expr} {fs : DenA} {ρ : RO} {μ : List MO} {p pos tpos : Pos} {elts : List Expr} {kk : Nat} {Rm : Cm} {R : Co}
theorem EvIM.enm (hg : Gl X "enumerate") (hm : X.mg "enumerate" = none) (h : EvA X [e] ρ μ fun ds μ1 => ∃ k xs, ds = [.mu k] ∧ μ1[k]? = some (.lst xs) ∧ Rm k xs (cntD 0 xs) μ1) (hs : starEach [e] X.env = [(false, eval e X.env)] := by rfl) :
    EvIM X (.Tuple elts kk tpos) (.Call (.Name "enumerate" p) [e] [] pos) ρ μ Rm :=
  PIw (pi_enum hg hm pa_a hs) fun σ H Q ⟨α, E, q⟩ => ⟨_, h, α, E, fun vs ds α1 μ1 H1 ⟨k, xs, e1, hk, r⟩ E1 X1 hv => by
    subst e1
    obtain ⟨v, rfl, hv'⟩ := hasL1 hv
    cases hv' with
    | @mu _ a ha =>
      obtain ⟨ws, z1, t1⟩ := E1.live.ob _ _ _ ha hk
      refine ⟨a, ws, rfl, .inl (.inl z1), q _ _ _ _ α1 μ1 H1 r E1 X1 fun α3 μ3 H3 kp l hk3 => ?_⟩
      obtain ⟨ws', z3, t3⟩ := l.ob _ _ _ (kp.α _ _ ha) hk3
      have s3 : SqL X.K H3 a ws' := .inl (.inl z3)
      refine ⟨fun i d hd => ?_, ⟨ws', s3, by rw [cntD_len, t3.length]; exact Nat.le_refl _⟩⟩
      obtain ⟨x, f1, rfl⟩ := cntD_at _ _ _ _ hd
      obtain ⟨y, g1, g2⟩ := t3.get f1
      refine ⟨⟨ws', y, s3, g1⟩, ?_⟩
      rintro z H' ⟨T, y2, rfl, nT, rfl, c1⟩
      have q1 := c1 ws' s3
      rw [g1] at q1
      cases q1
      obtain ⟨k2, l2⟩ := l.lay (o := .tup [.int (i : Nat), y]) nT
      rw [show (0 : Int) + (i : Int) = (i : Int) by omega]
      exact ⟨k2, l2, .tup (.of upd_same) (.cons .int (.cons (k2.has g2) .nil))⟩⟩
theorem St.forM {tg : Expr} {body : List Stmt} (hp : PassesOwn (model X.prog X.w) X.A X.env X.xe) (hc : X.calm = true)
    (h : EvIM X tg e ρ μ fun k xs ds μ1 => ∃ I : Nat → RO → List MO → Prop, I 0 ρ μ1 ∧ (∀ i ρ' μ', I i ρ' μ' → μ'[k]? = some (.lst xs)) ∧
      (∀ i d ρ' μ', ds[i]? = some d → I i ρ' μ' → EvG X tg d ρ' μ' fun ρ2 μ2 => Sts X body ρ2 μ2 fun o => match o with
        | .nx ρ3 μ3 => I (i + 1) ρ3 μ3
        | .ct ρ3 μ3 => I (i + 1) ρ3 μ3
        | .bk ρ3 μ3 => R (.nx ρ3 μ3)
        | .rt d μ3 => R (.rt d μ3)) ∧
      ∀ ρ' μ', I ds.length ρ' μ' → R (.nx ρ' μ')) (hs : ∀ x, foldedSetIterable e X.env x = pure x := by intro _; rfl) : St X (.For tg e body [] pos) ρ μ R :=
  PSw (ps_for hp hc pi_a pg_a pss_a hs) fun D σ H ⟨α, E, q⟩ => ⟨_, h, α, E, fun J k xs ds α1 μ1 H1 ⟨I, i0, same, turn, fin⟩ E1 X1 ok => by
    let P : Nat → L2.St → Hp → Prop := fun i σ H => ∃ α μ ρ, I i ρ μ ∧ En ⟨X.K, α, μ, H⟩ σ ρ ∧ Kp ⟨X.K, α1, μ1, H1⟩ ⟨X.K, α, μ, H⟩
    refine ⟨fun i m σ H => m = ds.length - i ∧ i ≤ ds.length ∧ P i σ H, ⟨ds.length, by simp, Nat.zero_le _, α1, μ1, ρ, i0, E1, E1.live.refl⟩, ?_⟩
    rintro i m σ2 H2 ⟨rfl, hi, α2, μ2, ρ2, hI, E2, X2⟩
    obtain ⟨go, stop⟩ := ok α2 μ2 H2 X2 E2.live (same i ρ2 μ2 hI)
    by_cases hlt : i < ds.length
    · obtain ⟨g1, g2⟩ := go i ds[i] (by simp [hlt])
      refine .inr ⟨g1, P (i + 1), fun σ' H' p' => ⟨ds.length - (i + 1), by omega, rfl, hlt, p'⟩, fun x H' y => ?_⟩
      obtain ⟨k, l, hx⟩ := g2 x H' y
      have X2' := X2.trans k
      refine ⟨_, turn i ds[i] ρ2 μ2 (by simp [hlt]) hI, α2, E2.ext k l, hx, fun ρ3 σ3 α3 μ3 H3 r3 E3 X3 => ⟨_, r3, ?_⟩⟩
      have X3' := X2'.trans X3
      refine ⟨α3, E3, fun ρ4 σ4 α4 μ4 H4 r4 E4 X4 => ⟨α4, μ4, ρ4, r4, E4, X3'.trans X4⟩, fun v d α4 μ4 H4 r4 l4 X4 hv => q.2.1 v d α4 μ4 H4 r4 l4 (X1.trans (X3'.trans X4)) hv,
        fun ρ4 σ4 α4 μ4 H4 r4 E4 X4 => q.1 ρ4 σ4 α4 μ4 H4 r4 E4 (X1.trans (X3'.trans X4)), fun ρ4 σ4 α4 μ4 H4 r4 E4 X4 => ⟨α4, μ4, ρ4, r4, E4, X3'.trans X4⟩⟩
    · have e : i = ds.length := by omega
      subst e
      exact .inl ⟨stop, q.1 ρ2 σ2 α2 μ2 H2 (fin ρ2 μ2 hI) E2 (X1.trans X2)⟩⟩
open Classical in
noncomputable def forLM (k : Nat) (xs : List DV) (g : DenG) (body : DenS) : List DV → RO → List MO → Option Out
  | [], ρ, μ => if μ[k]? = some (.lst xs) then some (.nx ρ μ) else none
  | d :: ds, ρ, μ => if μ[k]? = some (.lst xs) then (match g d ρ μ with
    | none => none
    | some (ρ1, μ1) => match body ρ1 μ1 with
      | some (.nx ρ2 μ2) => forLM k xs g body ds ρ2 μ2
      | some (.ct ρ2 μ2) => forLM k xs g body ds ρ2 μ2
      | some (.bk ρ2 μ2) => some (.nx ρ2 μ2)
      | some (.rt d μ2) => some (.rt d μ2)
      | none => none) else none
theorem forLM_same {k : Nat} {xs : List DV} {g : DenG} {body : DenS} {ds : List DV} (h : okS (forLM k xs g body ds ρ μ) R) : μ[k]? = some (.lst xs) := by
  cases ds with
  | nil =>
    unfold forLM at h
    split at h
    · assumption
    · exact h.elim
  | cons d ds =>
    unfold forLM at h
    split at h
    · assumption
    · exact h.elim
noncomputable def sForE (fs : DenA) (g : DenG) (body : DenS) : DenS := fun ρ μ => bnd (fs ρ μ) fun ds μ1 => match ds with
  | [.mu k] => match μ1[k]? with
    | some (.lst xs) => forLM k xs g body (cntD 0 xs) ρ μ1
    | _ => none
  | [.lst xs] => forL g body (cntD 0 xs) ρ μ1
  | [.tup xs] => forL g body (cntD 0 xs) ρ μ1
  | _ => none
theorem for_turn {g : DenG} {fb : DenS} {tg : Expr} {body : List Stmt} (sg : SG X tg g) (sb : SS X body fb) {d : DV} {K : RO → List MO → Option Out} {ρ' : RO} {μ' : List MO}
    (hI : okS (match g d ρ' μ' with
    | none => none
    | some (ρ1, μ1) => match fb ρ1 μ1 with
      | some (.nx ρ2 μ2) => K ρ2 μ2
      | some (.ct ρ2 μ2) => K ρ2 μ2
      | some (.bk ρ2 μ2) => some (.nx ρ2 μ2)
      | some (.rt d μ2) => some (.rt d μ2)
      | none => none) R) : EvG X tg d ρ' μ' fun ρ2 μ2 => Sts X body ρ2 μ2 fun o => match o with
        | .nx ρ3 μ3 => okS (K ρ3 μ3) R
        | .ct ρ3 μ3 => okS (K ρ3 μ3) R
        | .bk ρ3 μ3 => R (.nx ρ3 μ3)
        | .rt d μ3 => R (.rt d μ3) := by
  cases hg : g d ρ' μ' with
  | none => rw [hg] at hI; exact hI.elim
  | some q =>
    obtain ⟨ρ1, μ1'⟩ := q
    rw [hg] at hI
    dsimp only at hI
    refine sg d ρ' μ' _ ?_
    rw [hg]
    refine sb ρ1 μ1' _ ?_
    cases hb : fb ρ1 μ1' with
    | none => rw [hb] at hI; exact hI.elim
    | some o =>
      rw [hb] at hI
      cases o <;> exact hI
theorem S1.forE {fpos : Pos} {body : List Stmt} {g : DenG} {fb : DenS} (hp : PassesOwn (model X.prog X.w) X.A X.env X.xe) (hc : X.calm = true) (hg : Gl X "enumerate") (hm : X.mg "enumerate" = none) (ss : SAr X [e] fs)
    (sg : SG X (.Tuple elts kk tpos) g) (sb : SS X body fb) (hs : starEach [e] X.env = [(false, eval e X.env)] := by rfl) (hs2 : ∀ x, foldedSetIterable (.Call (.Name "enumerate" p) [e] [] pos) X.env x = pure x := by intro _; rfl) :
    S1 X (.For (.Tuple elts kk tpos) (.Call (.Name "enumerate" p) [e] [] pos) body [] fpos) (sForE fs g fb) := fun ρ μ R h => by
  obtain ⟨ds, μ1, e1, h⟩ := okS_bndA h
  have plain : ∀ xs, okS (forL g fb (cntD 0 xs) ρ μ1) R → (ds = [.lst xs] ∨ ds = [.tup xs]) → St X (.For (.Tuple elts kk tpos) (.Call (.Name "enumerate" p) [e] [] pos) body [] fpos) ρ μ R := by
    intro xs h hd
    have key : EvI X (.Tuple elts kk tpos) (.Call (.Name "enumerate" p) [e] [] pos) ρ μ fun ds μ1 => okS (forL g fb ds ρ μ1) R := by
      rcases hd with rfl | rfl
      · exact EvI.enmL hg hm (ss.at e1 ⟨_, rfl, h⟩) hs
      · exact EvI.enmT hg hm (ss.at e1 ⟨_, rfl, h⟩) hs
    refine St.for_ hp hc (EvI.mono key fun ds μ1 h => ⟨fun i ρ' μ' => okS (forL g fb (ds.drop i) ρ' μ') R, h, ?_, ?_⟩) hs2
    · intro i d ρ' μ' hd hI
      rw [drop_cons hd] at hI
      unfold forL at hI
      exact for_turn sg sb hI
    · intro ρ' μ' hI
      rw [List.drop_length] at hI
      exact hI
  split at h
  · rename_i k
    split at h
    · rename_i xs hk
      refine St.forM hp hc (EvIM.enm hg hm (ss.at e1 ⟨k, xs, rfl, hk, fun i ρ' μ' => okS (forLM k xs g fb ((cntD 0 xs).drop i) ρ' μ') R, h, ?_, ?_, ?_⟩) hs) hs2
      · intro i ρ' μ' hI
        exact forLM_same hI
      · intro i d ρ' μ' hd hI
        rw [drop_cons hd] at hI
        have same := forLM_same hI
        unfold forLM at hI
        rw [if_pos same] at hI
        exact for_turn sg sb hI
      · intro ρ' μ' hI
        rw [List.drop_length] at hI
        have same := forLM_same hI
        unfold forLM at hI
        rw [if_pos same] at hI
        exact hI
    · exact h.elim
  · exact plain _ h (.inl rfl)
  · exact plain _ h (.inr rfl)
  · exact h.elim
/-- a walk that only goes on -/
theorem forLM_inv {k : Nat} {xs : List DV} {g : DenG} {body : DenS} {P : Nat → RO → List MO → Prop} (ds : List DV) (same : ∀ i ρ' μ', P i ρ' μ' → μ'[k]? = some (.lst xs)) (h0 : P 0 ρ μ)
    (turn : ∀ i d ρ' μ', ds[i]? = some d → P i ρ' μ' → ∃ ρ1 μ1 ρ2 μ2, g d ρ' μ' = some (ρ1, μ1) ∧ body ρ1 μ1 = some (.nx ρ2 μ2) ∧ P (i + 1) ρ2 μ2) :
    ∃ ρ2 μ2, forLM k xs g body ds ρ μ = some (.nx ρ2 μ2) ∧ P ds.length ρ2 μ2 := by
  have key : ∀ (m i : Nat) (ρ' : RO) (μ' : List MO), i + m = ds.length → P i ρ' μ' → ∃ ρ2 μ2, forLM k xs g body (ds.drop i) ρ' μ' = some (.nx ρ2 μ2) ∧ P ds.length ρ2 μ2 := by
    intro m
    induction m with
    | zero =>
      intro i ρ' μ' e h
      have e : i = ds.length := by omega
      subst e
      refine ⟨ρ', μ', ?_, h⟩
      rw [List.drop_length]
      unfold forLM
      rw [if_pos (same _ _ _ h)]
    | succ m ih =>
      intro i ρ' μ' e h
      have hl : i < ds.length := by omega
      obtain ⟨ρ1, μ1, ρ2, μ2, e1, e2, h2⟩ := turn i ds[i] ρ' μ' (by simp [hl]) h
      obtain ⟨ρ3, μ3, e3, h3⟩ := ih (i + 1) ρ2 μ2 (by omega) h2
      refine ⟨ρ3, μ3, ?_, h3⟩
      rw [drop_cons (d := ds[i]) (by simp [hl])]
      unfold forLM
      rw [if_pos (same _ _ _ h), e1]
      dsimp only
      rw [e2]
      exact e3
  exact key ds.length 0 ρ μ (by omega) h0
end
end Eg

namespace Eg
open PySem PySem.Spec PyProof.Rows L2
section
variable {X : Cx} {a b c e : Expr} {es : List Expr} {fa fb fc f : Den} {fs fi : DenA} {pos p : Pos} {ρ : RO} {μ : List MO}
/-! ### y = [e for a, b in xs] -/
theorem S1.setLc2 {elt iter : Expr} {scope : Scope} {x x' y : Str} {px px' pt py spos : Pos} {kt : Nat} (i j j' : Nat) (hne : j ≠ j') (hc : X.calm = true) (hN : X.N.Nodup) (hy : X.N[i]? = some y) (hyl : X.env.scope.names.lookup y = some .local)
    (hsw : swapsWith (.ListComp elt [⟨.Tuple [.Name x px, .Name x' px'] kt pt, iter, [], 0⟩] scope pos) (some (.Name y py)) spos.line X.env = pure true) (hj : X.N[j]? = some x) (hj' : X.N[j']? = some x') (ok : BlkOk X.N X.env.scope scope [(x, j), (x', j')])
    (hcb : ∀ (s : Shared) (H : Hp) (C : Addr) (cl : List (Str × Addr)) (fp : List Addr), (blkX X s H scope C cl fp).calm = true)
    (hl : ∀ (s : Shared) (H : Hp) (C : Addr) (cl : List (Str × Addr)) (fp : List Addr), Loc (blkX X s H scope C cl fp).env.scope x ∧ ((blkX X s H scope C cl fp).fn x = true ∨ (blkX X s H scope C cl fp).env.scope.names.lookup x = some .local))
    (hl' : ∀ (s : Shared) (H : Hp) (C : Addr) (cl : List (Str × Addr)) (fp : List Addr), Loc (blkX X s H scope C cl fp).env.scope x' ∧ ((blkX X s H scope C cl fp).fn x' = true ∨ (blkX X s H scope C cl fp).env.scope.names.lookup x' = some .local))
    (si : SI X (.Tuple [.Name x px, .Name x' px'] kt pt) iter fi) (se : ∀ s H C cl fp, SE (blkX X s H scope C cl fp) elt f) (hs : ∀ x, foldedSetIterable iter X.env x = pure x := by intro _; rfl) :
    S1 X (.Assign [.Name y py] (.ListComp elt [⟨.Tuple [.Name x px, .Name x' px'] kt pt, iter, [], 0⟩] scope pos) spos) (sSet i (dLc fi (bd2 j j') dT f)) := fun ρ μ R h => by
  obtain ⟨d, μE, e0, h⟩ := okS_bnd h
  have k : okE (dLc fi (bd2 j j') dT f ρ μ) (fun d μ1 => okS (some (.nx (ρ.set i (some d)) μ1)) R) := by rw [e0]; exact h
  obtain ⟨ds, μ1, e1, k⟩ := okE_bndA k
  obtain ⟨hz, k⟩ := okE_if k
  obtain ⟨aF, μF, e2, k⟩ := okE_bndA k
  have all2 : ∀ (ds acc : List DV) (μ' : List MO), lcLoop (bd2 j j') dT f ρ μ1.length ds acc μ' = some (aF, μF) → ∀ d ∈ ds, ∃ x y, d = .tup [x, y] := by
    intro ds
    induction ds with
    | nil => intro acc μ' _ d hd; cases hd
    | cons d0 ds ih =>
      intro acc μ' h d hd
      obtain ⟨ρ', t, μ3, b1, c1, hh⟩ := lc_turn h
      obtain ⟨x, y, e, _⟩ := bd2_some b1
      rcases List.mem_cons.mp hd with rfl | hd
      · exact ⟨x, y, e⟩
      · rcases hh with ⟨_, y, μ5, μ4, _, _, _, hI'⟩ | ⟨_, μ4, _, _, hI'⟩
        · exact ih _ _ hI' d hd
        · exact ih _ _ hI' d hd
  refine PSw (ps_setLc (own := [(x, j), (x', j')]) (g := gTup X.K 2 (gCons (gName j) (gCons (gName j') gNil))) hc hN hy hyl hsw pi_a ok
    (fun s H C cl fp => pg_tup (hcb s H C cl fp) (pgs_cons (pg_name hN hj (hl s H C cl fp).1 (hl s H C cl fp).2) (pgs_cons (pg_name hN hj' (hl' s H C cl fp).1 (hl' s H C cl fp).2) pgs_nil)))
    (fun s H C cl fp => pts_aB s H C cl fp) (fun s H C cl fp => pe_aB s H C cl fp) hs)
    fun D σ H ⟨α, E, q⟩ => lc_S20 hne (ρ := ρ) (μ := μ) (R := fun d μ1 => okE (Eg.cutd μ d μ1) fun d μ1 => okS (some (.nx (ρ.set i (some d)) μ1)) R) ?_ σ H _ ⟨α, E, fun v d α1 μ1 H1 r E1 X1 hv => ?_⟩
  · refine si ρ μ _ ?_
    rw [e1]
    refine ⟨by rw [sl_eq]; exact hz, fun j2 acc μ' => lcLoop (bd2 j j') dT f ρ μ1.length (ds.drop j2) acc μ' = some (aF, μF), e2, ?_, ?_⟩
    · intro j2 d hd
      obtain ⟨x, y, rfl⟩ := all2 _ _ _ e2 d (List.mem_of_getElem? hd)
      refine ⟨x, y, rfl, ?_⟩
      intro acc μ2 hl2 hI s H C cl fp
      rw [drop_cons hd] at hI
      obtain ⟨ρ', t, μ3, b1, c1, hh⟩ := lc_turn hI
      cases b1
      cases c1
      rcases hh with ⟨_, y, μ5, μ4, he, h5, h4, hI'⟩ | ⟨z, _⟩
      · exact (se s H C cl fp).at he ⟨μ4, h5, h4, hI'⟩
      · cases z
    · intro acc μ2 hl2 hI
      rw [List.drop_length] at hI
      cases hI
      exact k
  · obtain ⟨α2, μ2, r2, l2, k2, h2⟩ := cutd_ok r E.live E1.live X1 hv
    exact q.1 _ _ _ _ _ r2 ((E.ext k2 l2).set i h2) k2
end
end Eg

namespace Eg
open PySem PySem.Spec PyProof.Rows L2
section
variable {X : Cx} {a b c e : Expr} {es : List Expr} {fa fb fc f : Den} {fs fi : DenA} {pos p : Pos} {ρ : RO} {μ : List MO}
/-! ### y = [e for a, b in xs if c] -/
theorem lc_S2I {R : Cn} {elt iter c : Expr} {scope : Scope} {x x' : Str} {px px' pt : Pos} {kt i i' : Nat} (hne : i ≠ i')
    (h : EvI X (.Tuple [.Name x px, .Name x' px'] kt pt) iter ρ μ fun ds μ1 => ds.length ≤ sizeLine ∧ ∃ I : Nat → List DV → List MO → Prop, I 0 [] μ1 ∧
      (∀ j d, ds[j]? = some d → ∃ d1 d2, d = .tup [d1, d2] ∧ ∀ acc μ2, μ2.length = μ1.length → I j acc μ2 → ∀ s H C cl fp, EvT (blkX X s H scope C cl fp) c ((ρ.set i (some d1)).set i' (some d2)) (μ2 ++ [.lst acc]) fun b μ3 =>
        if b = true then ∀ s H C cl fp, Ev (blkX X s H scope C cl fp) elt ((ρ.set i (some d1)).set i' (some d2)) μ3 fun y μ5 => ∃ μ4, μ5 = μ4 ++ [.lst acc] ∧ μ4.length = μ1.length ∧ I (j + 1) (acc ++ [y]) μ4
        else ∃ μ4, μ3 = μ4 ++ [.lst acc] ∧ μ4.length = μ1.length ∧ I (j + 1) acc μ4) ∧
      ∀ acc μ2, μ2.length = μ1.length → I ds.length acc μ2 → R (.lst acc) (μ2 ++ [.dead]))
    (σ : L2.St) (H : Hp) (Q : VK) (q : tEv X ρ μ R σ H Q) :
    tLc (aI X (.Tuple [.Name x px, .Name x' px'] kt pt) iter) (gTup X.K 2 (gCons (gName i) (gCons (gName i') gNil))) (aBT X scope [c]) (aB X scope elt) [i, i'] σ H Q :=
  lc_S2 i i' hne (EvI.mono h fun ds μ1 ⟨hz, I, i0, turn, done⟩ => ⟨hz, I, i0, fun j d h1 => by
    obtain ⟨d1, d2, ed, tn⟩ := turn j d h1
    exact ⟨d1, d2, ed, fun acc μ2 h2 h3 => ⟨fun ρ' μ' Rt => tEvT X ρ' μ' Rt,
      fun s H C cl fp => pts_one (tn acc μ2 h2 h3 s H C cl fp), fun _ _ _ _ _ _ z => z⟩⟩, done⟩) σ H Q q
theorem S1.setLc2If {elt iter ce : Expr} {scope : Scope} {x x' y : Str} {px px' pt py spos : Pos} {kt : Nat} (i j j' : Nat) (hne : j ≠ j') (hc : X.calm = true) (hN : X.N.Nodup) (hy : X.N[i]? = some y) (hyl : X.env.scope.names.lookup y = some .local)
    (hsw : swapsWith (.ListComp elt [⟨.Tuple [.Name x px, .Name x' px'] kt pt, iter, [ce], 0⟩] scope pos) (some (.Name y py)) spos.line X.env = pure true) (hj : X.N[j]? = some x) (hj' : X.N[j']? = some x') (ok : BlkOk X.N X.env.scope scope [(x, j), (x', j')])
    (hcb : ∀ (s : Shared) (H : Hp) (C : Addr) (cl : List (Str × Addr)) (fp : List Addr), (blkX X s H scope C cl fp).calm = true)
    (hl : ∀ (s : Shared) (H : Hp) (C : Addr) (cl : List (Str × Addr)) (fp : List Addr), Loc (blkX X s H scope C cl fp).env.scope x ∧ ((blkX X s H scope C cl fp).fn x = true ∨ (blkX X s H scope C cl fp).env.scope.names.lookup x = some .local))
    (hl' : ∀ (s : Shared) (H : Hp) (C : Addr) (cl : List (Str × Addr)) (fp : List Addr), Loc (blkX X s H scope C cl fp).env.scope x' ∧ ((blkX X s H scope C cl fp).fn x' = true ∨ (blkX X s H scope C cl fp).env.scope.names.lookup x' = some .local))
    (si : SI X (.Tuple [.Name x px, .Name x' px'] kt pt) iter fi) (sc : ∀ s H C cl fp, ST (blkX X s H scope C cl fp) ce fc) (se : ∀ s H C cl fp, SE (blkX X s H scope C cl fp) elt f) (hs : ∀ x, foldedSetIterable iter X.env x = pure x := by intro _; rfl) :
    S1 X (.Assign [.Name y py] (.ListComp elt [⟨.Tuple [.Name x px, .Name x' px'] kt pt, iter, [ce], 0⟩] scope pos) spos) (sSet i (dLc fi (bd2 j j') fc f)) := fun ρ μ R h => by
  obtain ⟨d, μE, e0, h⟩ := okS_bnd h
  have k : okE (dLc fi (bd2 j j') fc f ρ μ) (fun d μ1 => okS (some (.nx (ρ.set i (some d)) μ1)) R) := by rw [e0]; exact h
  obtain ⟨ds, μ1, e1, k⟩ := okE_bndA k
  obtain ⟨hz, k⟩ := okE_if k
  obtain ⟨aF, μF, e2, k⟩ := okE_bndA k
  have all2 : ∀ (ds acc : List DV) (μ' : List MO), lcLoop (bd2 j j') fc f ρ μ1.length ds acc μ' = some (aF, μF) → ∀ d ∈ ds, ∃ x y, d = .tup [x, y] := by
    intro ds
    induction ds with
    | nil => intro acc μ' _ d hd; cases hd
    | cons d0 ds ih =>
      intro acc μ' h d hd
      obtain ⟨ρ', t, μ3, b1, c1, hh⟩ := lc_turn h
      obtain ⟨x, y, e, _⟩ := bd2_some b1
      rcases List.mem_cons.mp hd with rfl | hd
      · exact ⟨x, y, e⟩
      · rcases hh with ⟨_, y, μ5, μ4, _, _, _, hI'⟩ | ⟨_, μ4, _, _, hI'⟩
        · exact ih _ _ hI' d hd
        · exact ih _ _ hI' d hd
  refine PSw (ps_setLc (own := [(x, j), (x', j')]) (g := gTup X.K 2 (gCons (gName j) (gCons (gName j') gNil))) hc hN hy hyl hsw pi_a ok
    (fun s H C cl fp => pg_tup (hcb s H C cl fp) (pgs_cons (pg_name hN hj (hl s H C cl fp).1 (hl s H C cl fp).2) (pgs_cons (pg_name hN hj' (hl' s H C cl fp).1 (hl' s H C cl fp).2) pgs_nil)))
    (fun s H C cl fp => pts_aB s H C cl fp) (fun s H C cl fp => pe_aB s H C cl fp) hs)
    fun D σ H ⟨α, E, q⟩ => lc_S2I hne (ρ := ρ) (μ := μ) (R := fun d μ1 => okE (Eg.cutd μ d μ1) fun d μ1 => okS (some (.nx (ρ.set i (some d)) μ1)) R) ?_ σ H _ ⟨α, E, fun v d α1 μ1 H1 r E1 X1 hv => ?_⟩
  · refine si ρ μ _ ?_
    rw [e1]
    refine ⟨by rw [sl_eq]; exact hz, fun j2 acc μ' => lcLoop (bd2 j j') fc f ρ μ1.length (ds.drop j2) acc μ' = some (aF, μF), e2, ?_, ?_⟩
    · intro j2 d hd
      obtain ⟨x, y, rfl⟩ := all2 _ _ _ e2 d (List.mem_of_getElem? hd)
      refine ⟨x, y, rfl, ?_⟩
      intro acc μ2 hl2 hI s H C cl fp
      rw [drop_cons hd] at hI
      obtain ⟨ρ', t, μ3, b1, c1, hh⟩ := lc_turn hI
      cases b1
      refine (sc s H C cl fp).at c1 ?_
      rcases hh with ⟨rfl, y, μ5, μ4, he, h5, h4, hI'⟩ | ⟨rfl, μ4, h3, h4, hI'⟩
      · exact iteT fun s H C cl fp => (se s H C cl fp).at he ⟨μ4, h5, h4, hI'⟩
      · exact iteF ⟨μ4, h3, h4, hI'⟩
    · intro acc μ2 hl2 hI
      rw [List.drop_length] at hI
      cases hI
      exact k
  · obtain ⟨α2, μ2, r2, l2, k2, h2⟩ := cutd_ok r E.live E1.live X1 hv
    exact q.1 _ _ _ _ _ r2 ((E.ext k2 l2).set i h2) k2
end
end Eg

namespace Eg
open PySem PySem.Spec PyProof.Rows L2
section
variable {X : Cx} {a b c e : Expr} {es : List Expr} {fa fb fc f : Den} {fs fi fi1 : DenA} {pos p : Pos} {ρ : RO} {μ : List MO}
/-! ### y = [e for x in xs for x1 in xs1] -/
def aIB (X : Cx) (scope : Scope) (tg e : Expr) : TI := fun σ H Q => ∃ t, (∀ s H' C cl fp, PI (blkX X s H' scope C cl fp) tg e t) ∧ t σ H Q
theorem pi_aB {scope : Scope} {tg e : Expr} (s : Shared) (H : Hp) (C : Addr) (cl : List (Str × Addr)) (fp : List Addr) : PI (blkX X s H scope C cl fp) tg e (aIB X scope tg e) :=
  ⟨fun pins s' σ H' Q I ⟨_, h, q⟩ => (h s H C cl fp).run pins s' σ H' Q I q⟩
noncomputable def lcLoopG (j j' : Nat) (fi1 : DenA) (elt : Den) (ρ : RO) (n : Nat) : List DV → List DV → List MO → Option (List DV × List MO)
  | [], acc, μ => some (acc, μ)
  | d :: ds, acc, μ => bnd (fi1 ((ρ.set j' none).set j (some d)) (μ ++ [.lst acc])) fun es μ3 => match dropL n acc μ3 with
    | some μ4 => bnd (lcLoop (bd1 j') dT elt ((ρ.set j' none).set j (some d)) n es acc μ4) fun acc' μ5 => lcLoopG j j' fi1 elt ρ n ds acc' μ5
    | none => none
noncomputable def dLcG (fi : DenA) (j j' : Nat) (fi1 : DenA) (elt : Den) : Den := fun ρ μ => bnd (fi ρ μ) fun ds μ1 => bnd (lcLoopG j j' fi1 elt ρ μ1.length ds [] μ1) fun acc μ2 => if acc.length ≤ 16777216 then cutd μ (.lst acc) (μ2 ++ [.dead]) else none
theorem lcG_turn {j j' : Nat} {elt : Den} {n : Nat} {d : DV} {ds acc : List DV} {μ2 : List MO} {aF : List DV} {μF : List MO} (h : lcLoopG j j' fi1 elt ρ n (d :: ds) acc μ2 = some (aF, μF)) :
    ∃ es μ4 accE μE, fi1 ((ρ.set j' none).set j (some d)) (μ2 ++ [.lst acc]) = some (es, μ4 ++ [.lst acc]) ∧ μ4.length = n ∧
      lcLoop (bd1 j') dT elt ((ρ.set j' none).set j (some d)) n es acc μ4 = some (accE, μE) ∧ lcLoopG j j' fi1 elt ρ n ds accE μE = some (aF, μF) := by
  unfold lcLoopG at h
  cases hc : fi1 ((ρ.set j' none).set j (some d)) (μ2 ++ [.lst acc]) with
  | none => rw [hc] at h; cases h
  | some q =>
    obtain ⟨es, μ3⟩ := q
    rw [hc, bnd_some] at h
    cases hd : dropL n acc μ3 with
    | none => rw [hd] at h; cases h
    | some μ4 =>
      rw [hd] at h
      obtain ⟨e1, e2⟩ := dropL_ok hd
      subst e1
      have h : bnd (lcLoop (bd1 j') dT elt ((ρ.set j' none).set j (some d)) n es acc μ4) (fun acc' μ5 => lcLoopG j j' fi1 elt ρ n ds acc' μ5) = some (aF, μF) := h
      cases hl : lcLoop (bd1 j') dT elt ((ρ.set j' none).set j (some d)) n es acc μ4 with
      | none => rw [hl] at h; cases h
      | some q =>
        obtain ⟨accE, μE⟩ := q
        rw [hl, bnd_some] at h
        exact ⟨es, μ4, accE, μE, rfl, e2, hl, h⟩
theorem lc_len {i : Nat} {elt : Den} {ρ : RO} {n : Nat} : ∀ {ds acc : List DV} {μ : List MO} {aF : List DV} {μF : List MO}, lcLoop (bd1 i) dT elt ρ n ds acc μ = some (aF, μF) → acc.length ≤ aF.length := by
  intro ds
  induction ds with
  | nil => intro acc μ aF μF h; cases h; exact Nat.le_refl _
  | cons d ds ih =>
    intro acc μ aF μF h
    obtain ⟨ρ', t, μ3, b1, c1, hh⟩ := lc_turn h
    rcases hh with ⟨_, y, μ5, μ4, _, _, _, hI'⟩ | ⟨_, μ4, _, _, hI'⟩
    · have z := ih hI'
      rw [List.length_append] at z
      omega
    · exact ih hI'
theorem lcG_len {j j' : Nat} {elt : Den} {ρ : RO} {n : Nat} : ∀ {ds acc : List DV} {μ : List MO} {aF : List DV} {μF : List MO}, lcLoopG j j' fi1 elt ρ n ds acc μ = some (aF, μF) → acc.length ≤ aF.length := by
  intro ds
  induction ds with
  | nil => intro acc μ aF μF h; cases h; exact Nat.le_refl _
  | cons d ds ih =>
    intro acc μ aF μF h
    obtain ⟨es, μ4, accE, μE, _, _, h1, h2⟩ := lcG_turn h
    exact Nat.le_trans (lc_len h1) (ih h2)
theorem lc_SN {elt iter iter1 : Expr} {scope : Scope} {x x' : Str} {px px' : Pos} {R : Cn} (j j' : Nat) (hne : j ≠ j') {ds0 : List DV} {μ10 : List MO} {aF : List DV} {μF : List MO}
    (si : SI X (.Name x px) iter fi) (si1 : ∀ s H C cl fp, SI (blkX X s H scope C cl fp) (.Name x' px') iter1 fi1) (se : ∀ s H C cl fp, SE (blkX X s H scope C cl fp) elt f)
    (e1 : fi ρ μ = some (ds0, μ10)) (e2 : lcLoopG j j' fi1 f ρ μ10.length ds0 [] μ10 = some (aF, μF)) (hz : aF.length ≤ sizeLine) (kk : R (.lst aF) (μF ++ [.dead]))
    (σ : L2.St) (H : Hp) (Q : VK) (q : tEv X ρ μ R σ H Q) :
    tLc2 (aI X (.Name x px) iter) (gName j) tYes (aIB X scope (.Name x' px') iter1) (gName j') tYes (aB X scope elt) [j, j'] [j'] σ H Q := by
  obtain ⟨α, E, q⟩ := q
  refine ⟨_, si ρ μ (fun ds' μ' => ds' = ds0 ∧ μ' = μ10) (by rw [e1]; exact ⟨rfl, rfl⟩), α, E, ?_⟩
  rintro J ds α1 μ1 H1 ⟨ed, em⟩ E1 X1 ok D hD
  subst ed
  subst em
  have hlen : α1.length = μ1.length := E1.live.len
  obtain ⟨kM, lM, eM⟩ := E1.live.layM (o := .lst []) (m := .lst []) hD (fun _ k => ⟨[], upd_same, .nil⟩)
  let P : Nat → Hp → Prop := fun i H' => ∃ acc μ' α', lcLoopG j j' fi1 f ρ μ1.length (ds.drop i) acc μ' = some (aF, μF) ∧ μ'.length = μ1.length ∧ α'[μ1.length]? = some D ∧ Live ⟨X.K, α', μ' ++ [.lst acc], H'⟩ ∧ Kp ⟨X.K, α1, μ1, H1⟩ ⟨X.K, α', μ' ++ [.lst acc], H'⟩
  refine ⟨fun i m H' => m = ds.length - i ∧ i ≤ ds.length ∧ P i H', ⟨ds.length, by simp, Nat.zero_le _, [], μ1, α1 ++ [D], e2, rfl, eM, lM, kM⟩, ?_⟩
  rintro i m H2 ⟨rfl, hi, acc, μ2, α2, hI, hμ, hα, l2, k2⟩
  obtain ⟨go, stop⟩ := ok α2 _ H2 k2 l2
  have kDat : ∀ (μ4 : List MO) (m : MO), μ4.length = μ1.length → (μ4 ++ [m])[μ1.length]? = some m := fun μ4 m e => by
    rw [List.getElem?_append_right (by omega), e, Nat.sub_self]
    rfl
  have setl : ∀ (μ4 : List MO) (m m' : MO), μ4.length = μ1.length → (μ4 ++ [m]).set μ1.length m' = μ4 ++ [m'] := fun μ4 m m' e => by
    rw [← e]
    simp
  by_cases hlt : i < ds.length
  · obtain ⟨g1, g2⟩ := go i ds[i] (by simp [hlt])
    have hd : ds[i]? = some ds[i] := by simp [hlt]
    refine .inr ⟨g1, P (i + 1), fun H' p => ⟨ds.length - (i + 1), by omega, rfl, hlt, p⟩, fun y H3 yy => ?_⟩
    obtain ⟨ky, ly, hy⟩ := g2 y H3 yy
    have k3 := k2.trans ky
    rw [drop_cons hd] at hI
    obtain ⟨es, μ4, accE, μE, t1, t3, t4, t5⟩ := lcG_turn hI
    have ws2 : ∀ (τ : L2.St) (u : Option V), wipe ((wipe τ [j, j']).set j u) [j, j'] = wipe τ [j, j'] := fun τ u => by
      simp only [wipe]
      rw [List.set_set, List.set_comm u none hne, List.set_set, List.set_set]
    show wipe ((wipe σ [j, j']).set j (some y)) [j, j'] = wipe σ [j, j'] ∧ _
    refine ⟨ws2 _ _, ?_⟩
    have E3 : En ⟨X.K, α2, μ2 ++ [.lst acc], H3⟩ ((wipe σ [j, j']).set j (some y)) ((ρ.set j' none).set j (some ds[i])) := by
      have z := (((E1.ext k3 ly).wipe j').wipe j).set j hy
      have eρ : ((ρ.set j' none).set j none).set j (some ds[i]) = (ρ.set j' none).set j (some ds[i]) := by rw [List.set_set]
      rw [eρ] at z
      exact z
    show (if true = true then _ else P (i + 1) H3)
    refine iteT ⟨tEvI X ((ρ.set j' none).set j (some ds[i])) (μ2 ++ [.lst acc]) (fun es' μ' => es' = es ∧ μ' = μ4 ++ [.lst acc]),
      fun s H' C cl fp => si1 s H' C cl fp _ _ _ (by rw [t1]; exact ⟨rfl, rfl⟩), α2, E3, ?_⟩
    rintro J1 es' α4 μ4' H4 ⟨ee, em⟩ E4 k4 ok1
    subst ee
    subst em
    have hα4 := k4.α _ _ hα
    have k34 := k3.trans k4
    have hE := lcG_len t5
    let P1 : Nat → Hp → Prop := fun k H' => ∃ acc' μ' α', lcLoop (bd1 j') dT f ((ρ.set j' none).set j (some ds[i])) μ1.length (es'.drop k) acc' μ' = some (accE, μE) ∧ μ'.length = μ1.length ∧ α'[μ1.length]? = some D ∧ Live ⟨X.K, α', μ' ++ [.lst acc'], H'⟩ ∧ Kp ⟨X.K, α4, μ4 ++ [.lst acc], H4⟩ ⟨X.K, α', μ' ++ [.lst acc'], H'⟩
    refine ⟨fun k m H' => m = es'.length - k ∧ k ≤ es'.length ∧ P1 k H', ⟨es'.length, by simp, Nat.zero_le _, acc, μ4, α4, t4, t3, hα4, E4.live, E4.live.refl⟩, ?_⟩
    rintro k m' H5 ⟨rfl, hk, acc5, μ5, α5, hI5, hμ5, hα5, l5, k5⟩
    obtain ⟨go1, stop1⟩ := ok1 α5 _ H5 k5 l5
    by_cases hlk : k < es'.length
    · obtain ⟨g3, g4⟩ := go1 k es'[k] (by simp [hlk])
      have hdk : es'[k]? = some es'[k] := by simp [hlk]
      refine .inr ⟨g3, P1 (k + 1), fun H' p => ⟨es'.length - (k + 1), by omega, rfl, hlk, p⟩, fun y2 H6 yy2 => ?_⟩
      obtain ⟨ky2, ly2, hy2⟩ := g4 y2 H6 yy2
      rw [drop_cons hdk] at hI5
      obtain ⟨ρ', t, μ7, b1, c1, hh⟩ := lc_turn hI5
      cases b1
      cases c1
      have hh' : ∃ zv μ8 μ9, f (((ρ.set j' none).set j (some ds[i])).set j' (some es'[k])) (μ5 ++ [.lst acc5]) = some (zv, μ8) ∧ μ8 = μ9 ++ [.lst acc5] ∧ μ9.length = μ1.length ∧ lcLoop (bd1 j') dT f ((ρ.set j' none).set j (some ds[i])) μ1.length (es'.drop (k + 1)) (acc5 ++ [zv]) μ9 = some (accE, μE) := by
        rcases hh with ⟨_, zv, μ8, μ9, he, h8, h9, hI'⟩ | ⟨z, _⟩
        · exact ⟨zv, μ8, μ9, he, h8, h9, hI'⟩
        · cases z
      obtain ⟨zv, μ8, μ9, he, h8, h9, hI'⟩ := hh'
      subst h8
      have k6 := k5.trans ky2
      have E6 : En ⟨X.K, α5, μ5 ++ [.lst acc5], H6⟩ ((wipe ((wipe σ [j, j']).set j (some y)) [j']).set j' (some y2)) (((ρ.set j' none).set j (some ds[i])).set j' (some es'[k])) := by
        have z := ((E4.ext k6 ly2).wipe j').set j' hy2
        have eρ : (((ρ.set j' none).set j (some ds[i])).set j' none).set j' (some es'[k]) = ((ρ.set j' none).set j (some ds[i])).set j' (some es'[k]) := by rw [List.set_set]
        rw [eρ] at z
        exact z
      have ws1 : ∀ (τ : L2.St) (u : Option V), wipe ((wipe τ [j']).set j' u) [j'] = wipe τ [j'] := fun τ u => by simp [wipe]
      show wipe ((wipe _ [j']).set j' (some y2)) [j'] = wipe _ [j'] ∧ _
      refine ⟨ws1 _ _, ?_⟩
      show (if true = true then _ else P1 (k + 1) H6)
      refine iteT ⟨tEv X (((ρ.set j' none).set j (some ds[i])).set j' (some es'[k])) (μ5 ++ [.lst acc5]) (fun d μ' => d = zv ∧ μ' = μ9 ++ [.lst acc5]),
        fun s H' C cl fp => (se s H' C cl fp).at he ⟨rfl, rfl⟩, α5, E6, ?_⟩
      rintro v d α7 μ7 H7 ⟨ez, em⟩ E7 k7 hv
      subst ez
      subst em
      have hα7 := k7.α _ _ hα5
      have kD7 := kDat μ9 (.lst acc5) h9
      obtain ⟨vs, o1, o2⟩ := E7.live.ob _ _ _ hα7 kD7
      have hl := o2.length
      have h10 := lc_len hI'
      rw [List.length_append] at h10
      refine ⟨vs, o1, by simp only [List.length_cons, List.length_nil] at h10; omega, ?_⟩
      obtain ⟨k8, l8⟩ := E7.live.put (o := .lst (vs ++ [v])) (m := .lst (acc5 ++ [d])) hα7 kD7 (fun z => nomatch z) fun k => ⟨_, upd_same, HasL.app (k.hasL o2) (.cons (k.has hv) .nil)⟩
      rw [setl _ _ _ h9] at k8 l8
      exact ⟨acc5 ++ [d], μ9, α7, hI', h9, hα7, l8, k6.trans (k7.trans k8)⟩
    · have e : k = es'.length := by omega
      subst e
      rw [List.drop_length] at hI5
      cases hI5
      exact .inl ⟨stop1, _, _, α5, t5, hμ5, hα5, l5, k34.trans k5⟩
  · have e : i = ds.length := by omega
    subst e
    refine .inl ⟨stop, ?_⟩
    rw [List.drop_length] at hI
    cases hI
    obtain ⟨vs, o1, o2⟩ := l2.ob _ _ _ hα (kDat _ _ hμ)
    obtain ⟨k6, l6, nl⟩ := l2.freeze (k := μ1.length)
    rw [setl _ _ _ hμ] at k6 l6 nl
    have k7 := k2.trans k6
    exact q _ _ _ _ _ kk (E1.ext k7 l6) (X1.trans k7) (.lst (.inl ⟨nl _ hα, .inl o1⟩) (k6.hasL o2))
theorem S1.setLcG {elt iter iter1 : Expr} {scope : Scope} {x x' y : Str} {px px' py spos : Pos} (i j j' : Nat) (hne : j ≠ j') (hc : X.calm = true) (hN : X.N.Nodup) (hy : X.N[i]? = some y) (hyl : X.env.scope.names.lookup y = some .local)
    (hsw : swapsWith (.ListComp elt [⟨.Name x px, iter, [], 0⟩, ⟨.Name x' px', iter1, [], 0⟩] scope pos) (some (.Name y py)) spos.line X.env = pure true) (hj : X.N[j]? = some x) (hj' : X.N[j']? = some x') (ok : BlkOk X.N X.env.scope scope [(x, j), (x', j')])
    (hl : ∀ (s : Shared) (H : Hp) (C : Addr) (cl : List (Str × Addr)) (fp : List Addr), Loc (blkX X s H scope C cl fp).env.scope x ∧ ((blkX X s H scope C cl fp).fn x = true ∨ (blkX X s H scope C cl fp).env.scope.names.lookup x = some .local))
    (hl' : ∀ (s : Shared) (H : Hp) (C : Addr) (cl : List (Str × Addr)) (fp : List Addr), Loc (blkX X s H scope C cl fp).env.scope x' ∧ ((blkX X s H scope C cl fp).fn x' = true ∨ (blkX X s H scope C cl fp).env.scope.names.lookup x' = some .local))
    (si : SI X (.Name x px) iter fi) (si1 : ∀ s H C cl fp, SI (blkX X s H scope C cl fp) (.Name x' px') iter1 fi1) (se : ∀ s H C cl fp, SE (blkX X s H scope C cl fp) elt f)
    (hs : ∀ x, foldedSetIterable iter X.env x = pure x := by intro _; rfl) (hs1 : ∀ env x, foldedSetIterable iter1 env x = pure x := by intro _ _; rfl) :
    S1 X (.Assign [.Name y py] (.ListComp elt [⟨.Name x px, iter, [], 0⟩, ⟨.Name x' px', iter1, [], 0⟩] scope pos) spos) (sSet i (dLcG fi j j' fi1 f)) := fun ρ μ R h => by
  obtain ⟨d, μE, e0, h⟩ := okS_bnd h
  have k : okE (dLcG fi j j' fi1 f ρ μ) (fun d μ1 => okS (some (.nx (ρ.set i (some d)) μ1)) R) := by rw [e0]; exact h
  obtain ⟨ds, μ1, e1, k⟩ := okE_bndA k
  obtain ⟨aF, μF, e2, k⟩ := okE_bndA k
  obtain ⟨hz, k⟩ := okE_if k
  refine PSw (ps_setLc2 (own := [(x, j), (x', j')]) (vs1 := [j']) (g := gName j) (g1 := gName j') (tt := tYes) (tt1 := tYes) hc hN hy hyl hsw pi_a ok (fun z hz => by
      rw [List.mem_singleton] at hz
      subst hz
      simp)
    (fun s H C cl fp => pg_name hN hj (hl s H C cl fp).1 (hl s H C cl fp).2) (fun s H C cl fp => pts_nil) (fun s H C cl fp => pi_aB s H C cl fp)
    (fun s H C cl fp => pg_name hN hj' (hl' s H C cl fp).1 (hl' s H C cl fp).2) (fun s H C cl fp => pts_nil) (fun s H C cl fp => pe_aB s H C cl fp) hs hs1)
    fun D σ H ⟨α, E, q⟩ => lc_SN j j' hne (ρ := ρ) (μ := μ) (R := fun d μ1 => okE (Eg.cutd μ d μ1) fun d μ1 => okS (some (.nx (ρ.set i (some d)) μ1)) R) si si1 se e1 e2 (by rw [sl_eq]; exact hz) k σ H _ ⟨α, E, fun v d α1 μ1 H1 r E1 X1 hv => ?_⟩
  obtain ⟨α2, μ2, r2, l2, k2, h2⟩ := cutd_ok r E.live E1.live X1 hv
  exact q.1 _ _ _ _ _ r2 ((E.ext k2 l2).set i h2) k2
end
end Eg

/-! ### min, max of things that lie on the heap: what is compared is told by what stays of the heap (Fx) -/
namespace Eg
open PySem PySem.Spec PyProof.Rows L2
def CmpAt (prog : Program) (w : World) (A : Around) (op : CmpOp) (Fx : Heap → Prop) (P : Nat → Value → Prop) (bt : Nat → Nat → Bool) : Prop :=
  ∀ i j vi vj (s : Shared) (Q : Value → Shared → Prop) (E : Value → Shared → Prop), Fx s.heap → P i vi → P j vj → Q (.bool (bt i j)) s → wpAny (model prog w) A (richCompare op vi vj) Q E s

section
variable {prog : Program} {w : World} {A : Around} {R : Result → Shared → Prop} {I : Addr} {fp wr : List Addr} {n : Nat} {P : Nat → Value → Prop} {St : Nat → Heap → Prop} {Fx : Heap → Prop}
theorem min_turns (W : Walks prog w A.in1 I fp wr n P St) (bt : Nat → Nat → Bool) (hcmp : CmpAt prog w A.in1 .Lt Fx P bt) (S : Addr) (hSf : S ∉ fp)
    (hF : ∀ h h' : Heap, Fx h → (∀ b o, b ∉ wr → b ≠ S → h.get? b = some o → h'.get? b = some o) → Fx h') :
    ∀ (k j : Nat) (s : Shared) (vb : Value) (c : Nat), n - (j + 1) = k → j + 1 ≤ n → St (j + 1) s.heap → Fx s.heap → P (argBest bt j) vb →
    s.heap.get? S = some { cls := .type "list", dict := none, data := .seq #[vb, vb] c, slots := #[] } →
    (∀ v h' tk, P (argBest bt (n - 1)) v → (∀ b o, b ∉ wr → b ≠ S → s.heap.get? b = some o → h'.get? b = some o) → R (.ok (.ret v)) { s with heap := h', toks := tk }) →
    codeAny (model prog w) A (.builtin "min.loop" ⟨[.ref I, .none, .ref S], []⟩) R s := by
  have hSw : S ∉ wr := fun h => hSf (W.sub _ h)
  have hname : (toString "min" ++ toString ".loop" : String) = "min.loop" := by decide
  intro k
  induction k with
  | zero =>
    intro j s vb c hk hj hst hfx hPb hS hR
    have hin : j + 1 = n := by omega
    refine codeAny_builtin F.entry_min_loop ?_
    rw [Around.under_plainId F.plain_min_loop _]
    show wpAny _ A.in1 (seqItems? (.ref S) >>= _) _ _ s
    refine wpAny_bind (wpAny_seqItems hS rfl ?_)
    show wpAny _ A.in1 (tryCatch (pyNext (.ref I)) _ >>= _) _ _ s
    refine wpAny_bind (wpAny_tryCatch (W.done s _ _ (hin ▸ hst) fun h' tk hk' => ?_))
    have hS' := hk' S _ hSw hS
    show wpAny _ A.in1 (updateSeq S (fun _ => #[]) >>= _) _ _ _
    refine wpAny_bind (wpAny_updateSeq hS' rfl (wpAny_bind (wpAny_letGo (wpAny_pure ?_))))
    exact hR vb _ tk (by rw [← hin]; exact hPb) fun b o hbw hbS e => (Heap.get?_update_other _ _ (Ne.symm hbS)).trans (hk' b o hbw e)
  | succ k ih =>
    intro j s vb c hk hj hst hfx hPb hS hR
    have hlt : j + 1 < n := by omega
    refine codeAny_builtin F.entry_min_loop ?_
    rw [Around.under_plainId F.plain_min_loop _]
    show wpAny _ A.in1 (seqItems? (.ref S) >>= _) _ _ s
    refine wpAny_bind (wpAny_seqItems hS rfl ?_)
    show wpAny _ A.in1 (tryCatch (pyNext (.ref I)) _ >>= _) _ _ s
    refine wpAny_bind (wpAny_tryCatch (W.item (j + 1) s _ _ hlt hst fun v h' tk hP hst' hk' => ?_))
    have hS' := hk' S _ hSw hS
    have hfx' : Fx h' := hF _ _ hfx fun b o hbw _ e => hk' b o hbw e
    show wpAny _ A.in1 (tryCatch (holding [v, v] (richCompare .Lt v vb >>= _)) _ >>= _) _ _ _
    refine wpAny_bind (wpAny_tryCatch (wpAny_holding (wpAny_bind (hcmp (j + 1) (argBest bt j) v vb _ _ _ hfx' hP hPb ?_))))
    refine wpAny_bind (wpAny_holding (wpAny_truthy_bool ?_))
    refine wpAny_bind (wpAny_letGo (wpAny_pure ?_))
    cases hb : bt (j + 1) (argBest bt j) with
    | true =>
      simp only [if_true]
      refine wpAny_bind (wpAny_updateSeq hS' rfl (wpAny_bind (wpAny_letGo ?_)))
      rw [hname]
      refine wpAny_pure ⟨plainId_quiet F.plain_min_loop _, ih (j + 1) _ v _ (by omega) hlt (W.frame _ _ _ hst' fun b hbf o e => ?_) (hF _ _ hfx' fun b o _ hbS e => (Heap.get?_update_other _ _ (Ne.symm hbS)).trans e) (by simp only [argBest, hb, if_true]; exact hP) (Heap.get?_update_self _ hS' rfl)
        fun v' h'' tk'' hP' hk'' => ?_⟩
      · exact (Heap.get?_update_other _ _ (fun h : S = b => hSf (by rw [h]; exact hbf))).trans e
      · exact hR v' h'' tk'' hP' fun b o hbw hbS e => hk'' b o hbw hbS ((Heap.get?_update_other _ _ (Ne.symm hbS)).trans (hk' b o hbw e))
    | false =>
      simp only [Bool.false_eq_true, if_false]
      refine wpAny_bind (wpAny_letGo ?_)
      rw [hname]
      refine wpAny_pure ⟨plainId_quiet F.plain_min_loop _, ih (j + 1) _ vb c (by omega) hlt hst' hfx' (by simp only [argBest, hb, Bool.false_eq_true, if_false]; exact hPb) hS' fun v' h'' tk'' hP' hk'' => ?_⟩
      exact hR v' h'' tk'' hP' fun b o hbw hbS e => hk'' b o hbw hbS (hk' b o hbw e)
theorem min_walks {E : Value → Shared → Prop} {s : Shared} {x : Value} {Q : Value → Shared → Prop}
    (h : wpAny (model prog w) A.in1 (pyIter x) (fun it s₂ => ∃ I fp wr n P St bt Fx, it = .ref I ∧ Walks prog w A.in1 I fp wr n P St ∧ St 0 s₂.heap ∧ (∀ b ∈ fp, b < s₂.heap.objs.size) ∧ 0 < n ∧ CmpAt prog w A.in1 .Lt Fx P bt ∧
      Fx s₂.heap ∧ (∀ h h' : Heap, Fx h → (∀ b o, b ∉ wr → b ≠ s₂.heap.objs.size → h.get? b = some o → h'.get? b = some o) → Fx h') ∧
      ∀ v h' tk, P (argBest bt (n - 1)) v → (∀ b o, b ∉ wr → s₂.heap.get? b = some o → h'.get? b = some o) → Q v { s₂ with heap := h', toks := tk }) E s) :
    wpAny (model prog w) A (call (.builtin "min") [x]) Q E s := by
  have hname : (toString "min" ++ toString ".loop" : String) = "min.loop" := by decide
  refine call_function_tree F.kind_min F.plain_min F.entry_min (F.args_min1 _) ?_
  show wpAny _ A.in1 (Builtin.Builtins.bindParams "min" ["key", "default"] 0 ⟨[], []⟩ >>= _) _ _ s
  refine wpAny_bind (wpAny_of_eq (show Builtin.Builtins.bindParams "min" ["key", "default"] 0 ⟨[], []⟩ = pure [none, none] from rfl) ?_)
  refine wpAny_bind (wpAny_pure ?_)
  refine wpAny_bind (wpAny_mono h (fun it s₂ h₂ => ?_) fun _ _ e => e)
  obtain ⟨I, fp, wr, n, P, St, bt, Fx, rfl, W, hst, hfp, hn, hcmp, hfx, hF, hQ⟩ := h₂
  refine wpAny_bind (wpAny_newObj_type ?_)
  have hSf : s₂.heap.objs.size ∉ fp := fun hm => Nat.lt_irrefl _ (hfp _ hm)
  have hSw : s₂.heap.objs.size ∉ wr := fun h => hSf (W.sub _ h)
  rw [hname]
  refine wpAny_pure ⟨plainId_quiet F.plain_min_loop _, ?_⟩
  refine codeAny_builtin F.entry_min_loop ?_
  rw [Around.under_plainId F.plain_min_loop _]
  show wpAny _ A.in1 (seqItems? (.ref s₂.heap.objs.size) >>= _) _ _ _
  refine wpAny_bind (wpAny_seqItems (Heap.get?_push_size _ rfl) rfl ?_)
  show wpAny _ A.in1 (tryCatch (pyNext (.ref I)) _ >>= _) _ _ _
  refine wpAny_bind (wpAny_tryCatch (W.item 0 _ _ _ hn (W.frame _ _ _ hst fun b _ o e => Heap.get?_push_of_some _ e) fun v h' tk hP hst' hk' => ?_))
  have hS' := hk' s₂.heap.objs.size _ hSw (Heap.get?_push_size _ rfl)
  have hfx' : Fx h' := hF _ _ hfx fun b o hbw hbS e => hk' b o hbw (Heap.get?_push_of_some _ e)
  show wpAny _ A.in1 (updateSeq s₂.heap.objs.size (fun _ => #[v, v]) >>= _) _ _ _
  refine wpAny_bind (wpAny_updateSeq hS' rfl ?_)
  rw [hname]
  refine wpAny_pure ⟨plainId_quiet F.plain_min_loop _, min_turns W bt hcmp s₂.heap.objs.size hSf hF _ 0 _ v _ rfl hn (W.frame _ _ _ hst' fun b hbf o e => ?_) (hF _ _ hfx' fun b o _ hbS e => (Heap.get?_update_other _ _ (Ne.symm hbS)).trans e) hP (Heap.get?_update_self _ hS' rfl) fun v' h'' tk'' hP' hk'' => ?_⟩
  · exact (Heap.get?_update_other _ _ (fun h : s₂.heap.objs.size = b => hSf (by rw [h]; exact hbf))).trans e
  · exact hQ v' h'' tk'' hP' fun b o hbw e => hk'' b o hbw (Nat.ne_of_lt (Heap.lt_size e)) ((Heap.get?_update_other _ _ (fun h => Nat.ne_of_lt (Heap.lt_size e) h.symm)).trans (hk' b o hbw (Heap.get?_push_of_some _ e)))
end

section
variable {prog : Program} {w : World} {A : Around} {R : Result → Shared → Prop} {I : Addr} {fp wr : List Addr} {n : Nat} {P : Nat → Value → Prop} {St : Nat → Heap → Prop} {Fx : Heap → Prop}
theorem max_turns (W : Walks prog w A.in1 I fp wr n P St) (bt : Nat → Nat → Bool) (hcmp : CmpAt prog w A.in1 .Gt Fx P bt) (S : Addr) (hSf : S ∉ fp)
    (hF : ∀ h h' : Heap, Fx h → (∀ b o, b ∉ wr → b ≠ S → h.get? b = some o → h'.get? b = some o) → Fx h') :
    ∀ (k j : Nat) (s : Shared) (vb : Value) (c : Nat), n - (j + 1) = k → j + 1 ≤ n → St (j + 1) s.heap → Fx s.heap → P (argBest bt j) vb →
    s.heap.get? S = some { cls := .type "list", dict := none, data := .seq #[vb, vb] c, slots := #[] } →
    (∀ v h' tk, P (argBest bt (n - 1)) v → (∀ b o, b ∉ wr → b ≠ S → s.heap.get? b = some o → h'.get? b = some o) → R (.ok (.ret v)) { s with heap := h', toks := tk }) →
    codeAny (model prog w) A (.builtin "max.loop" ⟨[.ref I, .none, .ref S], []⟩) R s := by
  have hSw : S ∉ wr := fun h => hSf (W.sub _ h)
  have hname : (toString "max" ++ toString ".loop" : String) = "max.loop" := by decide
  intro k
  induction k with
  | zero =>
    intro j s vb c hk hj hst hfx hPb hS hR
    have hin : j + 1 = n := by omega
    refine codeAny_builtin F.entry_max_loop ?_
    rw [Around.under_plainId F.plain_max_loop _]
    show wpAny _ A.in1 (seqItems? (.ref S) >>= _) _ _ s
    refine wpAny_bind (wpAny_seqItems hS rfl ?_)
    show wpAny _ A.in1 (tryCatch (pyNext (.ref I)) _ >>= _) _ _ s
    refine wpAny_bind (wpAny_tryCatch (W.done s _ _ (hin ▸ hst) fun h' tk hk' => ?_))
    have hS' := hk' S _ hSw hS
    show wpAny _ A.in1 (updateSeq S (fun _ => #[]) >>= _) _ _ _
    refine wpAny_bind (wpAny_updateSeq hS' rfl (wpAny_bind (wpAny_letGo (wpAny_pure ?_))))
    exact hR vb _ tk (by rw [← hin]; exact hPb) fun b o hbw hbS e => (Heap.get?_update_other _ _ (Ne.symm hbS)).trans (hk' b o hbw e)
  | succ k ih =>
    intro j s vb c hk hj hst hfx hPb hS hR
    have hlt : j + 1 < n := by omega
    refine codeAny_builtin F.entry_max_loop ?_
    rw [Around.under_plainId F.plain_max_loop _]
    show wpAny _ A.in1 (seqItems? (.ref S) >>= _) _ _ s
    refine wpAny_bind (wpAny_seqItems hS rfl ?_)
    show wpAny _ A.in1 (tryCatch (pyNext (.ref I)) _ >>= _) _ _ s
    refine wpAny_bind (wpAny_tryCatch (W.item (j + 1) s _ _ hlt hst fun v h' tk hP hst' hk' => ?_))
    have hS' := hk' S _ hSw hS
    have hfx' : Fx h' := hF _ _ hfx fun b o hbw _ e => hk' b o hbw e
    show wpAny _ A.in1 (tryCatch (holding [v, v] (richCompare .Gt v vb >>= _)) _ >>= _) _ _ _
    refine wpAny_bind (wpAny_tryCatch (wpAny_holding (wpAny_bind (hcmp (j + 1) (argBest bt j) v vb _ _ _ hfx' hP hPb ?_))))
    refine wpAny_bind (wpAny_holding (wpAny_truthy_bool ?_))
    refine wpAny_bind (wpAny_letGo (wpAny_pure ?_))
    cases hb : bt (j + 1) (argBest bt j) with
    | true =>
      simp only [if_true]
      refine wpAny_bind (wpAny_updateSeq hS' rfl (wpAny_bind (wpAny_letGo ?_)))
      rw [hname]
      refine wpAny_pure ⟨plainId_quiet F.plain_max_loop _, ih (j + 1) _ v _ (by omega) hlt (W.frame _ _ _ hst' fun b hbf o e => ?_) (hF _ _ hfx' fun b o _ hbS e => (Heap.get?_update_other _ _ (Ne.symm hbS)).trans e) (by simp only [argBest, hb, if_true]; exact hP) (Heap.get?_update_self _ hS' rfl)
        fun v' h'' tk'' hP' hk'' => ?_⟩
      · exact (Heap.get?_update_other _ _ (fun h : S = b => hSf (by rw [h]; exact hbf))).trans e
      · exact hR v' h'' tk'' hP' fun b o hbw hbS e => hk'' b o hbw hbS ((Heap.get?_update_other _ _ (Ne.symm hbS)).trans (hk' b o hbw e))
    | false =>
      simp only [Bool.false_eq_true, if_false]
      refine wpAny_bind (wpAny_letGo ?_)
      rw [hname]
      refine wpAny_pure ⟨plainId_quiet F.plain_max_loop _, ih (j + 1) _ vb c (by omega) hlt hst' hfx' (by simp only [argBest, hb, Bool.false_eq_true, if_false]; exact hPb) hS' fun v' h'' tk'' hP' hk'' => ?_⟩
      exact hR v' h'' tk'' hP' fun b o hbw hbS e => hk'' b o hbw hbS (hk' b o hbw e)
theorem max_walks {E : Value → Shared → Prop} {s : Shared} {x : Value} {Q : Value → Shared → Prop}
    (h : wpAny (model prog w) A.in1 (pyIter x) (fun it s₂ => ∃ I fp wr n P St bt Fx, it = .ref I ∧ Walks prog w A.in1 I fp wr n P St ∧ St 0 s₂.heap ∧ (∀ b ∈ fp, b < s₂.heap.objs.size) ∧ 0 < n ∧ CmpAt prog w A.in1 .Gt Fx P bt ∧
      Fx s₂.heap ∧ (∀ h h' : Heap, Fx h → (∀ b o, b ∉ wr → b ≠ s₂.heap.objs.size → h.get? b = some o → h'.get? b = some o) → Fx h') ∧
      ∀ v h' tk, P (argBest bt (n - 1)) v → (∀ b o, b ∉ wr → s₂.heap.get? b = some o → h'.get? b = some o) → Q v { s₂ with heap := h', toks := tk }) E s) :
    wpAny (model prog w) A (call (.builtin "max") [x]) Q E s := by
  have hname : (toString "max" ++ toString ".loop" : String) = "max.loop" := by decide
  refine call_function_tree F.kind_max F.plain_max F.entry_max (F.args_max1 _) ?_
  show wpAny _ A.in1 (Builtin.Builtins.bindParams "max" ["key", "default"] 0 ⟨[], []⟩ >>= _) _ _ s
  refine wpAny_bind (wpAny_of_eq (show Builtin.Builtins.bindParams "max" ["key", "default"] 0 ⟨[], []⟩ = pure [none, none] from rfl) ?_)
  refine wpAny_bind (wpAny_pure ?_)
  refine wpAny_bind (wpAny_mono h (fun it s₂ h₂ => ?_) fun _ _ e => e)
  obtain ⟨I, fp, wr, n, P, St, bt, Fx, rfl, W, hst, hfp, hn, hcmp, hfx, hF, hQ⟩ := h₂
  refine wpAny_bind (wpAny_newObj_type ?_)
  have hSf : s₂.heap.objs.size ∉ fp := fun hm => Nat.lt_irrefl _ (hfp _ hm)
  have hSw : s₂.heap.objs.size ∉ wr := fun h => hSf (W.sub _ h)
  rw [hname]
  refine wpAny_pure ⟨plainId_quiet F.plain_max_loop _, ?_⟩
  refine codeAny_builtin F.entry_max_loop ?_
  rw [Around.under_plainId F.plain_max_loop _]
  show wpAny _ A.in1 (seqItems? (.ref s₂.heap.objs.size) >>= _) _ _ _
  refine wpAny_bind (wpAny_seqItems (Heap.get?_push_size _ rfl) rfl ?_)
  show wpAny _ A.in1 (tryCatch (pyNext (.ref I)) _ >>= _) _ _ _
  refine wpAny_bind (wpAny_tryCatch (W.item 0 _ _ _ hn (W.frame _ _ _ hst fun b _ o e => Heap.get?_push_of_some _ e) fun v h' tk hP hst' hk' => ?_))
  have hS' := hk' s₂.heap.objs.size _ hSw (Heap.get?_push_size _ rfl)
  have hfx' : Fx h' := hF _ _ hfx fun b o hbw hbS e => hk' b o hbw (Heap.get?_push_of_some _ e)
  show wpAny _ A.in1 (updateSeq s₂.heap.objs.size (fun _ => #[v, v]) >>= _) _ _ _
  refine wpAny_bind (wpAny_updateSeq hS' rfl ?_)
  rw [hname]
  refine wpAny_pure ⟨plainId_quiet F.plain_max_loop _, max_turns W bt hcmp s₂.heap.objs.size hSf hF _ 0 _ v _ rfl hn (W.frame _ _ _ hst' fun b hbf o e => ?_) (hF _ _ hfx' fun b o _ hbS e => (Heap.get?_update_other _ _ (Ne.symm hbS)).trans e) hP (Heap.get?_update_self _ hS' rfl) fun v' h'' tk'' hP' hk'' => ?_⟩
  · exact (Heap.get?_update_other _ _ (fun h : s₂.heap.objs.size = b => hSf (by rw [h]; exact hbf))).trans e
  · exact hQ v' h'' tk'' hP' fun b o hbw e => hk'' b o hbw (Nat.ne_of_lt (Heap.lt_size e)) ((Heap.get?_update_other _ _ (fun h => Nat.ne_of_lt (Heap.lt_size e) h.symm)).trans (hk' b o hbw (Heap.get?_push_of_some _ e)))
end
end Eg

/-! ### tuples of numbers: >, min and max of lists of them -/
namespace Eg
open PySem PySem.Spec PyProof.Rows L2
/-- from the first pair that differs on -/
def lexLt : List Int → List Int → Bool
  | [], [] => false
  | [], _ :: _ => true
  | _ :: _, [] => false
  | x :: xs, y :: ys => if x = y then lexLt xs ys else decide (x < y)
theorem lexAt_lt : ∀ (ns ms : List Int) (i : Nat) (e r : Nat → Bool), (∀ j, e (i + j) = decide (ns.getD j 0 = ms.getD j 0)) → (∀ j, r (i + j) = decide (ns.getD j 0 < ms.getD j 0)) →
    Ob.lexAt e r (decide (ns.length < ms.length)) i (min ns.length ms.length) = lexLt ns ms
  | [], [], i, e, r, _, _ => by simp [Ob.lexAt, lexLt]
  | [], _ :: _, i, e, r, _, _ => by simp [Ob.lexAt, lexLt]
  | _ :: _, [], i, e, r, _, _ => by simp [Ob.lexAt, lexLt]
  | x :: xs, y :: ys, i, e, r, he, hr => by
    have e0 : e i = decide (x = y) := he 0
    have r0 : r i = decide (x < y) := hr 0
    have ih := lexAt_lt xs ys (i + 1) e r (fun j => by have z := he (j + 1); rw [show i + 1 + j = i + (j + 1) by omega, z]; rfl) (fun j => by have z := hr (j + 1); rw [show i + 1 + j = i + (j + 1) by omega, z]; rfl)
    have hm : min (x :: xs).length (y :: ys).length = min xs.length ys.length + 1 := by simp only [List.length_cons]; omega
    have hl : decide ((x :: xs).length < (y :: ys).length) = decide (xs.length < ys.length) := by simp
    rw [hm, hl, Ob.lexAt_succ, e0, r0, ih, lexLt]
    by_cases q : x = y <;> simp [q]
theorem lexAt_gt : ∀ (ns ms : List Int) (i : Nat) (e r : Nat → Bool), (∀ j, e (i + j) = decide (ns.getD j 0 = ms.getD j 0)) → (∀ j, r (i + j) = decide (ms.getD j 0 < ns.getD j 0)) →
    Ob.lexAt e r (decide (ns.length > ms.length)) i (min ns.length ms.length) = lexLt ms ns
  | [], [], i, e, r, _, _ => by simp [Ob.lexAt, lexLt]
  | [], _ :: _, i, e, r, _, _ => by simp [Ob.lexAt, lexLt]
  | _ :: _, [], i, e, r, _, _ => by simp [Ob.lexAt, lexLt]
  | x :: xs, y :: ys, i, e, r, he, hr => by
    have e0 : e i = decide (x = y) := he 0
    have r0 : r i = decide (y < x) := hr 0
    have ih := lexAt_gt xs ys (i + 1) e r (fun j => by have z := he (j + 1); rw [show i + 1 + j = i + (j + 1) by omega, z]; rfl) (fun j => by have z := hr (j + 1); rw [show i + 1 + j = i + (j + 1) by omega, z]; rfl)
    have hm : min (x :: xs).length (y :: ys).length = min xs.length ys.length + 1 := by simp only [List.length_cons]; omega
    have hl : decide ((x :: xs).length > (y :: ys).length) = decide (xs.length > ys.length) := by simp
    rw [hm, hl, Ob.lexAt_succ, e0, r0, ih, lexLt]
    by_cases q : x = y
    · simp [q]
    · have q' : ¬ y = x := fun z => q z.symm
      simp [q, q']
section
variable {A : Around} {s : Shared} {t t' : Addr} {its its2 : List Value} {ns ms : List Int}
theorem at_ints (i1 : IntsAre its ns) (j : Nat) (h1 : j < its.toArray.size) : ∃ t, its.toArray[j] = .int (ns.getD j 0) t := PyProof.Rows.IntsAre.int_at i1 _ _ (by simp at h1; simp [h1])
theorem eq_ints (i1 : IntsAre its ns) (i2 : IntsAre its2 ms) : ∀ j (h1 : j < its.toArray.size) (h2 : j < its2.toArray.size), SeqAt.EqAt A s its.toArray[j] its2.toArray[j] (decide (ns.getD j 0 = ms.getD j 0)) := fun j h1 h2 => by
  obtain ⟨t, et⟩ := at_ints i1 j h1
  obtain ⟨t', et'⟩ := at_ints i2 j h2
  rw [et, et']
  have z : (ns.getD j 0 == ms.getD j 0) = decide (ns.getD j 0 = ms.getD j 0) := by
    by_cases q : ns.getD j 0 = ms.getD j 0
    · rw [decide_eq_true q]; exact beq_iff_eq.mpr q
    · rw [decide_eq_false q]; exact beq_eq_false_iff_ne.mpr q
  rw [← z]
  exact SeqAt.EqAt.int_int _ _ _ _
theorem lt_tups (p1 : s.heap.IsTuple t its.toArray) (p2 : s.heap.IsTuple t' its2.toArray) (i1 : IntsAre its ns) (i2 : IntsAre its2 ms) (hu : A.units < cLine) : Ob.RcOp .Lt A s (.ref t) (.ref t') (lexLt ns ms) := by
  have e1 : its.toArray.size = ns.length := by rw [List.size_toArray]; exact i1.length
  have e2 : its2.toArray.size = ms.length := by rw [List.size_toArray]; exact i2.length
  have R := Ob.RcOp.tuples_lt (A := A) (s := s) (e := fun j => decide (ns.getD j 0 = ms.getD j 0)) (r := fun j => decide (ns.getD j 0 < ms.getD j 0)) p1 p2 hu (eq_ints i1 i2) (fun j h1 h2 _ => by
    obtain ⟨t, et⟩ := at_ints i1 j h1
    obtain ⟨t', et'⟩ := at_ints i2 j h2
    rw [et, et']
    exact Ob.RcOp.lt_int _ _ _ _)
  rw [e1, e2, lexAt_lt ns ms 0 _ _ (fun j => by rw [Nat.zero_add]) (fun j => by rw [Nat.zero_add])] at R
  exact R
theorem gt_tups (p1 : s.heap.IsTuple t its.toArray) (p2 : s.heap.IsTuple t' its2.toArray) (i1 : IntsAre its ns) (i2 : IntsAre its2 ms) (hu : A.units < cLine) : Ob.RcOp .Gt A s (.ref t) (.ref t') (lexLt ms ns) := by
  have e1 : its.toArray.size = ns.length := by rw [List.size_toArray]; exact i1.length
  have e2 : its2.toArray.size = ms.length := by rw [List.size_toArray]; exact i2.length
  have R := Ob.RcOp.tuples_gt (A := A) (s := s) (e := fun j => decide (ns.getD j 0 = ms.getD j 0)) (r := fun j => decide (ms.getD j 0 < ns.getD j 0)) p1 p2 hu (eq_ints i1 i2) (fun j h1 h2 _ => by
    obtain ⟨t, et⟩ := at_ints i1 j h1
    obtain ⟨t', et'⟩ := at_ints i2 j h2
    rw [et, et']
    exact Ob.RcOp.gt_int _ _ _ _)
  rw [e1, e2, lexAt_gt ns ms 0 _ _ (fun j => by rw [Nat.zero_add]) (fun j => by rw [Nat.zero_add])] at R
  exact R
end
section
variable {X : Cx}
def rGtU (K : PySem.W.Frag) : R2 := fun x y H Q => ∃ (a b : Addr) (ns ms : List Int), x = .ref a ∧ y = .ref b ∧ SqT K H a (ns.map V.int) ∧ SqT K H b (ms.map V.int) ∧ Q (.bl (lexLt ms ns)) H
theorem op_gtU (hu : X.A.units < cLine) : OpR X (compareOp .Gt) (rGtU X.K) := by
  intro pins s σ H x y v u Q I rx ry h
  obtain ⟨a, b, ns, ms, rfl, rfl, ha, hb, q⟩ := h
  cases rx
  cases ry
  obtain ⟨its, r1, p1, _⟩ := I.tuple ha
  obtain ⟨its2, r2, p2, _⟩ := I.tuple hb
  have z : wpAny (model X.prog X.w) X.A (compareOp .Gt (.ref a) (.ref b)) (EP X pins σ Q) X.xe s := gt_tups p1 p2 (Vals.ints r1) (Vals.ints r2) hu X.prog X.w X.xe (EP X pins σ Q) ⟨.bl _, H, I, rfl, q⟩
  exact z
def sGtU : S2 := fun x y μ R => ∃ ns ms : List Int, x = .tup (ns.map DV.int) ∧ y = .tup (ms.map DV.int) ∧ R (.bl (lexLt ms ns)) μ
theorem rGtU_S : R2S X (rGtU X.K) sGtU := fun α μ H σ ρ x y da db R Q E hx hy h q => by
  obtain ⟨ns, ms, rfl, rfl, hR⟩ := h
  obtain ⟨a, vs, rfl, s1, t1⟩ := sqT_of hx
  obtain ⟨b, us, rfl, s2, t2⟩ := sqT_of hy
  have ev := ints_has t1
  have eu := ints_has t2
  subst ev
  subst eu
  exact ⟨a, b, ns, ms, rfl, rfl, s1, s2, q.sc E hR .bl⟩
/-- > of numbers, of tuples of numbers -/
def oGtU : DV → DV → List MO → RE
  | .int i, .int j, μ => some (.bl (decide (j < i)), μ)
  | .tup xs, .tup ys, μ => match intsD xs, intsD ys with
    | some ns, some ms => some (.bl (lexLt ms ns), μ)
    | _, _ => none
  | _, _, _ => none
theorem gtU_rule (hu : X.A.units + 64 < cLine) : ∀ x y μ R, okE (oGtU x y μ) R → ∃ (r : R2) (S : S2), OpR X (compareOp .Gt) r ∧ R2S X r S ∧ S x y μ R := by
  intro x y μ R h
  unfold oGtU at h
  split at h
  · exact ⟨_, _, op_gt, (rI0_S fun _ _ _ => .bl : R2S X _ sGt), sGt.mk h⟩
  · split at h
    · rename_i e1 e2
      exact ⟨_, _, op_gtU (by omega), rGtU_S, _, _, by rw [intsD_eq e1], by rw [intsD_eq e2], h⟩
    · exact h.elim
  · exact h.elim
variable {a b e : Expr} {es : List Expr} {fa fb : Den} {fs : DenA} {pos p : Pos}
theorem SE.gtU (hu : X.A.units + 64 < cLine) (sa : SE X a fa) (sb : SE X b fb) (hm : behindInMarks .Gt b = false := by rfl) : SE X (.Compare a [.Gt] [b] pos) (dOp2 oGtU fa fb) := SE.op2 sa sb fun x y μ2 R h => by
  obtain ⟨r, S, h1, h2, h3⟩ := gtU_rule hu x y μ2 R h
  exact ⟨S, h3, fun ρ μ k => Ev.cmp h1 h2 hm k⟩
theorem ST.gtU (hu : X.A.units + 64 < cLine) (sa : SE X a fa) (sb : SE X b fb) (hm : behindInMarks .Gt b = false := by rfl) : ST X (.Compare a [.Gt] [b] pos) (dOp2 oGtU fa fb) := ST.op2 sa sb fun x y μ2 R h => by
  obtain ⟨r, S, h1, h2, h3⟩ := gtU_rule hu x y μ2 R h
  exact ⟨S, h3, fun R' e ρ μ k => by subst e; exact EvT.cmpS h1 h2 hm k⟩
/-! ### the best of a list -/
def bestT (bt : List Int → List Int → Bool) : List Int → List (List Int) → List Int
  | b, [] => b
  | b, r :: rs => bestT bt (if bt r b then r else b) rs
theorem bestT_snoc {bt : List Int → List Int → Bool} : ∀ (l : List (List Int)) (b r : List Int), bestT bt b (l ++ [r]) = if bt r (bestT bt b l) then r else bestT bt b l
  | [], b, r => rfl
  | x :: l, b, r => by rw [List.cons_append, bestT, bestT_snoc l, bestT]
theorem argBest_le (bt : Nat → Nat → Bool) : ∀ k, argBest bt k ≤ k
  | 0 => Nat.le_refl _
  | k + 1 => by
    have z := argBest_le bt k
    rw [argBest]
    split <;> omega
theorem best_at {bt : List Int → List Int → Bool} {r0 : List Int} {rs : List (List Int)} : ∀ k, k ≤ rs.length → (r0 :: rs).getD (argBest (fun i j => bt ((r0 :: rs).getD i []) ((r0 :: rs).getD j [])) k) [] = bestT bt r0 (rs.take k)
  | 0, _ => rfl
  | k + 1, h => by
    have ih := best_at (bt := bt) (r0 := r0) (rs := rs) k (by omega)
    have hk : k < rs.length := by omega
    have hg : (r0 :: rs).getD (k + 1) [] = rs[k] := by rw [List.getD_cons_succ, List.getD_eq_getElem?_getD, List.getElem?_eq_getElem hk]; rfl
    rw [List.take_succ_eq_append_getElem hk, bestT_snoc, argBest]
    rw [hg, ih]
    split
    · exact hg
    · exact ih
def minT : List (List Int) → Option (List Int)
  | [] => none
  | r :: rs => some (bestT lexLt r rs)
def maxT : List (List Int) → Option (List Int)
  | [] => none
  | r :: rs => some (bestT (fun x y => lexLt y x) r rs)
def rowsI : List DV → Option (List (List Int))
  | [] => some []
  | .tup xs :: r => match intsD xs, rowsI r with
    | some ns, some rs => some (ns :: rs)
    | _, _ => none
  | _ :: _ => none
theorem rowsI_eq : ∀ {ds : List DV} {rs : List (List Int)}, rowsI ds = some rs → ds = rs.map fun r => DV.tup (r.map DV.int)
  | [], _, e => by cases e; rfl
  | .tup xs :: r, _, e => by
    unfold rowsI at e
    split at e
    · rename_i e1 e2
      cases e
      rw [List.map_cons, ← intsD_eq e1, ← rowsI_eq e2]
    · cases e
  | .non :: r, _, e => by cases e
  | .bl _ :: r, _, e => by cases e
  | .int _ :: r, _, e => by cases e
  | .str _ :: r, _, e => by cases e
  | .lst _ :: r, _, e => by cases e
  | .dic _ :: r, _, e => by cases e
  | .exc _ _ :: r, _, e => by cases e
  | .mu _ :: r, _, e => by cases e
  | .rg _ _ :: r, _, e => by cases e
  | .fn _ :: r, _, e => by cases e
end

section
variable {X : Cx} {a b e : Expr} {es : List Expr} {fa fb : Den} {fs : DenA} {pos p : Pos}
def rminU (K : PySem.W.Frag) : List V → Hp → VK → Prop := fun vs H Q => ∃ (a : Addr) (xs : List V) (rs : List (List Int)), vs = [V.ref a] ∧ SqL K H a xs ∧ xs.length = rs.length ∧
  (∀ (i : Nat) (r : List Int), rs[i]? = some r → ∃ t : Addr, xs[i]? = some (V.ref t) ∧ SqT K H t (List.map V.int r)) ∧ 0 < rs.length ∧ ∀ x, xs[argBest (fun i j => lexLt (rs.getD i []) (rs.getD j [])) (rs.length - 1)]? = some x → Q x H
theorem cr_minU (hc : X.calm = true) (hu : X.A.units + 64 < cLine) : CallR X (.builtin "min") (rminU X.K) := by
  intro pins s σ H vs us Q I r h
  obtain ⟨a, xs, rs, rfl, hs, hlen, ht, h0, q⟩ := h
  obtain ⟨its, rv, hl, _⟩ := I.list hs
  rw [Vals.ref1 r]
  have hlt : a < s.heap.objs.size := by
    obtain ⟨_, e, _⟩ := hl.isList
    exact Heap.lt_size e
  have hil : its.length = rs.length := by rw [← rv.length]; exact hlen
  have tup : ∀ (i : Nat) (r : List Int), rs[i]? = some r → ∃ (t : Addr) (jts : List Value), xs[i]? = some (V.ref t) ∧ its[i]? = some (Value.ref t) ∧ s.heap.IsTuple t jts.toArray ∧ IntsAre jts r := fun i r hi => by
    obtain ⟨t, e1, e2⟩ := ht i r hi
    obtain ⟨u, e3, e4⟩ := rv.get e1
    cases e4
    obtain ⟨jts, r1, p1, _⟩ := I.tuple e2
    exact ⟨t, jts, e1, e3, p1, Vals.ints r1⟩
  have at' : ∀ (i : Nat) (v : Value), its.toArray[i]? = some v → ∃ (t : Addr) (jts : List Value), xs[i]? = some (V.ref t) ∧ v = Value.ref t ∧ s.heap.IsTuple t jts.toArray ∧ IntsAre jts (rs.getD i []) := fun i v hv => by
    have hv : its[i]? = some v := by simpa using hv
    have hi : i < rs.length := by
      have z := (List.getElem?_eq_some_iff.mp hv).1
      omega
    obtain ⟨t, jts, e1, e2, e3, e4⟩ := tup i rs[i] (by simp [hi])
    rw [e2] at hv
    cases hv
    refine ⟨t, jts, e1, rfl, e3, ?_⟩
    rw [List.getD_eq_getElem?_getD, List.getElem?_eq_getElem hi]
    exact e4
  have hsz : (s.heap.push { cls := .type "list_iterator", data := .fields #[.ref a, .int 0 0] }).objs.size = s.heap.objs.size + 1 := Heap.size_push ..
  have keepT : ∀ {h : Heap} {t : Addr} {jts : List Value}, (∀ b o, s.heap.get? b = some o → h.get? b = some o) → s.heap.IsTuple t jts.toArray → h.IsTuple t jts.toArray := fun k ⟨o, e, z⟩ => ⟨o, k _ _ e, z⟩
  refine min_walks (wpAny_pyIter_list hl.isList ?_)
  refine ⟨_, _, _, _, _, _, fun i j => lexLt (rs.getD i []) (rs.getD j []), fun h => ∀ b o, s.heap.get? b = some o → h.get? b = some o, rfl, Walks.list (A := X.A.in1) (I.ok.hd hc) s.heap.objs.size a (Nat.ne_of_lt hlt) its.toArray,
    ⟨⟨_, Heap.get?_push_size _ rfl, rfl, rfl⟩, hl.isList.push _⟩, fun b hb => ?_, by rw [List.size_toArray]; omega, fun i j vi vj s' Q' E' hfx hi hj hq => ?_, fun b o e => Heap.get?_push_of_some _ e, fun h h' hf hk b o e => ?_, fun v h' tk hP hk => ?_⟩
  · show b < (s.heap.push _).objs.size
    rw [hsz]
    rcases List.mem_cons.mp hb with e | hb
    · rw [e]
      exact Nat.lt_succ_self _
    · rw [List.mem_singleton.mp hb]
      exact Nat.lt_succ_of_lt hlt
  · obtain ⟨t1, j1, _, rfl, p1, i1⟩ := at' i vi hi
    obtain ⟨t2, j2, _, rfl, p2, i2⟩ := at' j vj hj
    exact lt_tups (keepT hfx p1) (keepT hfx p2) i1 i2 (by rw [units_in1]; omega) X.prog X.w E' Q' hq
  · have hb := Heap.lt_size e
    refine hk b o (fun hm => ?_) (fun z => ?_) (hf b o e)
    · have e1 : b = s.heap.objs.size := List.mem_singleton.mp hm
      rw [e1] at hb
      exact Nat.lt_irrefl _ hb
    · have z' : b = (s.heap.push { cls := .type "list_iterator", data := .fields #[.ref a, .int 0 0] }).objs.size := z
      rw [hsz] at z'
      rw [z'] at hb
      exact Nat.not_lt.mpr (Nat.le_succ _) hb
  · obtain ⟨t, jts, e1, rfl, _, _⟩ := at' _ v hP
    rw [List.size_toArray, hil] at e1
    refine ⟨.ref t, H, I.kept (t' := tk) fun b u e => hk b u (fun hmem => ?_) (Heap.get?_push_of_some _ e), rfl, q _ e1⟩
    have e1 : b = s.heap.objs.size := List.mem_singleton.mp hmem
    have e2 := Heap.lt_size e
    rw [e1] at e2
    exact absurd e2 (Nat.lt_irrefl _)
def sminU : SA := fun ds μ R => ∃ (xs : List DV) (rs : List (List Int)) (r : List Int), ds = [.lst xs] ∧ xs = rs.map (fun r => DV.tup (r.map DV.int)) ∧ minT rs = some r ∧ R (.tup (r.map DV.int)) μ
theorem minU_S : RaS X (rminU X.K) sminU := fun α μ H σ ρ vs ds R Q E hv h q => by
  obtain ⟨xs, rs, m, rfl, rfl, hm, hR⟩ := h
  obtain ⟨v, rfl, hw⟩ := hasL1 hv
  obtain ⟨a, us, rfl, s1, t1⟩ := sqL_of hw
  have hl := t1.length
  rw [List.length_map] at hl
  have h0 : 0 < rs.length := by
    cases rs with
    | nil => cases hm
    | cons _ _ => exact Nat.succ_pos _
  refine ⟨a, us, rs, rfl, s1, hl, fun i r hi => ?_, h0, fun x hx => ?_⟩
  · obtain ⟨x, e1, e2⟩ := t1.get (i := i) (d := .tup (r.map DV.int)) (by rw [List.getElem?_map, hi]; rfl)
    obtain ⟨t, ws, rfl, s2, t2⟩ := sqT_of e2
    have ev := ints_has t2
    subst ev
    exact ⟨t, e1, s2⟩
  · obtain ⟨d, e1, e2⟩ := t1.gett hx
    cases rs with
    | nil => cases hm
    | cons r0 rs =>
      have eb := best_at (bt := fun x y => lexLt x y) (r0 := r0) (rs := rs) rs.length (Nat.le_refl _)
      rw [List.take_length] at eb
      have em : m = bestT (fun x y => lexLt x y) r0 rs := (Option.some.inj hm).symm
      have hlt := argBest_le (fun i j => lexLt ((r0 :: rs).getD i []) ((r0 :: rs).getD j [])) rs.length
      rw [List.length_cons, Nat.add_sub_cancel] at e1
      rw [List.getElem?_map, List.getElem?_eq_getElem (by rw [List.length_cons]; omega)] at e1
      rw [List.getD_eq_getElem?_getD, List.getElem?_eq_getElem (by rw [List.length_cons]; omega)] at eb
      have ed : d = .tup (m.map DV.int) := by
        rw [em, ← eb]
        exact (Option.some.inj e1).symm
      subst ed
      exact q.sc E hR e2
/-- of a list of numbers, or of tuples of numbers -/
def oMin1U : List DV → List MO → RE
  | [.lst xs], μ => match intsD xs with
    | some ns => (minI ns).map fun m => (.int m, μ)
    | none => match rowsI xs with
      | some rs => (minT rs).map fun m => (.tup (m.map DV.int), μ)
      | none => none
  | _, _ => none
theorem SE.min1U (hc : X.calm = true) (hu : X.A.units + 64 < cLine) (hg : Gl X "min") (hm : X.mg "min" = none) (ss : SAr X [a] fs) (he : starEach [a] X.env = (false, eval a X.env) :: starEach [] X.env := by rfl) : SE X (.Call (.Name "min" p) [a] [] pos) (dBlt oMin1U fs) :=
  SE.blt ss (S := fun ds μ R => sMin ds μ R ∨ sminU ds μ R) (fun ds μ R h => by
    unfold oMin1U at h
    split at h
    · rename_i xs _
      split at h
      · rename_i ns e
        obtain ⟨m, em, r⟩ := okE_map (g := DV.int) h
        have hne : ns ≠ [] := by rintro rfl; cases em
        exact .inl ⟨_, ns, rfl, by rw [intsD_eq e]; rfl, (fun _ z => nomatch z), List.length_pos_iff.mpr hne, fun m' h1 h2 => by rw [minI_eq em h1 h2]; exact r⟩
      · split at h
        · rename_i rs e
          obtain ⟨m, em, r⟩ := okE_map (g := fun m : List Int => DV.tup (m.map DV.int)) h
          exact .inr ⟨_, rs, m, rfl, rowsI_eq e, em, r⟩
        · exact h.elim
    · exact h.elim) fun ρ μ R k => .callB (r := fun vs H Q => rMin X.K vs H Q ∨ rminU X.K vs H Q) (fun pins s σ H vs us Q I r h => by
      rcases h with h | h
      · exact cr_min hc pins s σ H vs us Q I r h
      · exact cr_minU hc hu pins s σ H vs us Q I r h) (fun α μ H σ ρ vs ds R Q E hv h q => by
      rcases h with h | h
      · exact .inl (min_S α μ H σ ρ vs ds R Q E hv h q)
      · exact .inr (minU_S α μ H σ ρ vs ds R Q E hv h q) : RaS X (fun vs H Q => rMin X.K vs H Q ∨ rminU X.K vs H Q) (fun ds μ R => sMin ds μ R ∨ sminU ds μ R)) hg hm PyProof.Rows.boot_min k (by decide) (by decide) he rfl
end

section
variable {X : Cx} {a b e : Expr} {es : List Expr} {fa fb : Den} {fs : DenA} {pos p : Pos}
def rmaxU (K : PySem.W.Frag) : List V → Hp → VK → Prop := fun vs H Q => ∃ (a : Addr) (xs : List V) (rs : List (List Int)), vs = [V.ref a] ∧ SqL K H a xs ∧ xs.length = rs.length ∧
  (∀ (i : Nat) (r : List Int), rs[i]? = some r → ∃ t : Addr, xs[i]? = some (V.ref t) ∧ SqT K H t (List.map V.int r)) ∧ 0 < rs.length ∧ ∀ x, xs[argBest (fun i j => lexLt (rs.getD j []) (rs.getD i [])) (rs.length - 1)]? = some x → Q x H
theorem cr_maxU (hc : X.calm = true) (hu : X.A.units + 64 < cLine) : CallR X (.builtin "max") (rmaxU X.K) := by
  intro pins s σ H vs us Q I r h
  obtain ⟨a, xs, rs, rfl, hs, hlen, ht, h0, q⟩ := h
  obtain ⟨its, rv, hl, _⟩ := I.list hs
  rw [Vals.ref1 r]
  have hlt : a < s.heap.objs.size := by
    obtain ⟨_, e, _⟩ := hl.isList
    exact Heap.lt_size e
  have hil : its.length = rs.length := by rw [← rv.length]; exact hlen
  have tup : ∀ (i : Nat) (r : List Int), rs[i]? = some r → ∃ (t : Addr) (jts : List Value), xs[i]? = some (V.ref t) ∧ its[i]? = some (Value.ref t) ∧ s.heap.IsTuple t jts.toArray ∧ IntsAre jts r := fun i r hi => by
    obtain ⟨t, e1, e2⟩ := ht i r hi
    obtain ⟨u, e3, e4⟩ := rv.get e1
    cases e4
    obtain ⟨jts, r1, p1, _⟩ := I.tuple e2
    exact ⟨t, jts, e1, e3, p1, Vals.ints r1⟩
  have at' : ∀ (i : Nat) (v : Value), its.toArray[i]? = some v → ∃ (t : Addr) (jts : List Value), xs[i]? = some (V.ref t) ∧ v = Value.ref t ∧ s.heap.IsTuple t jts.toArray ∧ IntsAre jts (rs.getD i []) := fun i v hv => by
    have hv : its[i]? = some v := by simpa using hv
    have hi : i < rs.length := by
      have z := (List.getElem?_eq_some_iff.mp hv).1
      omega
    obtain ⟨t, jts, e1, e2, e3, e4⟩ := tup i rs[i] (by simp [hi])
    rw [e2] at hv
    cases hv
    refine ⟨t, jts, e1, rfl, e3, ?_⟩
    rw [List.getD_eq_getElem?_getD, List.getElem?_eq_getElem hi]
    exact e4
  have hsz : (s.heap.push { cls := .type "list_iterator", data := .fields #[.ref a, .int 0 0] }).objs.size = s.heap.objs.size + 1 := Heap.size_push ..
  have keepT : ∀ {h : Heap} {t : Addr} {jts : List Value}, (∀ b o, s.heap.get? b = some o → h.get? b = some o) → s.heap.IsTuple t jts.toArray → h.IsTuple t jts.toArray := fun k ⟨o, e, z⟩ => ⟨o, k _ _ e, z⟩
  refine max_walks (wpAny_pyIter_list hl.isList ?_)
  refine ⟨_, _, _, _, _, _, fun i j => lexLt (rs.getD j []) (rs.getD i []), fun h => ∀ b o, s.heap.get? b = some o → h.get? b = some o, rfl, Walks.list (A := X.A.in1) (I.ok.hd hc) s.heap.objs.size a (Nat.ne_of_lt hlt) its.toArray,
    ⟨⟨_, Heap.get?_push_size _ rfl, rfl, rfl⟩, hl.isList.push _⟩, fun b hb => ?_, by rw [List.size_toArray]; omega, fun i j vi vj s' Q' E' hfx hi hj hq => ?_, fun b o e => Heap.get?_push_of_some _ e, fun h h' hf hk b o e => ?_, fun v h' tk hP hk => ?_⟩
  · show b < (s.heap.push _).objs.size
    rw [hsz]
    rcases List.mem_cons.mp hb with e | hb
    · rw [e]
      exact Nat.lt_succ_self _
    · rw [List.mem_singleton.mp hb]
      exact Nat.lt_succ_of_lt hlt
  · obtain ⟨t1, j1, _, rfl, p1, i1⟩ := at' i vi hi
    obtain ⟨t2, j2, _, rfl, p2, i2⟩ := at' j vj hj
    exact gt_tups (keepT hfx p1) (keepT hfx p2) i1 i2 (by rw [units_in1]; omega) X.prog X.w E' Q' hq
  · have hb := Heap.lt_size e
    refine hk b o (fun hm => ?_) (fun z => ?_) (hf b o e)
    · have e1 : b = s.heap.objs.size := List.mem_singleton.mp hm
      rw [e1] at hb
      exact Nat.lt_irrefl _ hb
    · have z' : b = (s.heap.push { cls := .type "list_iterator", data := .fields #[.ref a, .int 0 0] }).objs.size := z
      rw [hsz] at z'
      rw [z'] at hb
      exact Nat.not_lt.mpr (Nat.le_succ _) hb
  · obtain ⟨t, jts, e1, rfl, _, _⟩ := at' _ v hP
    rw [List.size_toArray, hil] at e1
    refine ⟨.ref t, H, I.kept (t' := tk) fun b u e => hk b u (fun hmem => ?_) (Heap.get?_push_of_some _ e), rfl, q _ e1⟩
    have e1 : b = s.heap.objs.size := List.mem_singleton.mp hmem
    have e2 := Heap.lt_size e
    rw [e1] at e2
    exact absurd e2 (Nat.lt_irrefl _)
def smaxU : SA := fun ds μ R => ∃ (xs : List DV) (rs : List (List Int)) (r : List Int), ds = [.lst xs] ∧ xs = rs.map (fun r => DV.tup (r.map DV.int)) ∧ maxT rs = some r ∧ R (.tup (r.map DV.int)) μ
theorem maxU_S : RaS X (rmaxU X.K) smaxU := fun α μ H σ ρ vs ds R Q E hv h q => by
  obtain ⟨xs, rs, m, rfl, rfl, hm, hR⟩ := h
  obtain ⟨v, rfl, hw⟩ := hasL1 hv
  obtain ⟨a, us, rfl, s1, t1⟩ := sqL_of hw
  have hl := t1.length
  rw [List.length_map] at hl
  have h0 : 0 < rs.length := by
    cases rs with
    | nil => cases hm
    | cons _ _ => exact Nat.succ_pos _
  refine ⟨a, us, rs, rfl, s1, hl, fun i r hi => ?_, h0, fun x hx => ?_⟩
  · obtain ⟨x, e1, e2⟩ := t1.get (i := i) (d := .tup (r.map DV.int)) (by rw [List.getElem?_map, hi]; rfl)
    obtain ⟨t, ws, rfl, s2, t2⟩ := sqT_of e2
    have ev := ints_has t2
    subst ev
    exact ⟨t, e1, s2⟩
  · obtain ⟨d, e1, e2⟩ := t1.gett hx
    cases rs with
    | nil => cases hm
    | cons r0 rs =>
      have eb := best_at (bt := fun x y => lexLt y x) (r0 := r0) (rs := rs) rs.length (Nat.le_refl _)
      rw [List.take_length] at eb
      have em : m = bestT (fun x y => lexLt y x) r0 rs := (Option.some.inj hm).symm
      have hlt := argBest_le (fun i j => lexLt ((r0 :: rs).getD j []) ((r0 :: rs).getD i [])) rs.length
      rw [List.length_cons, Nat.add_sub_cancel] at e1
      rw [List.getElem?_map, List.getElem?_eq_getElem (by rw [List.length_cons]; omega)] at e1
      rw [List.getD_eq_getElem?_getD, List.getElem?_eq_getElem (by rw [List.length_cons]; omega)] at eb
      have ed : d = .tup (m.map DV.int) := by
        rw [em, ← eb]
        exact (Option.some.inj e1).symm
      subst ed
      exact q.sc E hR e2
/-- of a list of numbers, or of tuples of numbers -/
def oMax1U : List DV → List MO → RE
  | [.lst xs], μ => match intsD xs with
    | some ns => (maxI ns).map fun m => (.int m, μ)
    | none => match rowsI xs with
      | some rs => (maxT rs).map fun m => (.tup (m.map DV.int), μ)
      | none => none
  | _, _ => none
theorem SE.max1U (hc : X.calm = true) (hu : X.A.units + 64 < cLine) (hg : Gl X "max") (hm : X.mg "max" = none) (ss : SAr X [a] fs) (he : starEach [a] X.env = (false, eval a X.env) :: starEach [] X.env := by rfl) : SE X (.Call (.Name "max" p) [a] [] pos) (dBlt oMax1U fs) :=
  SE.blt ss (S := fun ds μ R => sMax ds μ R ∨ smaxU ds μ R) (fun ds μ R h => by
    unfold oMax1U at h
    split at h
    · rename_i xs _
      split at h
      · rename_i ns e
        obtain ⟨m, em, r⟩ := okE_map (g := DV.int) h
        have hne : ns ≠ [] := by rintro rfl; cases em
        exact .inl ⟨_, ns, rfl, by rw [intsD_eq e]; rfl, (fun _ z => nomatch z), List.length_pos_iff.mpr hne, fun m' h1 h2 => by rw [maxI_eq em h1 h2]; exact r⟩
      · split at h
        · rename_i rs e
          obtain ⟨m, em, r⟩ := okE_map (g := fun m : List Int => DV.tup (m.map DV.int)) h
          exact .inr ⟨_, rs, m, rfl, rowsI_eq e, em, r⟩
        · exact h.elim
    · exact h.elim) fun ρ μ R k => .callB (r := fun vs H Q => rMax X.K vs H Q ∨ rmaxU X.K vs H Q) (fun pins s σ H vs us Q I r h => by
      rcases h with h | h
      · exact cr_max hc pins s σ H vs us Q I r h
      · exact cr_maxU hc hu pins s σ H vs us Q I r h) (fun α μ H σ ρ vs ds R Q E hv h q => by
      rcases h with h | h
      · exact .inl (max_S α μ H σ ρ vs ds R Q E hv h q)
      · exact .inr (maxU_S α μ H σ ρ vs ds R Q E hv h q) : RaS X (fun vs H Q => rMax X.K vs H Q ∨ rmaxU X.K vs H Q) (fun ds μ R => sMax ds μ R ∨ smaxU ds μ R)) hg hm PyProof.Rows.boot_max k (by decide) (by decide) he rfl
end
end Eg

namespace Eg
open PySem PySem.Spec PyProof.Rows L2
section
variable {ρ : RO} {μ : List MO} {fi fi1 : DenA}
theorem lcLoopG_pure {j j' : Nat} {elt : Den} {es : List DV} {g : DV → DV → DV} {n : Nat} : ∀ (ds acc : List DV) (μ : List MO), μ.length = n →
    (∀ d ∈ ds, (∀ μ', fi1 ((ρ.set j' none).set j (some d)) μ' = some (es, μ')) ∧ ∀ e ∈ es, ∀ μ', elt (((ρ.set j' none).set j (some d)).set j' (some e)) μ' = some (g d e, μ')) →
    lcLoopG j j' fi1 elt ρ n ds acc μ = some (acc ++ ds.flatMap fun d => es.map (g d), μ)
  | [], acc, μ, _, _ => by simp [lcLoopG]
  | d :: ds, acc, μ, hn, h => by
    obtain ⟨e1, e2⟩ := h d List.mem_cons_self
    unfold lcLoopG
    rw [e1, bnd_some, dropL_app hn]
    show bnd (lcLoop (bd1 j') dT elt ((ρ.set j' none).set j (some d)) n es acc μ) (fun acc' μ5 => lcLoopG j j' fi1 elt ρ n ds acc' μ5) = _
    rw [lcLoop_pure (bd := bd1 j') (c := dT) (elt := elt) (ρ := (ρ.set j' none).set j (some d)) (p := fun _ => true) (g := g d) es acc μ hn fun e he => ⟨_, rfl, fun μ' => ⟨rfl, fun _ => e2 e he μ'⟩⟩, bnd_some,
      lcLoopG_pure ds _ μ hn fun d' hd' => h d' (List.mem_cons_of_mem _ hd'), List.filter_eq_self.mpr fun _ _ => rfl]
    simp
theorem dLcG_map {j j' : Nat} {elt : Den} {ds es : List DV} {g : DV → DV → DV} (hi : fi ρ μ = some (ds, μ)) (hz : (ds.flatMap fun d => es.map (g d)).length ≤ 16777216)
    (h : ∀ d ∈ ds, (∀ μ', fi1 ((ρ.set j' none).set j (some d)) μ' = some (es, μ')) ∧ ∀ e ∈ es, ∀ μ', elt (((ρ.set j' none).set j (some d)).set j' (some e)) μ' = some (g d e, μ'))
    (hb : DV.belL μ.length (ds.flatMap fun d => es.map (g d)) = true) :
    dLcG fi j j' fi1 elt ρ μ = some (.lst (ds.flatMap fun d => es.map (g d)), μ) := by
  unfold dLcG
  rw [hi, bnd_some, lcLoopG_pure ds [] μ rfl h, bnd_some, List.nil_append, if_pos hz]
  exact cutd_pure hb
end
end Eg

namespace Eg
open PySem PySem.Spec PyProof.Rows L2
/-! ### defs and ranges as values -/
section
variable {X : Cx} {a b e : Expr} {es : List Expr} {fa fb : Den} {fs : DenA} {ρ : RO} {μ : List MO} {pos p : Pos} {R : Cn} {x y : Str} {k : Nat} {C : Ctr}
/-- a def's name as a value -/
theorem SE.fnv (hg : Gl X y) (hm : X.mg y = some (.ref (He.ga X.K y))) (hd : (y == ("__debug__" : Str)) = false := by decide) : SE X (.Name y pos) (dC (.fn y)) :=
  SE.glob (v := .ref (He.ga X.K y)) hg hm rfl (fun _ _ _ => .fn rfl) hd
theorem Ev.callV (i : Nat) (F : Fn X.prog X.w X.K X.mg X.base y k C) (hA : X.A.guards = some []) (hr : Room k X.A) (hN : X.N[i]? = some x) (hv : Vis X.env.scope x) (hρ : ρ[i]? = some (some (.fn y))) (hy : X.mg y = some (.ref (He.ga X.K y)))
    (h : EvA X (e :: es) ρ μ fun ds μ1 => C ds μ1 R) (hd : (x == ("__debug__" : Str)) = false := by decide) (hcd : (x == ("__classdict__" : Str)) = false := by decide)
    (he : starEach (e :: es) X.env = (false, eval e X.env) :: starEach es X.env := by rfl) (hpl : (backTo pos (starEach es X.env)).any (·.1) = false := by rfl) :
    Ev X (.Call (.Name x p) (e :: es) [] pos) ρ μ R := by
  obtain ⟨f, fd, ps, G, hm, hk, hb⟩ := F
  have ef : f = He.ga X.K y := by
    rw [hy] at hm
    injection hm with hm
    injection hm with hm
    exact hm.symm
  refine ⟨fun pins s σ H Q I ⟨α, E, q⟩ => wpAny_Call_Name_kw ?_⟩
  obtain ⟨v, e1, hw⟩ := E.at_ i _ hρ
  have ev : v = .ref f := by
    cases hw with
    | fn z => rw [ef]; exact congrArg _ z
  subst ev
  refine thn ((pe_var hN hv hd hcd).run pins s σ H (fun v' H' => v' = .ref f ∧ H' = H) I ⟨_, e1, rfl, rfl⟩) ?_
  rintro u s0 ⟨v', H0, I0, ru, rfl, rfl⟩
  obtain rfl : u = Value.ref f := ru
  have ha : PA X (e :: es) (tEvA X ρ μ fun ds μ1 => C ds μ1 R) := h
  refine PySem.W.callWith_K (h₀ := X.base) I0.ok.mod.kin hk (thn (ha.run pos pins s0 σ H0 (fun vs H1 => SpD X.K C vs H1 (fun v H' => Q v H') E0) I0 ⟨α, E, ?_⟩) ?_) he hpl
  · intro vs ds α1 μ1 H1 c E1 X1 hv
    exact ⟨α1, μ1, ds, R, E1.live, hv, c, fun v d α' μ' H' r l k' hd => q v d α' μ' H' r (E1.ext k' l) (X1.trans k') hd⟩
  · rintro us s1 ⟨vs, H1, I1, rv, sp⟩
    refine ⟨I1.kIn, ?_⟩
    have hl : us.length = ps.length := rv.length ▸ G.len _ _ _ _ sp
    refine wpAny_call (codeAny_mono (G.go X.A X.stack s1 H1 ⟨us, []⟩ us vs Q hA hr I1.env0 ?_ rv sp) fun r s2 hq => ?_)
    · have z := hb s1 us I1.kIn (by rw [List.append_nil]; exact hl)
      rw [List.append_nil] at z
      exact z
    · cases r with
      | error er => exact False.elim hq
      | ok fl =>
        cases fl with
        | ret u => exact I1.after hq
        | next => exact False.elim hq
        | brk => exact False.elim hq
        | cont => exact False.elim hq
/-- a call of the def that a slot holds: the table tells what each comes to -/
def dCallV (i : Nat) (tab : List (Str × FD)) (fs : DenA) : Den := fun ρ μ => match ρ[i]? with
  | some (some (.fn y)) => match tab.lookup y with
    | some V => bnd (fs ρ μ) fun ds μ1 => V ds μ1
    | none => none
  | _ => none
theorem SE.callV (i : Nat) {tab : List (Str × FD)} (hF : ∀ y V, tab.lookup y = some V → Fn X.prog X.w X.K X.mg X.base y k (CtrOf V) ∧ X.mg y = some (.ref (He.ga X.K y))) (hA : X.A.guards = some []) (hr : Room k X.A)
    (hN : X.N[i]? = some x) (hv : Vis X.env.scope x) (ss : SAr X (e :: es) fs) (hd : (x == ("__debug__" : Str)) = false := by decide) (hcd : (x == ("__classdict__" : Str)) = false := by decide)
    (he : starEach (e :: es) X.env = (false, eval e X.env) :: starEach es X.env := by rfl) (hpl : (backTo pos (starEach es X.env)).any (·.1) = false := by rfl) :
    SE X (.Call (.Name x p) (e :: es) [] pos) (dCallV i tab fs) := fun ρ μ R h => by
  unfold dCallV at h
  split at h
  · rename_i y hy
    split at h
    · rename_i V hV
      obtain ⟨F, hm⟩ := hF y V hV
      obtain ⟨ds, μ1, e1, h⟩ := okE_bndA h
      exact Ev.callV i F hA hr hN hv hy hm (ss.at e1 h) hd hcd he hpl
    · exact h.elim
  · exact h.elim
/-! ### ranges -/
theorem cr_range1 : CallR X (.type "range") (fun vs H Q => ∃ j, vs = [V.int j] ∧ ∀ p, H p = none → Q (.ref p) (upd H p (.rng 0 j))) := by
  intro pins s σ H vs us Q I r h
  obtain ⟨j, rfl, q⟩ := h
  obtain ⟨u2, rfl, rj⟩ := vals1 r
  obtain ⟨u, rfl⟩ := rj
  refine call_range_1 ⟨.ref s.heap.objs.size, upd H s.heap.objs.size (.rng 0 j), I.laid (t' := s.toks + 1 + 1) (fun b o e => Heap.get?_push_of_some _ e) (Nat.le_refl _) ?_, rfl, q _ (I.hok.fresh (Nat.le_refl _))⟩
  exact ⟨s.toks, u, s.toks + 1, Heap.get?_push_size _ rfl⟩
def oRg1 : List DV → List MO → RE
  | [.int j], μ => some (.rg 0 j, μ)
  | _, _ => none
theorem SE.rg1 (hg : Gl X "range") (hm : X.mg "range" = none) (ss : SAr X [a] fs) (he : starEach [a] X.env = (false, eval a X.env) :: starEach [] X.env := by rfl) : SE X (.Call (.Name "range" p) [a] [] pos) (dBlt oRg1 fs) := fun ρ μ R h => by
  obtain ⟨ds, μ1, e1, h⟩ := okE_bndA h
  refine PEw (pe_callTy cr_range1 hg hm boot_range pa_a (by decide) (by decide) he rfl) fun σ H Q ⟨α, E, q⟩ => ⟨_, ss.at (R := fun ds m => ∃ j : Int, ds = [.int j] ∧ R (.rg 0 j) m) e1 ?_, α, E, ?_⟩
  · unfold oRg1 at h
    split at h
    · exact ⟨_, rfl, h⟩
    · exact h.elim
  · rintro vs ds' α1 μ1' H1 ⟨j, rfl, r⟩ E1 X1 hv
    obtain ⟨v, rfl, hw⟩ := hasL1 hv
    cases hw
    refine ⟨j, rfl, fun b nb => ?_⟩
    obtain ⟨kp, l'⟩ := E1.live.lay (o := .rng 0 j) nb
    exact q _ _ α1 μ1' _ r (E1.ext kp l') (X1.trans kp) (.rg upd_same)
/-- a range that is kept, walked -/
def iRng (t : TE) : TI := fun σ H R => t σ H fun x H1 => ∃ a lo hi, x = V.ref a ∧ H1 a = some (.rng lo hi) ∧ (-(2 ^ 62) ≤ lo ∧ lo < 2 ^ 62 ∧ -(2 ^ 62) ≤ hi ∧ hi < 2 ^ 62) ∧ R (Itr lo (hi - lo).toNat) H1
theorem pi_rng {tg l : Expr} {tl : TE} (hl : PE X l tl) : PI X tg l (iRng tl) := by
  refine ⟨fun pins s σ H R I h => ?_⟩
  refine thn (hl.run pins s σ H _ I h) fun v s1 ⟨x, H1, I1, r1, q1⟩ => ?_
  obtain ⟨a, lo, hi, e, hq, ⟨h1, h2, h3, h4⟩, q⟩ := q1
  subst e
  cases r1
  obtain ⟨t, u, w, ho⟩ := I1.hok a _ hq
  refine wpAny_pyIter_range (show IsRange s1.heap a lo hi 1 t u w from ho) (small_one h1 h2 h3 h4) ?_
  refine ⟨s1.heap.objs.size, [s1.heap.objs.size], _, _, H1, rfl, I1.kept (t' := s1.toks) fun b o e => Heap.get?_push_of_some _ e, turn_range _ lo (hi - lo).toNat, ?_, fun b hb => ?_, q⟩
  · have e1 : lo + ((0 : Nat) : Int) * 1 = lo := by simp
    have e2 : (((hi - lo).toNat : Nat) : Int) - ((0 : Nat) : Int) = Builtin.Range.rangeSize lo hi 1 := by rw [rangeSize_one]; split <;> omega
    show IsRangeIter _ _ (lo + ((0 : Nat) : Int) * 1) ((((hi - lo).toNat : Nat) : Int) - ((0 : Nat) : Int)) 1
    rw [e1, e2]
    exact Heap.get?_push_size _ rfl
  · have e : b = s1.heap.objs.size := by simpa using hb
    subst e
    exact I1.fpOk (Nat.le_refl _) (I1.hok.fresh (Nat.le_refl _))
def iRgV (fa : Den) : DenA := fun ρ μ => bnd (fa ρ μ) fun d μ1 => match d with
  | .rg i j => if -4000000000000000000 ≤ i ∧ i < 4000000000000000000 ∧ -4000000000000000000 ≤ j ∧ j < 4000000000000000000 then some (rgD i (j - i).toNat, μ1) else none
  | _ => none
theorem SI.rgV {tg : Expr} (sa : SE X e fa) : SI X tg e (iRgV fa) := fun ρ μ R k => by
  obtain ⟨d, μ1, e1, k⟩ := okA_bnd k
  split at k
  · rename_i i j
    obtain ⟨c, k⟩ := okA_if k
    refine PIw (pi_rng pe_a) fun σ H Q ⟨α, E, q⟩ => ⟨_, sa.at (R := fun d m => d = .rg i j ∧ R (rgD i (j - i).toNat) m) e1 ⟨rfl, k⟩, α, E, ?_⟩
    rintro v d' α1 μ1' H1 ⟨rfl, r⟩ E1 X1 hv
    cases hv with
    | rg z => exact ⟨_, i, j, rfl, z, by omega, q _ _ α1 μ1' H1 r E1 X1 (itr_ok i (j - i).toNat)⟩
  · exact k.elim
end
end Eg
namespace Eg
open PySem PySem.Spec PyProof.Rows L2
section
variable {P : Program} {w : World} {K : PySem.W.Frag} {mg : Str → Option Value} {base : Heap} {k j : Nat}
def TabOk (P : Program) (w : World) (K : PySem.W.Frag) (mg : Str → Option Value) (base : Heap) (k : Nat) (tab : List (Str × FD)) : Prop :=
  ∀ y V, tab.lookup y = some V → Fn P w K mg base y k (CtrOf V) ∧ mg y = some (.ref (He.ga K y))
theorem TabOk.nil : TabOk P w K mg base k [] := fun _ _ h => nomatch h
theorem TabOk.cons {y : Str} {V : FD} {tab : List (Str × FD)} (F : Fn P w K mg base y j (CtrOf V)) (hy : mg y = some (.ref (He.ga K y))) (hj : j ≤ k) (t : TabOk P w K mg base k tab) : TabOk P w K mg base k ((y, V) :: tab) := fun z U h => by
  rw [List.lookup_cons] at h
  split at h
  · rename_i e
    have e : z = y := eq_of_beq e
    injection h with h
    subst e
    subst h
    exact ⟨F.mono hj, hy⟩
  · exact t z U h
end
end Eg

namespace Eg
open PySem PySem.Spec PyProof.Rows L2
section
variable {X : Cx} {a b c e o : Expr} {es : List Expr} {fa fb fc f : Den} {fs fi : DenA} {pos p p2 pos2 : Pos} {ρ : RO} {μ : List MO}
/-! ### xs.pop(i) -/
theorem HasL.erase {w : Wd} : ∀ {vs : List V} {ds : List DV} (n : Nat), HasL w vs ds → HasL w (vs.eraseIdx n) (ds.eraseIdx n)
  | _, _, _, .nil => .nil
  | _, _, 0, .cons _ t => t
  | _, _, n + 1, .cons h t => .cons h (HasL.erase n t)
theorem Ev.popAt {o : Expr} {R : Cn} {apos cpos : Pos} (h : Ev X o ρ μ fun dO μ1 => ∃ k xs, dO = .mu k ∧ μ1[k]? = some (.lst xs) ∧ EvA X [e] ρ μ1 fun ds μ2 => ∃ (i : Nat) (ys : List DV) (y : DV), ds = [.int (i : Int)] ∧ μ2[k]? = some (.lst ys) ∧ i < 4611686018427387904 ∧ ys[i]? = some y ∧ R y (μ2.set k (.lst (ys.eraseIdx i))))
    (hbase : attributeBase o "pop" X.env (eval o X.env) = eval o X.env := by rfl)
    (hfew : ((backTo cpos (starEach [e] X.env)).all (fun x => !x.1) && (backToKw cpos (keywordEach [] X.env)).all (fun x => x.1.isSome)
      && decide ([e].length + ([] : List Keyword).length + (if ([] : List Keyword).isEmpty then 0 else 1) < 30)) = true := by rfl)
    (hline : (apos.endLine == cpos.line) = true := by rfl) (hs : starEach [e] X.env = (false, eval e X.env) :: starEach [] X.env := by rfl) :
    Ev X (.Call (.Attribute o "pop" apos) [e] [] cpos) ρ μ R :=
  PEw (pe_bm PySem.F.plainAttrs_list PySem.F.slot_list_pop PySem.F.type_list_pop mt_popAt pe_a pa_a hbase hfew hline hs rfl) fun σ H Q ⟨α, E, q⟩ => ⟨_, h, α, E, fun v dO α1 μ1 H1 ⟨k, xs, e1, hk, h1⟩ E1 X1 hv => by
    subst e1
    cases hv with
    | mu ha =>
      obtain ⟨vs, z1, z2⟩ := E1.live.ob k _ _ ha hk
      refine ⟨tyv_of (w := ⟨X.K, α1, μ1, H1⟩) z1, _, h1, α1, E1, fun us ds α2 μ2 H2 ⟨i, ys, y, e2, hk2, hsz, hy, r⟩ E2 X2 hus => ?_⟩
      subst e2
      obtain ⟨u, rfl, hu⟩ := hasL1 hus
      cases hu
      have ha2 := X2.α _ _ ha
      obtain ⟨vs2, y1, y2⟩ := E2.live.ob k _ _ ha2 hk2
      obtain ⟨yv, w1, w2⟩ := y2.get hy
      have hi : i < vs2.length := (List.getElem?_eq_some_iff.mp w1).1
      refine ⟨_, vs2, (i : Int), i, yv, rfl, rfl, y1, by omega, by omega, ?_, w1, ?_⟩
      · unfold seqIndex?
        have c1 : ¬ (i : Int) < 0 := by omega
        simp only [c1, if_false]
        have c2 : (decide (0 ≤ (i : Int)) && decide ((i : Int) < (vs2.length : Int))) = true := by
          simp
          omega
        rw [if_pos c2]
        simp
      · obtain ⟨kp, l⟩ := E2.live.put (o := .lst (vs2.eraseIdx i)) (m := .lst (ys.eraseIdx i)) ha2 hk2 (fun z => nomatch z) fun kp => ⟨_, upd_same, HasL.erase i (kp.hasL y2)⟩
        exact q _ _ _ _ _ r (E2.ext kp l) (X1.trans (X2.trans kp)) (kp.has w2)⟩
def dPop (fo fa : Den) : Den := fun ρ μ => bnd (fo ρ μ) fun o μ1 => match o with
  | .mu k => match μ1[k]? with
    | some (.lst _) => bnd (fa ρ μ1) fun d μ2 => match d, μ2[k]? with
      | .int i, some (.lst ys) => if 0 ≤ i ∧ i < 4611686018427387904 then (match ys[i.toNat]? with
        | some y => some (y, μ2.set k (.lst (ys.eraseIdx i.toNat)))
        | none => none) else none
      | _, _ => none
    | _ => none
  | _ => none
theorem SE.popAt {fo : Den} {apos cpos : Pos} (so : SE X o fo) (sa : SE X e fa)
    (hbase : attributeBase o "pop" X.env (eval o X.env) = eval o X.env := by rfl)
    (hfew : ((backTo cpos (starEach [e] X.env)).all (fun x => !x.1) && (backToKw cpos (keywordEach [] X.env)).all (fun x => x.1.isSome)
      && decide ([e].length + ([] : List Keyword).length + (if ([] : List Keyword).isEmpty then 0 else 1) < 30)) = true := by rfl)
    (hline : (apos.endLine == cpos.line) = true := by rfl) (hs : starEach [e] X.env = (false, eval e X.env) :: starEach [] X.env := by rfl) :
    SE X (.Call (.Attribute o "pop" apos) [e] [] cpos) (dPop fo fa) := fun ρ μ R k => by
  obtain ⟨d, μ1, e1, k⟩ := okE_bnd k
  cases d with
  | mu n =>
    dsimp only at k
    split at k
    · rename_i xs hx
      obtain ⟨d, μ2, e2, k⟩ := okE_bnd k
      split at k
      · rename_i i ys hy
        obtain ⟨c, k⟩ := okE_if k
        split at k
        · rename_i y hyy
          exact Ev.popAt (so.at e1 ⟨n, xs, rfl, hx, EvA.cons (sa.at e2 (EvA.nil ⟨i.toNat, ys, y, by rw [Int.toNat_of_nonneg c.1], hy, by omega, hyy, k⟩)) hs⟩) hbase hfew hline hs
        · exact k.elim
      · exact k.elim
    · exact k.elim
  | _ => exact k.elim
/-! ### list(range(a, b)) that may be changed -/
def dRgM (fa fb : Den) : Den := fun ρ μ => bnd (fa ρ μ) fun x μ1 => bnd (fb ρ μ1) fun y μ2 => match x, y with
  | .int i, .int j => if j - i ≤ 16777216 then some (.mu μ2.length, μ2 ++ [.lst (rgD i (j - i).toNat)]) else none
  | _, _ => none
theorem SE.rgM (hc : X.calm = true) (hg : Gl X "list") (hm : X.mg "list" = none) (hg2 : Gl X "range") (hm2 : X.mg "range" = none) (sa : SE X a fa) (sb : SE X b fb)
    (na : starEach [a, b] X.env = (false, eval a X.env) :: starEach [b] X.env := by rfl) (nb : starEach [b] X.env = (false, eval b X.env) :: starEach [] X.env := by rfl) (hp : (backTo pos2 (starEach [b] X.env)).any (·.1) = false := by rfl)
    (nc : starEach [.Call (.Name "range" p2) [a, b] [] pos2] X.env = (false, eval (.Call (.Name "range" p2) [a, b] [] pos2) X.env) :: starEach [] X.env := by rfl) :
    SE X (.Call (.Name "list" p) [.Call (.Name "range" p2) [a, b] [] pos2] [] pos) (dRgM fa fb) := fun ρ μ R k => by
  obtain ⟨x, μ1, e1, k⟩ := okE_bnd k
  obtain ⟨y, μ2, e2, k⟩ := okE_bnd k
  cases x with
  | int i =>
   cases y with
   | int j =>
    obtain ⟨c, k⟩ := okE_if k
    refine PEw (pe_listRgA hc hg hm (prg_2 hg2 hm2 pe_a pe_a na nb hp) nc) fun σ H Q ⟨α, E, q⟩ => ?_
    refine ⟨_, sa.at (R := fun d m => d = .int i ∧ m = μ1) e1 ⟨rfl, rfl⟩, α, E, ?_⟩
    rintro v d α1 μ1' H1 ⟨rfl, rfl⟩ E1 X1 hv
    cases hv
    refine ⟨_, sb.at (R := fun d m => d = .int j ∧ m = μ2) e2 ⟨rfl, rfl⟩, α1, E1, ?_⟩
    rintro v d α2 μ2' H2 ⟨rfl, rfl⟩ E2 X2 hv
    cases hv
    refine ⟨i, j, rfl, rfl, c, fun q' nq => ?_⟩
    obtain ⟨k2, l2, ix⟩ := E2.live.layM (o := .lst (rgV i j)) (m := .lst (rgD i (j - i).toNat)) nq fun l k => ⟨_, upd_same, rgV_has i j⟩
    exact q _ _ _ _ _ k (E2.ext k2 l2) (X1.trans (X2.trans k2)) (.mu ix)
   | _ => exact k.elim
  | _ => exact k.elim
/-! ### a list that may change, compared -/
def thawD (μ : List MO) : DV → DV
  | .mu k => match μ[k]? with
    | some (.lst xs) => .lst xs
    | _ => .mu k
  | d => d
def oEqM (x y : DV) (μ : List MO) : RE := oEq (thawD μ x) y μ
def oNeM (x y : DV) (μ : List MO) : RE := oNe (thawD μ x) y μ
def sEqM : S2 := fun x y μ R => sEqD (thawD μ x) y μ R
def sNeM : S2 := fun x y μ R => sNeD (thawD μ x) y μ R
theorem dp_thaw {w : Wd} (l : Live w) {v : V} {d : DV} {pd : PyData} (h : Has w v d) (e : toPy (thawD w.μ d) = some pd) (n : pd.hasDict = false) : Dp w.K w.H v pd := by
  cases d with
  | mu k =>
    cases h with
    | @mu _ a ha =>
      have e : toPy (match w.μ[k]? with
        | some (.lst xs) => .lst xs
        | _ => .mu k) = some pd := e
      split at e
      · rename_i xs hx
        obtain ⟨vs, z1, z2⟩ := l.ob k a _ ha hx
        obtain ⟨ds, e1, e2⟩ := Option.map_eq_some_iff.mp e
        subst e2
        exact .lst (.inl (.inl z1)) (dpL_has z2 e1 (by simpa [PyData.hasDict] using n))
      · cases e
  | _ => exact dp_has h e n
theorem rEqM_S : R2S X (rEqD X.K) sEqM := fun α μ H σ ρ x y da db R Q E hx hy h q => by
  obtain ⟨d, e, e1, e2, n1, n2, s1, s2, r⟩ := h
  exact ⟨d, e, dp_thaw E.live hx e1 n1, dp_has hy e2 n2, s1, s2, q.sc E r .bl⟩
theorem rNeM_S : R2S X (rNeD X.K) sNeM := fun α μ H σ ρ x y da db R Q E hx hy h q => by
  obtain ⟨d, e, e1, e2, n1, n2, s1, s2, r⟩ := h
  exact ⟨d, e, dp_thaw E.live hx e1 n1, dp_has hy e2 n2, s1, s2, q.sc E r .bl⟩
theorem SE.eqM (hu : X.A.units + 64 < cLine) (sa : SE X a fa) (sb : SE X b fb) (hm : behindInMarks .Eq b = false := by rfl) : SE X (.Compare a [.Eq] [b] pos) (dOp2 oEqM fa fb) := SE.op2 sa sb fun x y μ2 R h => ⟨sEqM, sEqD_of h, fun ρ μ k => Ev.cmp (op_eqD hu) rEqM_S hm k⟩
theorem SE.neM (hu : X.A.units + 64 < cLine) (sa : SE X a fa) (sb : SE X b fb) (hm : behindInMarks .NotEq b = false := by rfl) : SE X (.Compare a [.NotEq] [b] pos) (dOp2 oNeM fa fb) := SE.op2 sa sb fun x y μ2 R h => ⟨sNeM, sNeD_of h, fun ρ μ k => Ev.cmp (op_neD hu) rNeM_S hm k⟩
theorem ST.eqM (hu : X.A.units + 64 < cLine) (sa : SE X a fa) (sb : SE X b fb) (hm : behindInMarks .Eq b = false := by rfl) : ST X (.Compare a [.Eq] [b] pos) (dOp2 oEqM fa fb) := ST.op2 sa sb fun x y μ2 R h => ⟨sEqM, sEqD_of h, fun R' e ρ μ k => by subst e; exact EvT.cmpS (op_eqD hu) rEqM_S hm k⟩
theorem ST.neM (hu : X.A.units + 64 < cLine) (sa : SE X a fa) (sb : SE X b fb) (hm : behindInMarks .NotEq b = false := by rfl) : ST X (.Compare a [.NotEq] [b] pos) (dOp2 oNeM fa fb) := ST.op2 sa sb fun x y μ2 R h => ⟨sNeM, sNeD_of h, fun R' e ρ μ k => by subst e; exact EvT.cmpS (op_neD hu) rNeM_S hm k⟩
end
end Eg

namespace Eg
open PySem PySem.Spec PyProof.Rows L2
section
variable {X : Cx} {a b c e o : Expr} {es : List Expr} {fa fb fc f : Den} {fs fi : DenA} {pos p p2 pos2 : Pos} {ρ : RO} {μ : List MO}
/-! ### is True, is not True, of a truth -/
theorem op_isB : OpR X (compareOp .Is) (fun x y H Q => ∃ i j, x = V.bl i ∧ y = V.bl j ∧ Q (.bl (i == j)) H) := by
  intro pins s σ H x y v u Q I rx ry h
  obtain ⟨i, j, rfl, rfl, q⟩ := h
  cases rx
  cases ry
  cases i <;> cases j <;> exact wpAny_pure (fin_bl I q rfl)
theorem op_notB : OpR X (compareOp .IsNot) (fun x y H Q => ∃ i j, x = V.bl i ∧ y = V.bl j ∧ Q (.bl (!(i == j))) H) := by
  intro pins s σ H x y v u Q I rx ry h
  obtain ⟨i, j, rfl, rfl, q⟩ := h
  cases rx
  cases ry
  cases i <;> cases j <;> exact wpAny_pure (fin_bl I q rfl)
def sIsB : S2 := fun x y μ R => ∃ i j, x = .bl i ∧ y = .bl j ∧ R (.bl (i == j)) μ
def sNotB : S2 := fun x y μ R => ∃ i j, x = .bl i ∧ y = .bl j ∧ R (.bl (!(i == j))) μ
theorem rIsB_S : R2S X (fun x y H Q => ∃ i j, x = V.bl i ∧ y = V.bl j ∧ Q (.bl (i == j)) H) sIsB := fun α μ H σ ρ x y da db R Q E hx hy h q => by
  obtain ⟨i, j, rfl, rfl, r⟩ := h
  cases hx
  cases hy
  exact ⟨i, j, rfl, rfl, q.sc E r .bl⟩
theorem rNotB_S : R2S X (fun x y H Q => ∃ i j, x = V.bl i ∧ y = V.bl j ∧ Q (.bl (!(i == j))) H) sNotB := fun α μ H σ ρ x y da db R Q E hx hy h q => by
  obtain ⟨i, j, rfl, rfl, r⟩ := h
  cases hx
  cases hy
  exact ⟨i, j, rfl, rfl, q.sc E r .bl⟩
def oIsB : DV → DV → List MO → RE
  | .bl i, .bl j, μ => some (.bl (i == j), μ)
  | _, _, _ => none
def oNotB : DV → DV → List MO → RE
  | .bl i, .bl j, μ => some (.bl (!(i == j)), μ)
  | _, _, _ => none
theorem sIsB_of {x y : DV} {R : Cn} (h : okE (oIsB x y μ) R) : sIsB x y μ R := by
  unfold oIsB at h
  split at h
  · exact ⟨_, _, rfl, rfl, h⟩
  · exact h.elim
theorem sNotB_of {x y : DV} {R : Cn} (h : okE (oNotB x y μ) R) : sNotB x y μ R := by
  unfold oNotB at h
  split at h
  · exact ⟨_, _, rfl, rfl, h⟩
  · exact h.elim
theorem SE.isB (sa : SE X a fa) (sb : SE X b fb) (hm : behindInMarks .Is b = false := by rfl) : SE X (.Compare a [.Is] [b] pos) (dOp2 oIsB fa fb) := SE.op2 sa sb fun x y μ2 R h => ⟨sIsB, sIsB_of h, fun ρ μ k => Ev.cmp op_isB rIsB_S hm k⟩
theorem SE.notB (sa : SE X a fa) (sb : SE X b fb) (hm : behindInMarks .IsNot b = false := by rfl) : SE X (.Compare a [.IsNot] [b] pos) (dOp2 oNotB fa fb) := SE.op2 sa sb fun x y μ2 R h => ⟨sNotB, sNotB_of h, fun ρ μ k => Ev.cmp op_notB rNotB_S hm k⟩
theorem ST.isB (sa : SE X a fa) (sb : SE X b fb) (hm : behindInMarks .Is b = false := by rfl) : ST X (.Compare a [.Is] [b] pos) (dOp2 oIsB fa fb) := ST.op2 sa sb fun x y μ2 R h => ⟨sIsB, sIsB_of h, fun R' e ρ μ k => by subst e; exact EvT.cmpS op_isB rIsB_S hm k⟩
theorem ST.notB (sa : SE X a fa) (sb : SE X b fb) (hm : behindInMarks .IsNot b = false := by rfl) : ST X (.Compare a [.IsNot] [b] pos) (dOp2 oNotB fa fb) := ST.op2 sa sb fun x y μ2 R h => ⟨sNotB, sNotB_of h, fun R' e ρ μ k => by subst e; exact EvT.cmpS op_notB rNotB_S hm k⟩
end
end Eg

namespace Eg
open PySem PySem.Spec PyProof.Rows L2
section
variable {X : Cx} {a b c e o : Expr} {es : List Expr} {fa fb fc f : Den} {fs fi : DenA} {pos p p2 pos2 : Pos} {ρ : RO} {μ : List MO}
/-! ### list(range(n)) -/
theorem SE.rgA1 (hc : X.calm = true) (hg : Gl X "list") (hm : X.mg "list" = none) (hg2 : Gl X "range") (hm2 : X.mg "range" = none) (sb : SE X b fb)
    (nb : starEach [b] X.env = (false, eval b X.env) :: starEach [] X.env := by rfl)
    (nc : starEach [.Call (.Name "range" p2) [b] [] pos2] X.env = (false, eval (.Call (.Name "range" p2) [b] [] pos2) X.env) :: starEach [] X.env := by rfl) :
    SE X (.Call (.Name "list" p) [.Call (.Name "range" p2) [b] [] pos2] [] pos) (dRgA (dC (.int 0)) fb) := fun ρ μ R k => by
  obtain ⟨x, μ1, e1, k⟩ := okE_bnd k
  obtain ⟨y, μ2, e2, k⟩ := okE_bnd k
  cases e1
  cases y with
   | int j =>
    obtain ⟨c, k⟩ := okE_if k
    refine PEw (pe_listRgA hc hg hm (prg_1 hg2 hm2 pe_a nb) nc) fun σ H Q ⟨α, E, q⟩ => ?_
    refine ⟨_, sb.at (R := fun d m => d = .int j ∧ m = μ2) e2 ⟨rfl, rfl⟩, α, E, ?_⟩
    rintro v d α2 μ2' H2 ⟨rfl, rfl⟩ E2 X2 hv
    cases hv
    refine ⟨j, rfl, c, fun q' nq => ?_⟩
    obtain ⟨k2, l2⟩ := E2.live.lay (o := .lst (rgV 0 j)) nq
    exact q _ _ α2 μ2' _ k (E2.ext k2 l2) (X2.trans k2) (.lst (.inl ⟨E2.live.fresh nq, .inl upd_same⟩) (rgV_has 0 j))
   | _ => exact k.elim
end
end Eg

namespace Eg
open PySem PySem.Spec PyProof.Rows L2
section
variable {X : Cx} {a b c e o : Expr} {es : List Expr} {fa fb fc f : Den} {fs fi : DenA} {pos p p2 pos2 : Pos} {ρ : RO} {μ : List MO}
/-! ### xs[::-1] of a list -/
def dRev (fa : Den) : Den := fun ρ μ => bnd (fa ρ μ) fun d μ1 => match d with
  | .lst ds => some (.lst ds.reverse, μ1)
  | _ => none
theorem SE.rev {k : Nat} {p1 p2 p3 : Pos} (sa : SE X e fa) : SE X (.Subscript e (.Slice none none (some (.UnaryOp .USub (.Constant (.int 1) k p1) p2)) p3) pos) (dRev fa) := fun ρ μ R h => by
  obtain ⟨d, μ1, e1, h⟩ := okE_bnd h
  cases d with
  | lst ds => exact Ev.revL (sa.at e1 ⟨ds, rfl, h⟩)
  | _ => exact h.elim
end
end Eg

namespace Eg
open PySem PySem.Spec PyProof.Rows L2
section
variable {X : Cx} {a b c e o : Expr} {es : List Expr} {fa fb fc f : Den} {fs fi : DenA} {pos p p2 pos2 : Pos} {ρ : RO} {μ : List MO}
/-! ### a tuple, once: the tuple itself -/
theorem tuple_mul1 (l : Addr) (items : Array Value) (n : Nat) (dd : Option Addr) (sl : Array (Option Value)) (u : Tok) :
    Meets (Builtin.«tuple.__mul__» { pos := [Value.ref l, Value.int 1 u] }) fun _ R s => s.heap.get? l = some { cls := Value.type "tuple", dict := dd, data := Data.seq items n, slots := sl } ∧ R (Except.ok (Flow.ret (Value.ref l))) s :=
  .of_wp fun prog w A R s h => by
    obtain ⟨hl, h⟩ := h
    wp_walk using wpAny_loadPart' hl
    exact ⟨_, rfl, h⟩
def rRep1 (K : PySem.W.Frag) : R2 := fun x y H Q => ∃ l xs, x = V.ref l ∧ y = V.int 1 ∧ SqT K H l xs ∧ Q (.ref l) H
theorem op_rep1T : OpR X (binaryOp .Mult) (rRep1 X.K) := by
  intro pins s σ H x y v u Q I rx ry h
  obtain ⟨l, xs, rfl, rfl, hT, q⟩ := h
  cases rx
  obtain ⟨t, rfl⟩ := ry
  obtain ⟨its, r, ⟨⟨cls, dd, data, sl⟩, ho, hc, n, hd⟩, hs⟩ := I.tuple hT
  replace hc : cls = .type "tuple" := hc
  replace hd : data = .seq its.toArray n := hd
  subst hc hd
  refine wpAny_binaryOp_repeat_ref (T := "tuple") (U := "int") (by decide) ⟨_, ho, rfl⟩ (fun s' => typeIs_int _ _ _) noFill_tuple_mul F.fills_int_mul F.slot_int_rmul repeat_tuple F.slot_int_index.lookup ?_
  refine call_meets F.slot_int_rmul (typeIs_int _ _ _) F.entry_int_rmul (F.args_int_rmul_2 _ _) (int_rmul_tuple _ _ _ _ _ _ _) ⟨ho, ?_⟩
  refine ⟨rfl, ⟨_, ho, rfl⟩, ?_⟩
  refine call_meets F.slot_tuple_mul ⟨_, ho, rfl⟩ F.entry_tuple_mul (F.args_tuple_mul_2 _ _) (tuple_mul1 _ _ _ _ _ _) ⟨ho, ?_⟩
  exact ⟨V.ref l, H, I, rfl, q⟩
def sRep1 : S2 := fun x y μ R => ∃ xs, x = .tup xs ∧ y = .int 1 ∧ R (.tup xs) μ
theorem rRep1_S : R2S X (rRep1 X.K) sRep1 := fun α μ H σ ρ x y da db R Q E hx hy h q => by
  obtain ⟨xs, rfl, rfl, r⟩ := h
  cases hx with
  | @tup a vs _ s1 t1 =>
    cases hy
    exact ⟨a, vs, rfl, rfl, s1, q.sc E r (.tup s1 t1)⟩
/-- a tuple, k times, k at least 1 -/
def oRep1 : DV → DV → List MO → RE
  | .tup xs, .int k, μ => if xs.isEmpty = false ∧ 1 ≤ k ∧ k ≤ 1000 ∧ xs.length ≤ 1000 then some (.tup (List.replicate k.toNat xs).flatten, μ) else none
  | _, _, _ => none
theorem SE.rep1 (sa : SE X a fa) (sb : SE X b fb) : SE X (.BinOp a .Mult b pos) (dOp2 oRep1 fa fb) := SE.op2 sa sb fun x y μ2 R h => by
  unfold oRep1 at h
  split at h
  · rename_i xs k
    obtain ⟨⟨c1, c2, c3, c4⟩, h⟩ := okE_if h
    by_cases hk : k = 1
    · subst hk
      refine ⟨sRep1, ⟨_, rfl, rfl, ?_⟩, fun ρ μ k => Ev.op op_rep1T rRep1_S k⟩
      have e : (List.replicate (1 : Int).toNat xs).flatten = xs := by simp
      rw [e] at h
      exact h
    · exact ⟨sRep, ⟨_, _, rfl, rfl, c1, by omega, c3, c4, h⟩, fun ρ μ k => Ev.op op_repT rRepT_S k⟩
  · exact h.elim
/-! ### a list literal, k times -/
def sRepM : S2 := fun x y μ R => ∃ k xs n, x = .mu k ∧ μ[k]? = some (.lst xs) ∧ y = .int n ∧ -(2 ^ 63) ≤ n ∧ n < 2 ^ 63 ∧ xs.length * n.toNat ≤ sizeLine ∧ R (.lst (List.replicate n.toNat xs).flatten) μ
theorem rRepM_S : R2S X rRep sRepM := fun α μ H σ ρ x y da db R Q E hx hy h q => by
  obtain ⟨k, xs, n, rfl, hk, rfl, c1, c2, c3, r⟩ := h
  cases hx with
  | mu ha =>
    obtain ⟨vs, h1, t1⟩ := E.live.ob k _ _ ha hk
    cases hy
    refine ⟨_, n, vs, rfl, rfl, h1, c1, c2, by rw [t1.length]; exact c3, fun p np => ?_⟩
    obtain ⟨kk, l⟩ := E.live.lay (o := .lst (List.replicate n.toNat vs).flatten) np
    exact q _ _ α μ _ r (E.ext kk l) kk (.lst (.inl ⟨E.live.fresh np, .inl upd_same⟩) (kk.hasL (HasL.rep t1 _)))
def oRepM : DV → DV → List MO → RE
  | .mu k, .int n, μ => match μ[k]? with
    | some (.lst xs) => if -(2 ^ 63) ≤ n ∧ n < 2 ^ 63 ∧ xs.length * n.toNat ≤ sizeLine then some (.lst (List.replicate n.toNat xs).flatten, μ) else none
    | _ => none
  | _, _, _ => none
theorem SE.repM (sa : SE X a fa) (sb : SE X b fb) : SE X (.BinOp a .Mult b pos) (dOp2 oRepM fa fb) := SE.op2 sa sb fun x y μ2 R h => by
  unfold oRepM at h
  split at h
  · split at h
    · rename_i hk
      obtain ⟨⟨c1, c2, c3⟩, h⟩ := okE_if h
      exact ⟨sRepM, ⟨_, _, _, rfl, hk, rfl, c1, c2, c3, h⟩, fun ρ μ k => Ev.op op_rep rRepM_S k⟩
    · exact h.elim
  · exact h.elim
end
end Eg

namespace Eg
open PySem PySem.Spec PyProof.Rows L2
section
variable {X : Cx} {a b c e o : Expr} {es : List Expr} {fa fb fc f : Den} {fs fi : DenA} {pos p p2 pos2 : Pos} {ρ : RO} {μ : List MO}
/-! ### {} as a value; a tuple, no times -/
def dDic0 : Den := fun _ μ => some (.dic [], μ)
theorem SE.dic0 : SE X (.Dict [] [] pos) dDic0 := fun ρ μ R h => Ev.dic0 h
theorem tuple_mul0 (l : Addr) (items : Array Value) (n : Nat) (dd : Option Addr) (sl : Array (Option Value)) (u : Tok) (h : items.isEmpty = false) :
    Meets (Builtin.«tuple.__mul__» { pos := [Value.ref l, Value.int 0 u] }) fun _ R s => s.heap.get? l = some { cls := Value.type "tuple", dict := dd, data := Data.seq items n, slots := sl } ∧ R (Except.ok (Flow.ret (Value.ref s.heap.objs.size))) { s with heap := s.heap.push { cls := .type "tuple", data := .seq #[] } } :=
  .of_wp fun prog w A R s h2 => by
    obtain ⟨hl, h2⟩ := h2
    wp_walk using wpAny_loadPart' hl
    exact ⟨_, rfl, h2⟩
def rRep0 (K : PySem.W.Frag) : R2 := fun x y H Q => ∃ l xs, x = V.ref l ∧ y = V.int 0 ∧ SqT K H l xs ∧ xs ≠ [] ∧ ∀ p, H p = none → Q (.ref p) (upd H p (.tup []))
theorem op_rep0T : OpR X (binaryOp .Mult) (rRep0 X.K) := by
  intro pins s σ H x y v u Q I rx ry h
  obtain ⟨l, xs, rfl, rfl, hT, hne, q⟩ := h
  cases rx
  obtain ⟨t, rfl⟩ := ry
  obtain ⟨its, r, ⟨⟨cls, dd, data, sl⟩, ho, hc, n, hd⟩, hs⟩ := I.tuple hT
  replace hc : cls = .type "tuple" := hc
  replace hd : data = .seq its.toArray n := hd
  subst hc hd
  have hi : its.toArray.isEmpty = false := by
    cases its with
    | nil =>
      have := r.length
      exact absurd (List.eq_nil_of_length_eq_zero this) hne
    | cons _ _ => rfl
  refine wpAny_binaryOp_repeat_ref (T := "tuple") (U := "int") (by decide) ⟨_, ho, rfl⟩ (fun s' => typeIs_int _ _ _) noFill_tuple_mul F.fills_int_mul F.slot_int_rmul repeat_tuple F.slot_int_index.lookup ?_
  refine call_meets F.slot_int_rmul (typeIs_int _ _ _) F.entry_int_rmul (F.args_int_rmul_2 _ _) (int_rmul_tuple _ _ _ _ _ _ _) ⟨ho, ?_⟩
  refine ⟨rfl, ⟨_, ho, rfl⟩, ?_⟩
  refine call_meets F.slot_tuple_mul ⟨_, ho, rfl⟩ F.entry_tuple_mul (F.args_tuple_mul_2 _ _) (tuple_mul0 _ _ _ _ _ _ hi) ⟨ho, ?_⟩
  refine ⟨V.ref s.heap.objs.size, upd H s.heap.objs.size (.tup []), I.laid (fun x o e => Heap.get?_push_of_some _ e) (Nat.le_refl _) ?_, rfl, q _ (I.hok.fresh (Nat.le_refl _))⟩
  exact ⟨Nat.zero_le _, [], .nil, IsTup.new _ _⟩
def sRep0 : S2 := fun x y μ R => ∃ xs, x = .tup xs ∧ y = .int 0 ∧ xs.isEmpty = false ∧ R (.tup []) μ
theorem rRep0_S : R2S X (rRep0 X.K) sRep0 := fun α μ H σ ρ x y da db R Q E hx hy h q => by
  obtain ⟨xs, rfl, rfl, hne, r⟩ := h
  cases hx with
  | @tup a vs _ s1 t1 =>
    cases hy
    refine ⟨a, vs, rfl, rfl, s1, ?_, fun p np => ?_⟩
    · rintro rfl
      have e : xs = [] := List.length_eq_zero_iff.mp t1.length.symm
      subst e
      simp at hne
    · obtain ⟨kk, l⟩ := E.live.lay (o := .tup []) np
      exact q _ _ α μ _ r (E.ext kk l) kk (.tup (.of upd_same) .nil)
/-- a tuple, k times, k at least 0 -/
def oRep0 : DV → DV → List MO → RE
  | .tup xs, .int k, μ => if xs.isEmpty = false ∧ 0 ≤ k ∧ k ≤ 1000 ∧ xs.length ≤ 1000 then some (.tup (List.replicate k.toNat xs).flatten, μ) else none
  | _, _, _ => none
theorem SE.rep0 (sa : SE X a fa) (sb : SE X b fb) : SE X (.BinOp a .Mult b pos) (dOp2 oRep0 fa fb) := SE.op2 sa sb fun x y μ2 R h => by
  unfold oRep0 at h
  split at h
  · rename_i xs k
    obtain ⟨⟨c1, c2, c3, c4⟩, h⟩ := okE_if h
    by_cases h0 : k = 0
    · subst h0
      exact ⟨sRep0, ⟨_, rfl, rfl, c1, h⟩, fun ρ μ k => Ev.op op_rep0T rRep0_S k⟩
    · by_cases hk : k = 1
      · subst hk
        refine ⟨sRep1, ⟨_, rfl, rfl, ?_⟩, fun ρ μ k => Ev.op op_rep1T rRep1_S k⟩
        have e : (List.replicate (1 : Int).toNat xs).flatten = xs := by simp
        rw [e] at h
        exact h
      · exact ⟨sRep, ⟨_, _, rfl, rfl, c1, by omega, c3, c4, h⟩, fun ρ μ k => Ev.op op_repT rRepT_S k⟩
  · exact h.elim
end
end Eg

namespace Eg
open PySem PySem.Spec PyProof.Rows L2
section
variable {X : Cx} {a b c e o : Expr} {es : List Expr} {fa fb fc f : Den} {fs fi : DenA} {pos p p2 pos2 : Pos} {ρ : RO} {μ : List MO}
/-! ### xs[::-1] of a tuple -/
theorem sl_adj (n : Nat) : Builtin.Slice.sliceAdjust none none ((some (-1 : Int)).getD 1) (n : Int) = ((n : Int) - 1, -1) := by
  simp [Builtin.Slice.sliceAdjust]
theorem sl_plc (n : Nat) : Builtin.Slice.slicePlaces ((n : Int) - 1) (-1) ((some (-1 : Int)).getD 1) = n := by
  simp [Builtin.Slice.slicePlaces]
  split <;> omega
theorem fm_congr {α β : Type} {f g : α → Option β} : ∀ {l : List α}, (∀ k ∈ l, f k = g k) → l.filterMap f = l.filterMap g
  | [], _ => rfl
  | x :: l, h => by
    rw [List.filterMap_cons, List.filterMap_cons, h x List.mem_cons_self, fm_congr fun k hk => h k (List.mem_cons_of_mem _ hk)]
theorem sl_rev (xs : List Value) : List.filterMap (fun k : Nat => xs.toArray[((xs.length : Int) - 1 + (k : Int) * ((some (-1 : Int)).getD 1)).toNat]?) (List.range xs.length) = xs.reverse := by
  have h : ∀ k ∈ List.range xs.length, xs.toArray[((xs.length : Int) - 1 + (k : Int) * ((some (-1 : Int)).getD 1)).toNat]? = (fun k => some ((xs.reverse[k]?).getD .none)) k := fun k hk => by
    have hk := List.mem_range.mp hk
    have e : ((xs.length : Int) - 1 + (k : Int) * ((some (-1 : Int)).getD 1)).toNat = xs.length - 1 - k := by
      simp only [Option.getD_some]
      omega
    rw [e]
    show xs.toArray[xs.length - 1 - k]? = some ((xs.reverse[k]?).getD .none)
    rw [List.getElem?_reverse hk]
    have : xs.length - 1 - k < xs.length := by omega
    simp [List.getElem?_eq_getElem this]
  rw [fm_congr h]
  rw [show (fun k => some ((xs.reverse[k]?).getD Value.none)) = some ∘ (fun k => (xs.reverse[k]?).getD Value.none) from rfl, List.filterMap_eq_map]
  apply List.ext_getElem?
  intro i
  rw [List.getElem?_map]
  by_cases hi : i < xs.length
  · rw [List.getElem?_range hi]
    have : i < xs.reverse.length := by simpa using hi
    simp [List.getElem?_eq_getElem this]
  · rw [List.getElem?_eq_none (by simp; omega), List.getElem?_eq_none (by simp; omega)]
    rfl
theorem tuple_rev (l q : Addr) (xs : List Value) (n : Nat) (dd d2 : Option Addr) (sl s2 : Array (Option Value)) (t : Tok) (hz : xs.length ≤ sizeLine) :
    Meets (Builtin.«tuple.__getitem__» { pos := [Value.ref l, Value.ref q] }) fun _ R s => s.heap.get? l = some { cls := Value.type "tuple", dict := dd, data := Data.seq xs.toArray n, slots := sl } ∧ s.heap.get? q = some { cls := Value.type "slice", dict := d2, data := Data.fields #[.none, .none, .int (-1) t], slots := s2 } ∧ R (Except.ok (Flow.ret (Value.ref s.heap.objs.size))) { s with heap := s.heap.push { cls := .type "tuple", data := .seq xs.reverse.toArray } } :=
  .of_wp fun prog w A R s h2 => by
    obtain ⟨hl, hq, h2⟩ := h2
    wp_walk using wpAny_loadPart' hl, wpAny_loadPart' hq
    rw [F.slot_int_index.lookup]
    refine wpAny_pure ?_
    wp_walk using wpAny_loadPart' hl, wpAny_loadPart' hq
    rw [show xs.toArray.size = xs.length from rfl, sl_adj]
    dsimp only
    rw [sl_plc, sl_rev, if_neg (by simpa using hz)]
    wp_walk using wpAny_loadPart' hl, wpAny_loadPart' hq
    exact ⟨_, rfl, h2⟩
def tRevT (K : PySem.W.Frag) (te : TE) : TE := fun σ H Q => te σ H fun x H1 => ∃ a xs, x = .ref a ∧ SqT K H1 a xs ∧ ∀ p, H1 p = none → Q (.ref p) (upd H1 p (.tup xs.reverse))
theorem get_tup {prog : Program} {w : World} {A : Around} {E : Value → Shared → Prop} {s : Shared} {l q : Addr} {xs : List Value} {n : Nat} {dd d2 : Option Addr} {sl s2 : Array (Option Value)} {t : Tok} {Q : Value → Shared → Prop} (hz : xs.length ≤ sizeLine)
    (hl : s.heap.get? l = some { cls := Value.type "tuple", dict := dd, data := Data.seq xs.toArray n, slots := sl }) (hq : s.heap.get? q = some { cls := Value.type "slice", dict := d2, data := Data.fields #[.none, .none, .int (-1) t], slots := s2 })
    (h : Q (Value.ref s.heap.objs.size) { s with heap := s.heap.push { cls := .type "tuple", data := .seq xs.reverse.toArray } }) : wpAny (model prog w) A (getItem (.ref l) (.ref q)) Q E s := by
  unfold getItem
  refine wpAny_holding ?_
  refine wpAny_bind (wpAny_sequenceKey (T := "tuple") ⟨_, hl, rfl⟩ (by decide) ?_)
  refine wpAny_bind (wpAny_callSpecial?_slot (T := "tuple") ⟨_, hl, rfl⟩ F.slot_tuple_getitem ?_)
  exact call_meets F.slot_tuple_getitem ⟨_, hl, rfl⟩ F.entry_tuple_getitem (F.args_tuple_getitem_2 _ _) (tuple_rev l q xs n dd d2 sl s2 t hz) ⟨hl, hq, wpAny_pure h⟩
theorem pe_revT {te : TE} {k : Nat} {p1 p2 p3 pos : Pos} (he : PE X e te) : PE X (.Subscript e (.Slice none none (some (.UnaryOp .USub (.Constant (.int 1) k p1) p2)) p3) pos) (tRevT X.K te) := by
  refine ⟨fun pins s σ H Q I h => ?_⟩
  refine Subscript_ (thn (he.run pins s σ H _ I h) fun v s1 x => ?_)
  obtain ⟨x, H1, I1, r1, a, xs, rfl, hx, q⟩ := x
  cases r1
  have hst : PO X (some (.UnaryOp .USub (.Constant (.int 1) k p1) p2)) _ := po_some (pe_un un_neg pe_int)
  refine wpAny_Slice (thn (po_none.run pins s1 σ H1 (fun o H2 => o = none ∧ H2 = H1) I1 ⟨rfl, rfl⟩) fun vl s2 x2 => ?_)
  obtain ⟨l, H2, I2, pl, rfl, rfl⟩ := x2
  refine thn (po_none.run pins s2 σ H2 (fun o H3 => o = none ∧ H3 = H2) I2 ⟨rfl, rfl⟩) fun vu s3 x3 => ?_
  obtain ⟨l, H3, I3, pu, rfl, rfl⟩ := x3
  refine thn (hst.run pins s3 σ H3 (fun o H4 => o = some (-1) ∧ H4 = H3) I3 ⟨1, rfl, -1, rfl, rfl, rfl⟩) fun vs s4 x4 => ?_
  obtain ⟨l, H4, I4, pst, rfl, rfl⟩ := x4
  cases pl
  cases pu
  cases pst with
  | int _ t =>
  have I5 := I4.kept (h' := s4.heap.push { cls := .type "slice", data := .fields #[.none, .none, .int (-1) t] }) (t' := s4.toks) fun b ob q => Heap.get?_push_of_some _ q
  obtain ⟨its, r, ⟨⟨cls, dd, data, sl⟩, ho, hc, n, hd⟩, hs⟩ := I5.tuple hx
  replace hc : cls = .type "tuple" := hc
  replace hd : data = .seq its.toArray n := hd
  subst hc hd
  have hz : its.length ≤ sizeLine := by rw [← r.length]; exact hs
  refine tail_any (T := "tuple") ⟨_, ho, rfl⟩ F.slot_tuple_getitem.lookup (get_tup hz ho (Heap.get?_push_size s4.heap rfl) ?_) rfl
  exact ⟨V.ref _, upd H4 _ (.tup xs.reverse), I5.laid (fun x o e => Heap.get?_push_of_some _ e) (Nat.le_refl _) ⟨by rw [List.length_reverse]; exact hs, its.reverse, r.reverse, IsTup.new _ _⟩, rfl, q _ (I5.hok.fresh (Nat.le_refl _))⟩
theorem Ev.revT {k : Nat} {p1 p2 p3 : Pos} {R : Cn} (h : Ev X e ρ μ fun d μ1 => ∃ ds, d = .tup ds ∧ R (.tup ds.reverse) μ1) : Ev X (.Subscript e (.Slice none none (some (.UnaryOp .USub (.Constant (.int 1) k p1) p2)) p3) pos) ρ μ R :=
  PEw (pe_revT pe_a) fun σ H Q ⟨α, E, q⟩ => ⟨_, h, α, E, fun v d α1 μ1 H1 ⟨ds, e, r⟩ E1 X1 hv => by
    subst e
    obtain ⟨a, vs, rfl, s, t⟩ := sqT_of hv
    refine ⟨a, vs, rfl, s, fun p np => ?_⟩
    obtain ⟨k, l⟩ := E1.live.lay (o := .tup vs.reverse) np
    exact q _ _ α1 μ1 _ r (E1.ext k l) (X1.trans k) (.tup (.of upd_same) (k.hasL (Ev.revL.HasL.rev t)))⟩
/-- xs[::-1] of a list or a tuple -/
def dRevA (fa : Den) : Den := fun ρ μ => bnd (fa ρ μ) fun d μ1 => match d with
  | .lst ds => some (.lst ds.reverse, μ1)
  | .tup ds => some (.tup ds.reverse, μ1)
  | _ => none
theorem SE.revA {k : Nat} {p1 p2 p3 : Pos} (sa : SE X e fa) : SE X (.Subscript e (.Slice none none (some (.UnaryOp .USub (.Constant (.int 1) k p1) p2)) p3) pos) (dRevA fa) := fun ρ μ R h => by
  obtain ⟨d, μ1, e1, h⟩ := okE_bnd h
  cases d with
  | lst ds => exact Ev.revL (sa.at e1 ⟨ds, rfl, h⟩)
  | tup ds => exact Ev.revT (sa.at e1 ⟨ds, rfl, h⟩)
  | _ => exact h.elim
end
end Eg

namespace Eg
open PySem PySem.Spec PyProof.Rows L2
section
variable {X : Cx} {a b c e o : Expr} {es : List Expr} {fa fb fc f : Den} {fs fi : DenA} {pos p p2 pos2 : Pos} {ρ : RO} {μ : List MO}
/-! ### truths as numbers: + and - with a number -/
def b2i (k : Bool) : Int := if k = true then 1 else 0
def rBI (g : Int → Int → Int) : R2 := fun x y H Q => ∃ k j, x = V.bl k ∧ y = V.int j ∧ Q (.int (g (b2i k) j)) H
def rIB (g : Int → Int → Int) : R2 := fun x y H Q => ∃ i k, x = V.int i ∧ y = V.bl k ∧ Q (.int (g i (b2i k))) H
theorem op_addBI : OpR X (binaryOp .Add) (rBI (· + ·)) := by
  intro pins s σ H x y v u Q I rx ry h
  obtain ⟨k, j, rfl, rfl, q⟩ := h
  cases rx
  obtain ⟨t, rfl⟩ := ry
  exact IntBool.add_bool_int ⟨V.int (b2i k + j), H, I.kept fun _ _ e => e, ⟨_, rfl⟩, q⟩
theorem op_subBI : OpR X (binaryOp .Sub) (rBI (· - ·)) := by
  intro pins s σ H x y v u Q I rx ry h
  obtain ⟨k, j, rfl, rfl, q⟩ := h
  cases rx
  obtain ⟨t, rfl⟩ := ry
  exact IntBool.sub_bool_int ⟨V.int (b2i k - j), H, I.kept fun _ _ e => e, ⟨_, rfl⟩, q⟩
theorem op_subIB : OpR X (binaryOp .Sub) (rIB (· - ·)) := by
  intro pins s σ H x y v u Q I rx ry h
  obtain ⟨i, k, rfl, rfl, q⟩ := h
  cases ry
  obtain ⟨t, rfl⟩ := rx
  exact IntBool.sub_int_bool ⟨V.int (i - b2i k), H, I.kept fun _ _ e => e, ⟨_, rfl⟩, q⟩
def sBI (g : Int → Int → Int) : S2 := fun x y μ R => ∃ k j, x = .bl k ∧ y = .int j ∧ R (.int (g (b2i k) j)) μ
def sIB (g : Int → Int → Int) : S2 := fun x y μ R => ∃ i k, x = .int i ∧ y = .bl k ∧ R (.int (g i (b2i k))) μ
theorem rBI_S {g : Int → Int → Int} : R2S X (rBI g) (sBI g) := fun α μ H σ ρ x y da db R Q E hx hy h q => by
  obtain ⟨k, j, rfl, rfl, r⟩ := h
  cases hx
  cases hy
  exact ⟨k, j, rfl, rfl, q.sc E r .int⟩
theorem rIB_S {g : Int → Int → Int} : R2S X (rIB g) (sIB g) := fun α μ H σ ρ x y da db R Q E hx hy h q => by
  obtain ⟨i, k, rfl, rfl, r⟩ := h
  cases hx
  cases hy
  exact ⟨i, k, rfl, rfl, q.sc E r .int⟩
/-- +, also of a truth and a number -/
def oAddB : DV → DV → List MO → RE
  | .bl k, .int j, μ => some (.int (b2i k + j), μ)
  | .int i, .int j, μ => some (.int (i + j), μ)
  | _, _, _ => none
/-- -, also of a truth and a number -/
def oSubB : DV → DV → List MO → RE
  | .bl k, .int j, μ => some (.int (b2i k - j), μ)
  | .int i, .bl k, μ => some (.int (i - b2i k), μ)
  | .int i, .int j, μ => some (.int (i - j), μ)
  | _, _, _ => none
theorem SE.addB (sa : SE X a fa) (sb : SE X b fb) : SE X (.BinOp a .Add b pos) (dOp2 oAddB fa fb) := SE.op2 sa sb fun x y μ2 R h => by
  unfold oAddB at h
  split at h
  · exact ⟨sBI (· + ·), ⟨_, _, rfl, rfl, h⟩, fun ρ μ k => Ev.op op_addBI rBI_S k⟩
  · exact ⟨sAdd, sAdd.mk h, fun ρ μ k => Ev.addI k⟩
  · exact h.elim
theorem SE.subB (sa : SE X a fa) (sb : SE X b fb) : SE X (.BinOp a .Sub b pos) (dOp2 oSubB fa fb) := SE.op2 sa sb fun x y μ2 R h => by
  unfold oSubB at h
  split at h
  · exact ⟨sBI (· - ·), ⟨_, _, rfl, rfl, h⟩, fun ρ μ k => Ev.op op_subBI rBI_S k⟩
  · exact ⟨sIB (· - ·), ⟨_, _, rfl, rfl, h⟩, fun ρ μ k => Ev.op op_subIB rIB_S k⟩
  · exact ⟨sSub, sSub.mk h, fun ρ μ k => Ev.sub k⟩
  · exact h.elim
end
end Eg

namespace Eg
open PySem PySem.Spec PyProof.Rows L2
section
open PySem.SeqAt PySem.MeetsSeq PySem.MeetsSeq2 PySem.MeetsSeq3
/-! ### a dictionary is no number -/
theorem dict_ne_declines_int (l : Addr) (es : Array DictEntry) (n : Nat) (dd : Option Addr) (sl : Array (Option Value)) (b : Int) (u : Tok) :
    Meets (Builtin.«dict.__ne__» ⟨[.ref l, .int b u], []⟩) (fun _ R s => s.heap.get? l = some { cls := .type "dict", dict := dd, data := .dict es n, slots := sl } ∧ R (.ok (.ret .notImplemented)) s) :=
  .of_wp fun prog w A R s h => by
    obtain ⟨hl, h⟩ := h
    show wpAny _ _ (Builtin.Dict.dictSlotArgs "__ne__" ⟨[.ref l, .int b u], []⟩ >>= _) _ _ s
    refine wpAny_bind ?_
    unfold Builtin.Dict.dictSlotArgs
    refine wpAny_bind (wpAny_notOrdered_dict ⟨_, hl, rfl⟩ ?_)
    show wpAny _ _ (pure (Value.ref l, Value.int b u)) _ _ s
    refine wpAny_pure ?_
    refine wpAny_bind (wpAny_isInstance (T := "int") (typeIs_int s b u) F.sub_int_dict ?_)
    simp only [Bool.not_false, if_true]
    refine wpAny_bind (wpAny_rule ?_)
    exact wpAny_pure ⟨_, rfl, h⟩
theorem int_ne_declines_dict (b : Int) (u : Tok) (l : Addr) (c : Value) (es : Array DictEntry) (n : Nat) (dd : Option Addr) (sl : Array (Option Value)) :
    Meets (Builtin.«int.__ne__» ⟨[.int b u, .ref l], []⟩) (fun _ R s => s.heap.get? l = some { cls := c, dict := dd, data := .dict es n, slots := sl } ∧ R (.ok (.ret .notImplemented)) s) :=
  .of_wp fun prog w A R s h => by obtain ⟨hp, g, d, tk, os⟩ := s; obtain ⟨hl, h⟩ := h; wp_walk using wpAny_loadPart' hl, wpAny_load hl; exact ⟨_, rfl, h⟩
theorem rc_dict_int {A : Around} {s : Shared} {l : Addr} {dd : Option Addr} {es : Array DictEntry} {n : Nat} {sl : Array (Option Value)} (b : Int) (u : Tok) (ho : s.heap.get? l = some { cls := .type "dict", dict := dd, data := .dict es n, slots := sl }) (hu : A.units < cLine) : RcNeAt A s (.ref l) (.int b u) true := fun prog w E Q h =>
  rc_ne_decline_or (k := false) ⟨_, ho, rfl⟩ (typeIs_int s b u) (by decide) F.sub_int_dict F.slot_dict_ne F.slot_int_ne_refl
    (fun _ hq => call_meets F.slot_dict_ne ⟨_, ho, rfl⟩ F.entry_dict_ne (F.args_dict_ne_2 _ _) (dict_ne_declines_int l es n dd sl b u) ⟨ho, hq⟩)
    (fun _ hq => call_meets F.slot_int_ne_refl (typeIs_int s b u) F.entry_int_ne (F.args_int_ne_2 _ _) (int_ne_declines_dict b u l (.type "dict") es n dd sl) ⟨ho, hq⟩)
    (fun _ hq => wpAny_of_eq (rfl : isSame (.ref l) (.int b u) = pure false) hq) (.inr hu) h
end
section
variable {X : Cx} {a b c e o : Expr} {es : List Expr} {fa fb fc f : Den} {fs fi : DenA} {pos p p2 pos2 : Pos} {ρ : RO} {μ : List MO}
def rNeI (K : PySem.W.Frag) : R2 := fun x y H Q => ∃ j : Int, y = V.int j ∧
  ((∃ i, x = V.int i ∧ Q (.bl (!decide (i = j))) H) ∨ (∃ b : Bool, x = V.bl b ∧ Q (.bl (!((if b then 1 else 0) == j))) H) ∨
    ((x = V.non ∨ (∃ z, x = V.str z) ∨ ∃ q, x = V.ref q ∧ ((∃ xs, SqT K H q xs) ∨ (∃ xs, SqL K H q xs) ∨ ∃ kvs, H q = some (.dK kvs))) ∧ Q (.bl true) H))
theorem op_neI (hu : X.A.units + 64 < cLine) : OpR X (compareOp .NotEq) (rNeI X.K) := by
  intro pins s σ H x y v u Q I rx ry h
  obtain ⟨j, rfl, h⟩ := h
  rcases h with ⟨i, rfl, q⟩ | ⟨b, rfl, q⟩ | ⟨hx, q⟩
  · have e : (!PyData.eqv (.int i) (.int j)) = !decide (i = j) := by
      simp [PyData.eqv]
      rfl
    exact op_neD hu pins s σ H _ _ v u Q I rx ry ⟨_, _, .int i, .int j, rfl, rfl, by rw [e]; exact q⟩
  · have e : (!PyData.eqv (.bool b) (.int j)) = !((if b then 1 else 0) == j) := by
      cases b <;> simp [PyData.eqv]
    exact op_neD hu pins s σ H _ _ v u Q I rx ry ⟨_, _, .bl b, .int j, rfl, rfl, by rw [e]; exact q⟩
  · obtain ⟨t, rfl⟩ := ry
    have h2 : X.A.units < cLine := by omega
    rcases hx with rfl | ⟨z, rfl⟩ | ⟨a, rfl, hx⟩
    · cases rx
      exact EqNone.ne_none_int ⟨V.bl true, H, I, rfl, q⟩
    · obtain ⟨tz, rfl⟩ := rx
      exact EqMixed.ne_str_int ⟨V.bl true, H, I, rfl, q⟩
    · cases rx
      rcases hx with ⟨xs, hT⟩ | ⟨xs, hL⟩ | ⟨kvs, hD⟩
      · obtain ⟨its, r, ht, hs⟩ := I.tuple hT
        exact SeqAt.RcNeAt.tuple_int j t ht h2 _ _ _ _ ⟨V.bl true, H, I, rfl, q⟩
      · obtain ⟨its, r, pl, _⟩ := I.list hL
        exact SeqAt.RcNeAt.list_int j t pl.isList h2 _ _ _ _ ⟨V.bl true, H, I, rfl, q⟩
      · obtain ⟨_, _, vs, _, d⟩ := dk_of I.hok hD
        obtain ⟨⟨cls, dd, data, sl⟩, es, ep, ho, hc, hd, _⟩ := d
        replace hc : cls = .type "dict" := hc.1
        replace hd : data = .dict es ep := hd
        subst hc hd
        exact rc_dict_int j t ho h2 _ _ _ _ ⟨V.bl true, H, I, rfl, q⟩
/-- a tuple of anything, beside the empty one -/
def rNeT0 (K : PySem.W.Frag) : R2 := fun x y H Q => ∃ a b xs, x = V.ref a ∧ y = V.ref b ∧ SqT K H a xs ∧ SqT K H b [] ∧ Q (.bl (!xs.isEmpty)) H
theorem op_neT0 (hu : X.A.units + 64 < cLine) : OpR X (compareOp .NotEq) (rNeT0 X.K) := by
  intro pins s σ H x y v u Q I rx ry h
  obtain ⟨a, b, xs, rfl, rfl, hA, hB, q⟩ := h
  cases rx
  cases ry
  obtain ⟨its, r, ht, _⟩ := I.tuple hA
  obtain ⟨its2, r2, ht2, _⟩ := I.tuple hB
  have h2 : X.A.units < cLine := by omega
  have z2 := r2.length
  have e2 : its2 = [] := List.eq_nil_of_length_eq_zero z2.symm
  subst e2
  have hb : (!((List.range (min its.toArray.size ([] : List Value).toArray.size)).all (fun _ => true) && its.toArray.size == ([] : List Value).toArray.size)) = !xs.isEmpty := by
    have z := r.length
    cases xs with
    | nil =>
      have : its = [] := List.eq_nil_of_length_eq_zero z.symm
      subst this
      rfl
    | cons x xs =>
      cases its with
      | nil => simp at z
      | cons i its => simp
  have := SeqAt.RcNeAt.tuples (e := fun _ => true) ht ht2 h2 (fun j _ hj => absurd hj (by simp))
  rw [hb] at this
  exact this _ _ _ _ ⟨V.bl (!xs.isEmpty), H, I, rfl, q⟩
def isAny : DV → Bool
  | .non | .bl _ | .int _ | .str _ | .tup _ | .lst _ | .dic _ => true
  | _ => false
def sNeI : S2 := fun x y μ R => ∃ j, y = .int j ∧ isAny x = true ∧ R (.bl (!eqvD x (.int j))) μ
def sNeT0 : S2 := fun x y μ R => ∃ xs, x = .tup xs ∧ y = .tup [] ∧ R (.bl (!xs.isEmpty)) μ
theorem rNeI_S : R2S X (rNeI X.K) sNeI := fun α μ H σ ρ x y da db R Q E hx hy h q => by
  obtain ⟨j, rfl, ha, r⟩ := h
  cases hy
  refine ⟨j, rfl, ?_⟩
  cases hx with
  | int => exact .inl ⟨_, rfl, q.sc E r .bl⟩
  | bl => exact .inr (.inl ⟨_, rfl, q.sc E r .bl⟩)
  | non => exact .inr (.inr ⟨.inl rfl, q.sc E r .bl⟩)
  | str => exact .inr (.inr ⟨.inr (.inl ⟨_, rfl⟩), q.sc E r .bl⟩)
  | tup s t => exact .inr (.inr ⟨.inr (.inr ⟨_, rfl, .inl ⟨_, s⟩⟩), q.sc E r .bl⟩)
  | @lst pa _ _ s t =>
    have sl : ∃ xs, SqL X.K H pa xs := by
      rcases s with ⟨_, h⟩ | h
      · exact ⟨_, .inl h⟩
      · exact ⟨_, h.sq⟩
    exact .inr (.inr ⟨.inr (.inr ⟨_, rfl, .inr (.inl sl)⟩), q.sc E r .bl⟩)
  | dic n h t => exact .inr (.inr ⟨.inr (.inr ⟨_, rfl, .inr (.inr ⟨_, h⟩)⟩), q.sc E r .bl⟩)
  | exc _ _ _ => exact nomatch ha
  | exc0 _ => exact nomatch ha
  | mu _ => exact nomatch ha
  | rg _ => exact nomatch ha
  | fn _ => exact nomatch ha
theorem rNeT0_S : R2S X (rNeT0 X.K) sNeT0 := fun α μ H σ ρ x y da db R Q E hx hy h q => by
  obtain ⟨xs, rfl, rfl, r⟩ := h
  cases hx with
  | @tup pa vs _ s t =>
    cases hy with
    | @tup pb us _ s2 t2 =>
      cases t2
      have z := t.length
      refine ⟨_, _, _, rfl, rfl, s, s2, ?_⟩
      have e : vs.isEmpty = xs.isEmpty := by
        cases xs with
        | nil => cases vs with
          | nil => rfl
          | cons _ _ => simp at z
        | cons _ _ => cases vs with
          | nil => simp at z
          | cons _ _ => rfl
      rw [e]
      exact q.sc E r .bl
open Classical in
/-- !=, also of any thing and a number, of any tuple and the empty one -/
noncomputable def oNeB (x y : DV) (μ : List MO) : RE := match y with
  | .int j => if isAny x = true then some (.bl (!eqvD x (.int j)), μ) else none
  | .tup [] => match x with
    | .tup xs => some (.bl (!xs.isEmpty), μ)
    | _ => none
  | _ => none
theorem neB_rule (hu : X.A.units + 64 < cLine) : ∀ x y μ R, okE (oNeB x y μ) R → ∃ (r : R2) (S : S2), OpR X (compareOp .NotEq) r ∧ R2S X r S ∧ S x y μ R := by
  intro x y μ R h
  unfold oNeB at h
  split at h
  · obtain ⟨c, h⟩ := okE_if h
    exact ⟨_, _, op_neI hu, rNeI_S, _, rfl, c, h⟩
  · split at h
    · exact ⟨_, _, op_neT0 hu, rNeT0_S, _, rfl, rfl, h⟩
    · exact h.elim
  · exact h.elim
theorem SE.neB (hu : X.A.units + 64 < cLine) (sa : SE X a fa) (sb : SE X b fb) (hm : behindInMarks .NotEq b = false := by rfl) : SE X (.Compare a [.NotEq] [b] pos) (dOp2 oNeB fa fb) := SE.op2 sa sb fun x y μ2 R h => by
  obtain ⟨r, S, h1, h2, h3⟩ := neB_rule hu x y μ2 R h
  exact ⟨S, h3, fun ρ μ k => Ev.cmp h1 h2 hm k⟩
theorem ST.neB (hu : X.A.units + 64 < cLine) (sa : SE X a fa) (sb : SE X b fb) (hm : behindInMarks .NotEq b = false := by rfl) : ST X (.Compare a [.NotEq] [b] pos) (dOp2 oNeB fa fb) := ST.op2 sa sb fun x y μ2 R h => by
  obtain ⟨r, S, h1, h2, h3⟩ := neB_rule hu x y μ2 R h
  exact ⟨S, h3, fun R' e ρ μ k => by subst e; exact EvT.cmpS h1 h2 hm k⟩
end
end Eg

namespace Eg
open PySem PySem.Spec PyProof.Rows L2
section
variable {X : Cx} {a b c e o : Expr} {es : List Expr} {fa fb fc f : Den} {fs fi : DenA} {pos p p2 pos2 : Pos} {ρ : RO} {μ : List MO}
/-! ### a number times a truth; str of truths and numbers -/
theorem op_mulIB : OpR X (binaryOp .Mult) (rIB (· * ·)) := by
  intro pins s σ H x y v u Q I rx ry h
  obtain ⟨i, k, rfl, rfl, q⟩ := h
  cases ry
  obtain ⟨t, rfl⟩ := rx
  exact IntBool.mul_int_bool ⟨V.int (i * b2i k), H, I.kept fun _ _ e => e, ⟨_, rfl⟩, q⟩
/-- *, also of a number and a truth -/
def oMulB : DV → DV → List MO → RE
  | .int i, .bl k, μ => some (.int (i * b2i k), μ)
  | .int i, .int j, μ => if i.natAbs.log2 + j.natAbs.log2 < 1000000 then some (.int (i * j), μ) else none
  | _, _, _ => none
theorem SE.mulB (sa : SE X a fa) (sb : SE X b fb) : SE X (.BinOp a .Mult b pos) (dOp2 oMulB fa fb) := SE.op2 sa sb fun x y μ2 R h => by
  unfold oMulB at h
  split at h
  · exact ⟨sIB (· * ·), ⟨_, _, rfl, rfl, h⟩, fun ρ μ k => Ev.op op_mulIB rIB_S k⟩
  · obtain ⟨c, h⟩ := okE_if h
    exact ⟨sMul, sMul.mk c h, fun ρ μ k => Ev.mul k⟩
  · exact h.elim
theorem call_strV : CallR X (.type "str") (fun xs H Q => (∃ i, xs = [.int i] ∧ i.natAbs.log2 < 1920 ∧ Q (.str (toString i)) H) ∨ ∃ k : Bool, xs = [.bl k] ∧ Q (.str (if k then "True" else "False")) H) := by
  intro pins s σ H xs us Q I r h
  rcases h with ⟨i, rfl, hz, q⟩ | ⟨k, rfl, q⟩
  · obtain ⟨u, rfl, t, rfl⟩ := vals1 r
    exact PySem.P.str_of_int hz ⟨.str _, H, I.tok _, ⟨_, rfl⟩, q⟩
  · obtain ⟨u, rfl, r1⟩ := vals1 r
    cases r1
    exact PySem.P.str_of_bool ⟨.str (if k then "True" else "False"), H, I.tok _, ⟨_, by cases k <;> rfl⟩, q⟩
def sStrV : SA := fun ds μ R => (∃ i, ds = [.int i] ∧ i.natAbs.log2 < 1920 ∧ R (.str (Str.ofString (toString i))) μ) ∨ ∃ k : Bool, ds = [.bl k] ∧ R (.str (if k then "True" else "False")) μ
theorem strV_S : RaS X (fun xs H Q => (∃ i, xs = [V.int i] ∧ i.natAbs.log2 < 1920 ∧ Q (.str (toString i)) H) ∨ ∃ k : Bool, xs = [V.bl k] ∧ Q (.str (if k then "True" else "False")) H) sStrV := fun α μ H σ ρ vs ds R Q E hv h q => by
  rcases h with ⟨i, rfl, c, r⟩ | ⟨k, rfl, r⟩
  · obtain ⟨v, rfl, hw⟩ := hasL1 hv
    cases hw
    exact .inl ⟨i, rfl, c, q.sc E r .str⟩
  · obtain ⟨v, rfl, hw⟩ := hasL1 hv
    cases hw
    exact .inr ⟨k, rfl, q.sc E r .str⟩
def oStrV : List DV → List MO → RE
  | [.int i], μ => if i.natAbs.log2 < 1920 then some (.str (Str.ofString (toString i)), μ) else none
  | [.bl k], μ => some (.str (if k then "True" else "False"), μ)
  | _, _ => none
theorem SE.strV (hg : Gl X "str") (hm : X.mg "str" = none) (ss : SAr X [a] fs) (he : starEach [a] X.env = (false, eval a X.env) :: starEach [] X.env := by rfl) : SE X (.Call (.Name "str" p) [a] [] pos) (dBlt oStrV fs) :=
  SE.blt ss (S := sStrV) (fun ds μ R h => by
    unfold oStrV at h
    split at h
    · obtain ⟨c, h⟩ := okE_if h
      exact .inl ⟨_, rfl, c, h⟩
    · exact .inr ⟨_, rfl, h⟩
    · exact h.elim) fun ρ μ R k => .callTy call_strV strV_S hg hm PyProof.Rows.boot_str k (by decide) (by decide) he rfl
end
end Eg

namespace Lw
open PySem PySem.Spec L2
/-- what the top has left, by names -/
structure Fx (K : PySem.W.Frag) (mg : Str → Option Value) : Prop where
  glo : ∀ (i : Nat) {x : Str}, faL[i]? = some (.glo x) → mg x = some (.ref (He.ga K x))
  free : ∀ (i : Nat) {x : Str}, faL[i]? = some (.free x) → mg x = none
  fn : ∀ (i : Nat) {d : He.DefD}, fnL[i]? = some d → ∃ fd, FunD K d.name d.qual d.params d.body d.scope (d.dvs K) (d.kws K) (He.fAd K d.at_) fd
  str : ∀ (i : Nat) {x z : Str}, faL[i]? = some (.str x z) → ∃ t, mg x = some (.str z t)
  int : ∀ (i : Nat) {x : Str} {z : Int}, faL[i]? = some (.int x z) → ∃ t, mg x = some (.int z t)
  ex : exB K = true
theorem fx_of {K : PySem.W.Frag} {h : Heap} {mg : Str → Option Value} {w : World} (X : K.In h) (G : h.Ns mainGlobals mg) (c : He.SaysX faL fnL [] [] exB w h K) : Fx K mg where
  glo := fun i {x} e => He.glo_ok X G (c.t.d.fact i e)
  free := fun i {x} e => He.free_ok X G (c.t.d.fact i e)
  fn := fun i {d} e => c.t.d.def_ i e
  str := fun i {x z} e => He.str_ok X G (c.t.d.fact i e)
  int := fun i {x z} e => He.int_ok X G (c.t.d.fact i e)
  ex := c.more
theorem Fx.g_LookError {K : PySem.W.Frag} {mg : Str → Option Value} (T : Fx K mg) : mg "LookError" = some (.ref (He.ga K "LookError")) := T.glo 1 rfl
theorem Fx.g_InvalidNumber {K : PySem.W.Frag} {mg : Str → Option Value} (T : Fx K mg) : mg "InvalidNumber" = some (.ref (He.ga K "InvalidNumber")) := T.glo 2 rfl
theorem Fx.g_InvalidStretch {K : PySem.W.Frag} {mg : Str → Option Value} (T : Fx K mg) : mg "InvalidStretch" = some (.ref (He.ga K "InvalidStretch")) := T.glo 3 rfl
theorem Fx.g_InvalidRest {K : PySem.W.Frag} {mg : Str → Option Value} (T : Fx K mg) : mg "InvalidRest" = some (.ref (He.ga K "InvalidRest")) := T.glo 4 rfl
theorem Fx.g_is_whole {K : PySem.W.Frag} {mg : Str → Option Value} (T : Fx K mg) : mg "is_whole" = some (.ref (He.ga K "is_whole")) := T.glo 5 rfl
theorem Fx.g_is_end {K : PySem.W.Frag} {mg : Str → Option Value} (T : Fx K mg) : mg "is_end" = some (.ref (He.ga K "is_end")) := T.glo 6 rfl
theorem Fx.g_is_span {K : PySem.W.Frag} {mg : Str → Option Value} (T : Fx K mg) : mg "is_span" = some (.ref (He.ga K "is_span")) := T.glo 7 rfl
theorem Fx.g_span_holds {K : PySem.W.Frag} {mg : Str → Option Value} (T : Fx K mg) : mg "span_holds" = some (.ref (He.ga K "span_holds")) := T.glo 8 rfl
theorem Fx.g_is_residue {K : PySem.W.Frag} {mg : Str → Option Value} (T : Fx K mg) : mg "is_residue" = some (.ref (He.ga K "is_residue")) := T.glo 9 rfl
theorem Fx.g_residue_of {K : PySem.W.Frag} {mg : Str → Option Value} (T : Fx K mg) : mg "residue_of" = some (.ref (He.ga K "residue_of")) := T.glo 10 rfl
theorem Fx.g_residue_holds {K : PySem.W.Frag} {mg : Str → Option Value} (T : Fx K mg) : mg "residue_holds" = some (.ref (He.ga K "residue_holds")) := T.glo 11 rfl
theorem Fx.g_refuse_wrong_stretch {K : PySem.W.Frag} {mg : Str → Option Value} (T : Fx K mg) : mg "refuse_wrong_stretch" = some (.ref (He.ga K "refuse_wrong_stretch")) := T.glo 12 rfl
theorem Fx.g_refuse_wrong_rest {K : PySem.W.Frag} {mg : Str → Option Value} (T : Fx K mg) : mg "refuse_wrong_rest" = some (.ref (He.ga K "refuse_wrong_rest")) := T.glo 13 rfl
theorem Fx.g_refuse_wrong_number {K : PySem.W.Frag} {mg : Str → Option Value} (T : Fx K mg) : mg "refuse_wrong_number" = some (.ref (He.ga K "refuse_wrong_number")) := T.glo 14 rfl
theorem Fx.g_is_stretch {K : PySem.W.Frag} {mg : Str → Option Value} (T : Fx K mg) : mg "is_stretch" = some (.ref (He.ga K "is_stretch")) := T.glo 15 rfl
theorem Fx.g_stretch_holds {K : PySem.W.Frag} {mg : Str → Option Value} (T : Fx K mg) : mg "stretch_holds" = some (.ref (He.ga K "stretch_holds")) := T.glo 16 rfl
theorem Fx.g_is_rest {K : PySem.W.Frag} {mg : Str → Option Value} (T : Fx K mg) : mg "is_rest" = some (.ref (He.ga K "is_rest")) := T.glo 17 rfl
theorem Fx.g_rest_holds {K : PySem.W.Frag} {mg : Str → Option Value} (T : Fx K mg) : mg "rest_holds" = some (.ref (He.ga K "rest_holds")) := T.glo 18 rfl
theorem Fx.g_l_source {K : PySem.W.Frag} {mg : Str → Option Value} (T : Fx K mg) : mg "_law_source" = some (.ref (He.ga K "_law_source")) := T.glo 19 rfl
theorem Fx.g_l_take {K : PySem.W.Frag} {mg : Str → Option Value} (T : Fx K mg) : mg "_law_take" = some (.ref (He.ga K "_law_take")) := T.glo 20 rfl
theorem Fx.g_l_pick {K : PySem.W.Frag} {mg : Str → Option Value} (T : Fx K mg) : mg "_law_pick" = some (.ref (He.ga K "_law_pick")) := T.glo 21 rfl
theorem Fx.g_l_great {K : PySem.W.Frag} {mg : Str → Option Value} (T : Fx K mg) : mg "_law_great" = some (.ref (He.ga K "_law_great")) := T.glo 22 rfl
theorem Fx.g_l_number {K : PySem.W.Frag} {mg : Str → Option Value} (T : Fx K mg) : mg "_law_number" = some (.ref (He.ga K "_law_number")) := T.glo 23 rfl
theorem Fx.g_l_stretch {K : PySem.W.Frag} {mg : Str → Option Value} (T : Fx K mg) : mg "_law_stretch" = some (.ref (He.ga K "_law_stretch")) := T.glo 24 rfl
theorem Fx.g_l_near {K : PySem.W.Frag} {mg : Str → Option Value} (T : Fx K mg) : mg "_law_near" = some (.ref (He.ga K "_law_near")) := T.glo 25 rfl
theorem Fx.g_l_part {K : PySem.W.Frag} {mg : Str → Option Value} (T : Fx K mg) : mg "_law_part" = some (.ref (He.ga K "_law_part")) := T.glo 26 rfl
theorem Fx.g_l_rest {K : PySem.W.Frag} {mg : Str → Option Value} (T : Fx K mg) : mg "_law_rest" = some (.ref (He.ga K "_law_rest")) := T.glo 27 rfl
theorem Fx.g_l_rest_near {K : PySem.W.Frag} {mg : Str → Option Value} (T : Fx K mg) : mg "_law_rest_near" = some (.ref (He.ga K "_law_rest_near")) := T.glo 28 rfl
theorem Fx.g_l_is_whole {K : PySem.W.Frag} {mg : Str → Option Value} (T : Fx K mg) : mg "_law_is_whole" = some (.ref (He.ga K "_law_is_whole")) := T.glo 29 rfl
theorem Fx.g_l_same {K : PySem.W.Frag} {mg : Str → Option Value} (T : Fx K mg) : mg "_law_same" = some (.ref (He.ga K "_law_same")) := T.glo 30 rfl
theorem Fx.g_l_has {K : PySem.W.Frag} {mg : Str → Option Value} (T : Fx K mg) : mg "_law_has" = some (.ref (He.ga K "_law_has")) := T.glo 31 rfl
theorem Fx.g_l_rest_has {K : PySem.W.Frag} {mg : Str → Option Value} (T : Fx K mg) : mg "_law_rest_has" = some (.ref (He.ga K "_law_rest_has")) := T.glo 32 rfl
theorem Fx.g_l_beside {K : PySem.W.Frag} {mg : Str → Option Value} (T : Fx K mg) : mg "_law_beside" = some (.ref (He.ga K "_law_beside")) := T.glo 33 rfl
theorem Fx.g_l_is_stretch {K : PySem.W.Frag} {mg : Str → Option Value} (T : Fx K mg) : mg "_law_is_stretch" = some (.ref (He.ga K "_law_is_stretch")) := T.glo 34 rfl
theorem Fx.g_l_is_rest {K : PySem.W.Frag} {mg : Str → Option Value} (T : Fx K mg) : mg "_law_is_rest" = some (.ref (He.ga K "_law_is_rest")) := T.glo 35 rfl
theorem Fx.g_l_odd {K : PySem.W.Frag} {mg : Str → Option Value} (T : Fx K mg) : mg "_law_odd" = some (.ref (He.ga K "_law_odd")) := T.glo 36 rfl
theorem Fx.g_l_bent {K : PySem.W.Frag} {mg : Str → Option Value} (T : Fx K mg) : mg "_law_bent" = some (.ref (He.ga K "_law_bent")) := T.glo 37 rfl
theorem Fx.g_l_value {K : PySem.W.Frag} {mg : Str → Option Value} (T : Fx K mg) : mg "_law_value" = some (.ref (He.ga K "_law_value")) := T.glo 38 rfl
theorem Fx.g_l_values_right {K : PySem.W.Frag} {mg : Str → Option Value} (T : Fx K mg) : mg "_law_values_right" = some (.ref (He.ga K "_law_values_right")) := T.glo 39 rfl
theorem Fx.g_l_stretches_right {K : PySem.W.Frag} {mg : Str → Option Value} (T : Fx K mg) : mg "_law_stretches_right" = some (.ref (He.ga K "_law_stretches_right")) := T.glo 40 rfl
theorem Fx.g_l_rests_right {K : PySem.W.Frag} {mg : Str → Option Value} (T : Fx K mg) : mg "_law_rests_right" = some (.ref (He.ga K "_law_rests_right")) := T.glo 41 rfl
theorem Fx.g_l_right {K : PySem.W.Frag} {mg : Str → Option Value} (T : Fx K mg) : mg "_law_right" = some (.ref (He.ga K "_law_right")) := T.glo 42 rfl
theorem Fx.g_l_law {K : PySem.W.Frag} {mg : Str → Option Value} (T : Fx K mg) : mg "law" = some (.ref (He.ga K "law")) := T.glo 43 rfl
theorem Fx.n_ValueError {K : PySem.W.Frag} {mg : Str → Option Value} (T : Fx K mg) : mg "ValueError" = none := T.free 44 rfl
theorem Fx.n_abs {K : PySem.W.Frag} {mg : Str → Option Value} (T : Fx K mg) : mg "abs" = none := T.free 45 rfl
theorem Fx.n_all {K : PySem.W.Frag} {mg : Str → Option Value} (T : Fx K mg) : mg "all" = none := T.free 46 rfl
theorem Fx.n_bool {K : PySem.W.Frag} {mg : Str → Option Value} (T : Fx K mg) : mg "bool" = none := T.free 47 rfl
theorem Fx.n_divmod {K : PySem.W.Frag} {mg : Str → Option Value} (T : Fx K mg) : mg "divmod" = none := T.free 48 rfl
theorem Fx.n_int {K : PySem.W.Frag} {mg : Str → Option Value} (T : Fx K mg) : mg "int" = none := T.free 49 rfl
theorem Fx.n_isinstance {K : PySem.W.Frag} {mg : Str → Option Value} (T : Fx K mg) : mg "isinstance" = none := T.free 50 rfl
theorem Fx.n_len {K : PySem.W.Frag} {mg : Str → Option Value} (T : Fx K mg) : mg "len" = none := T.free 51 rfl
theorem Fx.n_list {K : PySem.W.Frag} {mg : Str → Option Value} (T : Fx K mg) : mg "list" = none := T.free 52 rfl
theorem Fx.n_max {K : PySem.W.Frag} {mg : Str → Option Value} (T : Fx K mg) : mg "max" = none := T.free 53 rfl
theorem Fx.n_min {K : PySem.W.Frag} {mg : Str → Option Value} (T : Fx K mg) : mg "min" = none := T.free 54 rfl
theorem Fx.n_range {K : PySem.W.Frag} {mg : Str → Option Value} (T : Fx K mg) : mg "range" = none := T.free 55 rfl
theorem Fx.n_str {K : PySem.W.Frag} {mg : Str → Option Value} (T : Fx K mg) : mg "str" = none := T.free 56 rfl
theorem Fx.n_tuple {K : PySem.W.Frag} {mg : Str → Option Value} (T : Fx K mg) : mg "tuple" = none := T.free 57 rfl
theorem Fx.n_zip {K : PySem.W.Frag} {mg : Str → Option Value} (T : Fx K mg) : mg "zip" = none := T.free 58 rfl
theorem Fx.d_InvalidNumber_init {K : PySem.W.Frag} {mg : Str → Option Value} (T : Fx K mg) : ∃ fd, FunD K dInvalidNumber_init.name dInvalidNumber_init.qual dInvalidNumber_init.params dInvalidNumber_init.body dInvalidNumber_init.scope (dInvalidNumber_init.dvs K) (dInvalidNumber_init.kws K) (He.fAd K dInvalidNumber_init.at_) fd := T.fn 0 rfl
theorem Fx.d_InvalidStretch_init {K : PySem.W.Frag} {mg : Str → Option Value} (T : Fx K mg) : ∃ fd, FunD K dInvalidStretch_init.name dInvalidStretch_init.qual dInvalidStretch_init.params dInvalidStretch_init.body dInvalidStretch_init.scope (dInvalidStretch_init.dvs K) (dInvalidStretch_init.kws K) (He.fAd K dInvalidStretch_init.at_) fd := T.fn 1 rfl
theorem Fx.d_InvalidRest_init {K : PySem.W.Frag} {mg : Str → Option Value} (T : Fx K mg) : ∃ fd, FunD K dInvalidRest_init.name dInvalidRest_init.qual dInvalidRest_init.params dInvalidRest_init.body dInvalidRest_init.scope (dInvalidRest_init.dvs K) (dInvalidRest_init.kws K) (He.fAd K dInvalidRest_init.at_) fd := T.fn 2 rfl
theorem Fx.d_is_whole {K : PySem.W.Frag} {mg : Str → Option Value} (T : Fx K mg) : ∃ fd, FunD K dis_whole.name dis_whole.qual dis_whole.params dis_whole.body dis_whole.scope (dis_whole.dvs K) (dis_whole.kws K) (He.fAd K dis_whole.at_) fd := T.fn 3 rfl
theorem Fx.d_is_end {K : PySem.W.Frag} {mg : Str → Option Value} (T : Fx K mg) : ∃ fd, FunD K dis_end.name dis_end.qual dis_end.params dis_end.body dis_end.scope (dis_end.dvs K) (dis_end.kws K) (He.fAd K dis_end.at_) fd := T.fn 4 rfl
theorem Fx.d_is_span {K : PySem.W.Frag} {mg : Str → Option Value} (T : Fx K mg) : ∃ fd, FunD K dis_span.name dis_span.qual dis_span.params dis_span.body dis_span.scope (dis_span.dvs K) (dis_span.kws K) (He.fAd K dis_span.at_) fd := T.fn 5 rfl
theorem Fx.d_span_holds {K : PySem.W.Frag} {mg : Str → Option Value} (T : Fx K mg) : ∃ fd, FunD K dspan_holds.name dspan_holds.qual dspan_holds.params dspan_holds.body dspan_holds.scope (dspan_holds.dvs K) (dspan_holds.kws K) (He.fAd K dspan_holds.at_) fd := T.fn 6 rfl
theorem Fx.d_is_residue {K : PySem.W.Frag} {mg : Str → Option Value} (T : Fx K mg) : ∃ fd, FunD K dis_residue.name dis_residue.qual dis_residue.params dis_residue.body dis_residue.scope (dis_residue.dvs K) (dis_residue.kws K) (He.fAd K dis_residue.at_) fd := T.fn 7 rfl
theorem Fx.d_residue_of {K : PySem.W.Frag} {mg : Str → Option Value} (T : Fx K mg) : ∃ fd, FunD K dresidue_of.name dresidue_of.qual dresidue_of.params dresidue_of.body dresidue_of.scope (dresidue_of.dvs K) (dresidue_of.kws K) (He.fAd K dresidue_of.at_) fd := T.fn 8 rfl
theorem Fx.d_residue_holds {K : PySem.W.Frag} {mg : Str → Option Value} (T : Fx K mg) : ∃ fd, FunD K dresidue_holds.name dresidue_holds.qual dresidue_holds.params dresidue_holds.body dresidue_holds.scope (dresidue_holds.dvs K) (dresidue_holds.kws K) (He.fAd K dresidue_holds.at_) fd := T.fn 9 rfl
theorem Fx.d_refuse_wrong_stretch {K : PySem.W.Frag} {mg : Str → Option Value} (T : Fx K mg) : ∃ fd, FunD K drefuse_wrong_stretch.name drefuse_wrong_stretch.qual drefuse_wrong_stretch.params drefuse_wrong_stretch.body drefuse_wrong_stretch.scope (drefuse_wrong_stretch.dvs K) (drefuse_wrong_stretch.kws K) (He.fAd K drefuse_wrong_stretch.at_) fd := T.fn 10 rfl
theorem Fx.d_refuse_wrong_rest {K : PySem.W.Frag} {mg : Str → Option Value} (T : Fx K mg) : ∃ fd, FunD K drefuse_wrong_rest.name drefuse_wrong_rest.qual drefuse_wrong_rest.params drefuse_wrong_rest.body drefuse_wrong_rest.scope (drefuse_wrong_rest.dvs K) (drefuse_wrong_rest.kws K) (He.fAd K drefuse_wrong_rest.at_) fd := T.fn 11 rfl
theorem Fx.d_refuse_wrong_number {K : PySem.W.Frag} {mg : Str → Option Value} (T : Fx K mg) : ∃ fd, FunD K drefuse_wrong_number.name drefuse_wrong_number.qual drefuse_wrong_number.params drefuse_wrong_number.body drefuse_wrong_number.scope (drefuse_wrong_number.dvs K) (drefuse_wrong_number.kws K) (He.fAd K drefuse_wrong_number.at_) fd := T.fn 12 rfl
theorem Fx.d_is_stretch {K : PySem.W.Frag} {mg : Str → Option Value} (T : Fx K mg) : ∃ fd, FunD K dis_stretch.name dis_stretch.qual dis_stretch.params dis_stretch.body dis_stretch.scope (dis_stretch.dvs K) (dis_stretch.kws K) (He.fAd K dis_stretch.at_) fd := T.fn 13 rfl
theorem Fx.d_stretch_holds {K : PySem.W.Frag} {mg : Str → Option Value} (T : Fx K mg) : ∃ fd, FunD K dstretch_holds.name dstretch_holds.qual dstretch_holds.params dstretch_holds.body dstretch_holds.scope (dstretch_holds.dvs K) (dstretch_holds.kws K) (He.fAd K dstretch_holds.at_) fd := T.fn 14 rfl
theorem Fx.d_is_rest {K : PySem.W.Frag} {mg : Str → Option Value} (T : Fx K mg) : ∃ fd, FunD K dis_rest.name dis_rest.qual dis_rest.params dis_rest.body dis_rest.scope (dis_rest.dvs K) (dis_rest.kws K) (He.fAd K dis_rest.at_) fd := T.fn 15 rfl
theorem Fx.d_rest_holds {K : PySem.W.Frag} {mg : Str → Option Value} (T : Fx K mg) : ∃ fd, FunD K drest_holds.name drest_holds.qual drest_holds.params drest_holds.body drest_holds.scope (drest_holds.dvs K) (drest_holds.kws K) (He.fAd K drest_holds.at_) fd := T.fn 16 rfl
theorem Fx.d_l_source {K : PySem.W.Frag} {mg : Str → Option Value} (T : Fx K mg) : ∃ fd, FunD K dl_source.name dl_source.qual dl_source.params dl_source.body dl_source.scope (dl_source.dvs K) (dl_source.kws K) (He.fAd K dl_source.at_) fd := T.fn 17 rfl
theorem Fx.d_l_take {K : PySem.W.Frag} {mg : Str → Option Value} (T : Fx K mg) : ∃ fd, FunD K dl_take.name dl_take.qual dl_take.params dl_take.body dl_take.scope (dl_take.dvs K) (dl_take.kws K) (He.fAd K dl_take.at_) fd := T.fn 18 rfl
theorem Fx.d_l_pick {K : PySem.W.Frag} {mg : Str → Option Value} (T : Fx K mg) : ∃ fd, FunD K dl_pick.name dl_pick.qual dl_pick.params dl_pick.body dl_pick.scope (dl_pick.dvs K) (dl_pick.kws K) (He.fAd K dl_pick.at_) fd := T.fn 19 rfl
theorem Fx.d_l_great {K : PySem.W.Frag} {mg : Str → Option Value} (T : Fx K mg) : ∃ fd, FunD K dl_great.name dl_great.qual dl_great.params dl_great.body dl_great.scope (dl_great.dvs K) (dl_great.kws K) (He.fAd K dl_great.at_) fd := T.fn 20 rfl
theorem Fx.d_l_number {K : PySem.W.Frag} {mg : Str → Option Value} (T : Fx K mg) : ∃ fd, FunD K dl_number.name dl_number.qual dl_number.params dl_number.body dl_number.scope (dl_number.dvs K) (dl_number.kws K) (He.fAd K dl_number.at_) fd := T.fn 21 rfl
theorem Fx.d_l_stretch {K : PySem.W.Frag} {mg : Str → Option Value} (T : Fx K mg) : ∃ fd, FunD K dl_stretch.name dl_stretch.qual dl_stretch.params dl_stretch.body dl_stretch.scope (dl_stretch.dvs K) (dl_stretch.kws K) (He.fAd K dl_stretch.at_) fd := T.fn 22 rfl
theorem Fx.d_l_near {K : PySem.W.Frag} {mg : Str → Option Value} (T : Fx K mg) : ∃ fd, FunD K dl_near.name dl_near.qual dl_near.params dl_near.body dl_near.scope (dl_near.dvs K) (dl_near.kws K) (He.fAd K dl_near.at_) fd := T.fn 23 rfl
theorem Fx.d_l_part {K : PySem.W.Frag} {mg : Str → Option Value} (T : Fx K mg) : ∃ fd, FunD K dl_part.name dl_part.qual dl_part.params dl_part.body dl_part.scope (dl_part.dvs K) (dl_part.kws K) (He.fAd K dl_part.at_) fd := T.fn 24 rfl
theorem Fx.d_l_rest {K : PySem.W.Frag} {mg : Str → Option Value} (T : Fx K mg) : ∃ fd, FunD K dl_rest.name dl_rest.qual dl_rest.params dl_rest.body dl_rest.scope (dl_rest.dvs K) (dl_rest.kws K) (He.fAd K dl_rest.at_) fd := T.fn 25 rfl
theorem Fx.d_l_rest_near {K : PySem.W.Frag} {mg : Str → Option Value} (T : Fx K mg) : ∃ fd, FunD K dl_rest_near.name dl_rest_near.qual dl_rest_near.params dl_rest_near.body dl_rest_near.scope (dl_rest_near.dvs K) (dl_rest_near.kws K) (He.fAd K dl_rest_near.at_) fd := T.fn 26 rfl
theorem Fx.d_l_is_whole {K : PySem.W.Frag} {mg : Str → Option Value} (T : Fx K mg) : ∃ fd, FunD K dl_is_whole.name dl_is_whole.qual dl_is_whole.params dl_is_whole.body dl_is_whole.scope (dl_is_whole.dvs K) (dl_is_whole.kws K) (He.fAd K dl_is_whole.at_) fd := T.fn 27 rfl
theorem Fx.d_l_same {K : PySem.W.Frag} {mg : Str → Option Value} (T : Fx K mg) : ∃ fd, FunD K dl_same.name dl_same.qual dl_same.params dl_same.body dl_same.scope (dl_same.dvs K) (dl_same.kws K) (He.fAd K dl_same.at_) fd := T.fn 28 rfl
theorem Fx.d_l_has {K : PySem.W.Frag} {mg : Str → Option Value} (T : Fx K mg) : ∃ fd, FunD K dl_has.name dl_has.qual dl_has.params dl_has.body dl_has.scope (dl_has.dvs K) (dl_has.kws K) (He.fAd K dl_has.at_) fd := T.fn 29 rfl
theorem Fx.d_l_rest_has {K : PySem.W.Frag} {mg : Str → Option Value} (T : Fx K mg) : ∃ fd, FunD K dl_rest_has.name dl_rest_has.qual dl_rest_has.params dl_rest_has.body dl_rest_has.scope (dl_rest_has.dvs K) (dl_rest_has.kws K) (He.fAd K dl_rest_has.at_) fd := T.fn 30 rfl
theorem Fx.d_l_beside {K : PySem.W.Frag} {mg : Str → Option Value} (T : Fx K mg) : ∃ fd, FunD K dl_beside.name dl_beside.qual dl_beside.params dl_beside.body dl_beside.scope (dl_beside.dvs K) (dl_beside.kws K) (He.fAd K dl_beside.at_) fd := T.fn 31 rfl
theorem Fx.d_l_is_stretch {K : PySem.W.Frag} {mg : Str → Option Value} (T : Fx K mg) : ∃ fd, FunD K dl_is_stretch.name dl_is_stretch.qual dl_is_stretch.params dl_is_stretch.body dl_is_stretch.scope (dl_is_stretch.dvs K) (dl_is_stretch.kws K) (He.fAd K dl_is_stretch.at_) fd := T.fn 32 rfl
theorem Fx.d_l_is_rest {K : PySem.W.Frag} {mg : Str → Option Value} (T : Fx K mg) : ∃ fd, FunD K dl_is_rest.name dl_is_rest.qual dl_is_rest.params dl_is_rest.body dl_is_rest.scope (dl_is_rest.dvs K) (dl_is_rest.kws K) (He.fAd K dl_is_rest.at_) fd := T.fn 33 rfl
theorem Fx.d_l_odd {K : PySem.W.Frag} {mg : Str → Option Value} (T : Fx K mg) : ∃ fd, FunD K dl_odd.name dl_odd.qual dl_odd.params dl_odd.body dl_odd.scope (dl_odd.dvs K) (dl_odd.kws K) (He.fAd K dl_odd.at_) fd := T.fn 34 rfl
theorem Fx.d_l_bent {K : PySem.W.Frag} {mg : Str → Option Value} (T : Fx K mg) : ∃ fd, FunD K dl_bent.name dl_bent.qual dl_bent.params dl_bent.body dl_bent.scope (dl_bent.dvs K) (dl_bent.kws K) (He.fAd K dl_bent.at_) fd := T.fn 35 rfl
theorem Fx.d_l_value {K : PySem.W.Frag} {mg : Str → Option Value} (T : Fx K mg) : ∃ fd, FunD K dl_value.name dl_value.qual dl_value.params dl_value.body dl_value.scope (dl_value.dvs K) (dl_value.kws K) (He.fAd K dl_value.at_) fd := T.fn 36 rfl
theorem Fx.d_l_values_right {K : PySem.W.Frag} {mg : Str → Option Value} (T : Fx K mg) : ∃ fd, FunD K dl_values_right.name dl_values_right.qual dl_values_right.params dl_values_right.body dl_values_right.scope (dl_values_right.dvs K) (dl_values_right.kws K) (He.fAd K dl_values_right.at_) fd := T.fn 37 rfl
theorem Fx.d_l_stretches_right {K : PySem.W.Frag} {mg : Str → Option Value} (T : Fx K mg) : ∃ fd, FunD K dl_stretches_right.name dl_stretches_right.qual dl_stretches_right.params dl_stretches_right.body dl_stretches_right.scope (dl_stretches_right.dvs K) (dl_stretches_right.kws K) (He.fAd K dl_stretches_right.at_) fd := T.fn 38 rfl
theorem Fx.d_l_rests_right {K : PySem.W.Frag} {mg : Str → Option Value} (T : Fx K mg) : ∃ fd, FunD K dl_rests_right.name dl_rests_right.qual dl_rests_right.params dl_rests_right.body dl_rests_right.scope (dl_rests_right.dvs K) (dl_rests_right.kws K) (He.fAd K dl_rests_right.at_) fd := T.fn 39 rfl
theorem Fx.d_l_right {K : PySem.W.Frag} {mg : Str → Option Value} (T : Fx K mg) : ∃ fd, FunD K dl_right.name dl_right.qual dl_right.params dl_right.body dl_right.scope (dl_right.dvs K) (dl_right.kws K) (He.fAd K dl_right.at_) fd := T.fn 40 rfl
theorem Fx.d_l_law {K : PySem.W.Frag} {mg : Str → Option Value} (T : Fx K mg) : ∃ fd, FunD K dl_law.name dl_law.qual dl_law.params dl_law.body dl_law.scope (dl_law.dvs K) (dl_law.kws K) (He.fAd K dl_law.at_) fd := T.fn 41 rfl
section
open Eg
theorem kB_vals : ∀ (l : List Value) (zs : List (Int ⊕ (Str ⊕ Unit))), l.map kB = zs.map some → Vals (zs.map fun z => match z with | .inl n => V.int n | .inr (.inl y) => V.str y | .inr (.inr _) => V.non) l
  | [], [], _ => .nil
  | [], _ :: _, h => by cases h
  | _ :: _, [], h => by cases h
  | v :: r, z :: zs, h => by
    rw [List.map_cons, List.map_cons] at h
    injection h with h1 h2
    refine .cons ?_ (kB_vals r zs h2)
    cases v <;> first | (cases h1; exact ⟨_, rfl⟩) | (cases h1; exact rfl) | cases h1
theorem kB_has {w : Wd} : ∀ (zs : List (Int ⊕ (Str ⊕ Unit))), HasL w (zs.map fun z => match z with | .inl n => V.int n | .inr (.inl y) => V.str y | .inr (.inr _) => V.non) (zs.map fun z => match z with | .inl n => DV.int n | .inr (.inl y) => DV.str y | .inr (.inr _) => DV.non)
  | [] => .nil
  | .inl _ :: r => .cons .int (kB_has r)
  | .inr (.inl _) :: r => .cons .str (kB_has r)
  | .inr (.inr _) :: r => .cons .non (kB_has r)
theorem tup_has {K : PySem.W.Frag} {x : Str} {zs : List (Int ⊕ (Str ⊕ Unit))} (h : tupB K x zs = true) (hz : zs.length ≤ 1000) (α : List Addr) (μ : List MO) (H : Hp) : Has ⟨K, α, μ, H⟩ (V.ref (He.ga K x)) (.tup (zs.map fun z => match z with | .inl n => DV.int n | .inr (.inl y) => DV.str y | .inr (.inr _) => DV.non)) := by
  unfold tupB at h
  split at h
  · rename_i dd its n sl hl
    have hm := of_decide_eq_true h
    have vals := kB_vals its.toList zs hm
    have hlen : its.size = zs.length := by
      have z := vals.length
      rw [List.length_map, Array.length_toList] at z
      exact z.symm
    exact .tup (.inr ⟨_, its, n, hl, rfl, rfl, by rw [hlen, sizeLine_eq]; omega, vals⟩) (kB_has zs)
  · cases h
theorem Fx.c_GRAIN {K : PySem.W.Frag} {mg : Str → Option Value} (T : Fx K mg) {X : Cx} {pos : Pos} (hg : Gl X "GRAIN") (hm : X.mg = mg := by rfl) : SE X (.Name "GRAIN" pos) (dC (.int 20160)) := by
  obtain ⟨t, e⟩ := T.int 0 rfl
  exact SE.glob (v := .int 20160) hg (by rw [hm]; exact e) ⟨t, rfl⟩ fun _ _ _ => .int
end
end Lw

namespace Lw
open PySem PySem.Spec L2 Eg
noncomputable def D_is_whole : DenS :=
  (sCons (sRet (dAnd (dIsi "int" (dVar 0)) (dNot (dIsi "bool" (dVar 0)))))
  sNil)
noncomputable def V_is_whole : FD := mkFn 1 ["value"] D_is_whole
noncomputable def D_is_end : DenS :=
  (sCons (sRet (dOr (dOp2 oIs (dVar 0) (dC .non)) (dCall V_is_whole (aCons (dVar 0) aNil))))
  sNil)
noncomputable def V_is_end : FD := mkFn 1 ["value"] D_is_end
noncomputable def D_is_span : DenS :=
  (sCons (sIf (dOr (dNot (dIsi "tuple" (dVar 0))) (dOp2 oNin (dBlt oLen (aCons (dVar 0) aNil)) (dTup (aCons (dC (.int 0)) (aCons (dC (.int 2)) aNil)))))
  (sCons (sRet (dC (.bl false)))
  sNil)
  sNil)
  (sCons (sIf (dNot (dBlt oAll (aCons (dLc (iSeq (dVar 0)) (bd1 1) dT (dCall V_is_end (aCons (dVar 1) aNil))) aNil)))
  (sCons (sRet (dC (.bl false)))
  sNil)
  sNil)
  (sCons (sRet (dOr (dOp2 oEq (dBlt oLen (aCons (dVar 0) aNil)) (dC (.int 0))) (dOr (dOp2 oIs (dOp2 oIx (dVar 0) (dC (.int 0))) (dC .non)) (dOr (dOp2 oIs (dOp2 oIx (dVar 0) (dC (.int 1))) (dC .non)) (dOp2 oLe (dOp2 oIx (dVar 0) (dC (.int 0))) (dOp2 oIx (dVar 0) (dC (.int 1))))))))
  sNil)))
noncomputable def V_is_span : FD := mkFn 1 ["value", "end"] D_is_span
noncomputable def D_span_holds : DenS :=
  (sCons (sIf (dOp2 oEq (dVar 0) (dTup aNil))
  (sCons (sRet (dC (.bl false)))
  sNil)
  sNil)
  (sCons (sAsg (gTu 2 (gAnd (gNm 2) (gAnd (gNm 3) gEnd))) (dVar 0))
  (sCons (sRet (dAnd (dOr (dOp2 oIs (dVar 2) (dC .non)) (dOp2 oLe (dVar 2) (dVar 1))) (dOr (dOp2 oIs (dVar 3) (dC .non)) (dOp2 oLe (dVar 1) (dVar 3)))))
  sNil)))
noncomputable def V_span_holds : FD := mkFn 2 ["span", "number", "low", "high"] D_span_holds
noncomputable def D_is_residue : DenS :=
  (sCons (sIf (dOr (dNot (dIsi "tuple" (dVar 0))) (dOp2 oNin (dBlt oLen (aCons (dVar 0) aNil)) (dTup (aCons (dC (.int 0)) (aCons (dC (.int 2)) aNil)))))
  (sCons (sRet (dC (.bl false)))
  sNil)
  sNil)
  (sCons (sIf (dNot (dBlt oAll (aCons (dLc (iSeq (dVar 0)) (bd1 1) dT (dCall V_is_whole (aCons (dVar 1) aNil))) aNil)))
  (sCons (sRet (dC (.bl false)))
  sNil)
  sNil)
  (sCons (sIf (dOr (dOp2 oEq (dBlt oLen (aCons (dVar 0) aNil)) (dC (.int 0))) (dOp2 oEq (dOp2 oIx (dVar 0) (dC (.int 1))) (dC (.int 0))))
  (sCons (sRet (dC (.bl true)))
  sNil)
  sNil)
  (sCons (sAsg (gTu 2 (gAnd (gNm 1) (gAnd (gNm 2) gEnd))) (dVar 0))
  (sCons (sRet (dAnd (dOp2 oGt (dVar 2) (dC (.int 0))) (dAnd (dOp2 oEq (dOp2 oMod (dC (.int 20160)) (dVar 2)) (dC (.int 0))) (dChain oLe oLt (dC (.int 0)) (dVar 1) (dVar 2)))))
  sNil)))))
noncomputable def V_is_residue : FD := mkFn 1 ["value", "number", "divisor"] D_is_residue
noncomputable def D_residue_of : DenS :=
  (sCons (sRet (dIf (dOp2 oEq (dVar 1) (dC (.int 0))) (dTup (aCons (dVar 0) (aCons (dC (.int 0)) aNil))) (dTup (aCons (dOp2 oMod (dVar 0) (dVar 1)) (aCons (dVar 1) aNil)))))
  sNil)
noncomputable def V_residue_of : FD := mkFn 2 ["number", "divisor"] D_residue_of
noncomputable def D_residue_holds : DenS :=
  (sCons (sIf (dOp2 oEq (dVar 0) (dTup aNil))
  (sCons (sRet (dC (.bl false)))
  sNil)
  sNil)
  (sCons (sRet (dOp2 oEq (dCall V_residue_of (aCons (dVar 1) (aCons (dOp2 oIx (dVar 0) (dC (.int 1))) aNil))) (dVar 0)))
  sNil))
noncomputable def V_residue_holds : FD := mkFn 2 ["residue", "number"] D_residue_holds
noncomputable def D_refuse_wrong_stretch : DenS :=
  (sCons (sIf (dNot (dCall V_is_span (aCons (dVar 0) aNil)))
  (sCons sNo
  sNil)
  sNil)
  sNil)
noncomputable def V_refuse_wrong_stretch : FD := mkFn 1 ["stretch"] D_refuse_wrong_stretch
noncomputable def D_refuse_wrong_rest : DenS :=
  (sCons (sIf (dNot (dCall V_is_residue (aCons (dVar 0) aNil)))
  (sCons sNo
  sNil)
  sNil)
  sNil)
noncomputable def V_refuse_wrong_rest : FD := mkFn 1 ["rest"] D_refuse_wrong_rest
noncomputable def D_refuse_wrong_number : DenS :=
  (sCons (sIf (dNot (dCall V_is_whole (aCons (dVar 0) aNil)))
  (sCons sNo
  sNil)
  sNil)
  sNil)
noncomputable def V_refuse_wrong_number : FD := mkFn 1 ["number"] D_refuse_wrong_number
noncomputable def D_stretch_holds : DenS :=
  (sCons (sExp (dCall V_refuse_wrong_stretch (aCons (dVar 0) aNil)))
  (sCons (sExp (dCall V_refuse_wrong_number (aCons (dVar 1) aNil)))
  (sCons (sRet (dCall V_span_holds (aCons (dVar 0) (aCons (dVar 1) aNil))))
  sNil)))
noncomputable def V_stretch_holds : FD := mkFn 2 ["stretch", "number"] D_stretch_holds
noncomputable def D_rest_holds : DenS :=
  (sCons (sExp (dCall V_refuse_wrong_rest (aCons (dVar 0) aNil)))
  (sCons (sExp (dCall V_refuse_wrong_number (aCons (dVar 1) aNil)))
  (sCons (sRet (dCall V_residue_holds (aCons (dVar 0) (aCons (dVar 1) aNil))))
  sNil)))
noncomputable def V_rest_holds : FD := mkFn 2 ["rest", "number"] D_rest_holds
noncomputable def D_l_take : DenS :=
  (sCons (sIf (dOp2 oGt (dOp2 oIx (dVar 0) (dC (.int 0))) (dC (.int 0)))
  (sCons (sAsg (gTu 2 (gAnd (gSb (dVar 0) (dC (.int 0))) (gAnd (gNm 2) gEnd))) (dBlt oDivmod (aCons (dOp2 oIx (dVar 0) (dC (.int 0))) (aCons (dVar 1) aNil))))
  (sCons (sRet (dVar 2))
  sNil))
  sNil)
  (sCons (sAsg (gSb (dVar 0) (dC (.int 2))) (dOp2 oAdd (dOp2 oIx (dVar 0) (dC (.int 2))) (dC (.int 1))))
  (sCons (sSet 3 (dOp2 oMod (dBlt oInt (aCons (dOp2 oAdd (dOp2 oIx (dVar 0) (dC (.int 1))) (dOp2 oMul (dC (.int 40093)) (dOp2 oIx (dVar 0) (dC (.int 2))))) aNil)) (dC (.int 2147483629))))
  (sCons (sAsg (gSb (dVar 0) (dC (.int 1))) (dOp2 oMod (dBlt oInt (aCons (dOp2 oAdd (dOp2 oMul (dVar 3) (dOp2 oAdd (dOp2 oMod (dBlt oInt (aCons (dVar 3) aNil)) (dC (.int 4001))) (dC (.int 30029)))) (dOp2 oMul (dC (.int 17)) (dOp2 oIx (dVar 0) (dC (.int 2))))) aNil)) (dC (.int 2147483629))))
  (sCons (sRet (dOp2 oMod (dBlt oInt (aCons (dOp2 oDiv (dOp2 oIx (dVar 0) (dC (.int 1))) (dC (.int 523))) aNil)) (dVar 1)))
  sNil)))))
noncomputable def V_l_take : FD := mkFn 2 ["_law_source_here", "_law_many", "_law_figure", "_law_mixed"] D_l_take
noncomputable def D_l_pick : DenS :=
  (sCons (sRet (dOp2 oIx (dVar 1) (dCall V_l_take (aCons (dVar 0) (aCons (dBlt oLen (aCons (dVar 1) aNil)) aNil)))))
  sNil)
noncomputable def V_l_pick : FD := mkFn 2 ["_law_source_here", "_law_some"] D_l_pick
noncomputable def D_l_great : DenS :=
  (sCons (sSet 1 (dC (.int 0)))
  (sCons (sFor (iRange1 (aCons (dC (.int 5)) aNil)) (gNm 2)
  (sCons (sSet 1 (dOp2 oAdd (dOp2 oMul (dVar 1) (dC (.int 1000003))) (dCall V_l_take (aCons (dVar 0) (aCons (dC (.int 1000003)) aNil)))))
  sNil))
  (sCons (sRet (dVar 1))
  sNil)))
noncomputable def V_l_great : FD := mkFn 1 ["_law_source_here", "_law_got", "_law_turn"] D_l_great
noncomputable def D_l_number : DenS :=
  (sCons (sSet 1 (dCall V_l_take (aCons (dVar 0) (aCons (dC (.int 16)) aNil))))
  (sCons (sIf (dOp2 oLt (dVar 1) (dC (.int 8)))
  (sCons (sRet (dOp2 oSub (dCall V_l_take (aCons (dVar 0) (aCons (dC (.int 13)) aNil))) (dC (.int 6))))
  sNil)
  sNil)
  (sCons (sIf (dOp2 oLt (dVar 1) (dC (.int 13)))
  (sCons (sRet (dOp2 oSub (dCall V_l_take (aCons (dVar 0) (aCons (dC (.int 121)) aNil))) (dC (.int 60))))
  sNil)
  sNil)
  (sCons (sIf (dOp2 oLt (dVar 1) (dC (.int 15)))
  (sCons (sRet (dOp2 oSub (dCall V_l_take (aCons (dVar 0) (aCons (dC (.int 200003)) aNil))) (dC (.int 100001))))
  sNil)
  sNil)
  (sCons (sSet 2 (dCall V_l_great (aCons (dVar 0) aNil)))
  (sCons (sRet (dIf (dOp2 oEq (dCall V_l_take (aCons (dVar 0) (aCons (dC (.int 2)) aNil))) (dC (.int 0))) (dVar 2) (dOp2 oSub (dC (.int 0)) (dVar 2))))
  sNil))))))
noncomputable def V_l_number : FD := mkFn 1 ["_law_source_here", "_law_branch", "_law_got"] D_l_number
noncomputable def D_l_stretch : DenS :=
  (sCons (sSet 1 (dCall V_l_take (aCons (dVar 0) (aCons (dC (.int 14)) aNil))))
  (sCons (sIf (dOp2 oLt (dVar 1) (dC (.int 2)))
  (sCons (sRet (dIf (dOp2 oEq (dVar 1) (dC (.int 0))) (dTup aNil) (dTup (aCons (dC .non) (aCons (dC .non) aNil)))))
  sNil)
  sNil)
  (sCons (sSet 2 (dCall V_l_number (aCons (dVar 0) aNil)))
  (sCons (sIf (dOp2 oLt (dVar 1) (dC (.int 6)))
  (sCons (sRet (dIf (dOp2 oLt (dVar 1) (dC (.int 4))) (dTup (aCons (dC .non) (aCons (dVar 2) aNil))) (dTup (aCons (dVar 2) (aCons (dC .non) aNil)))))
  sNil)
  sNil)
  (sCons (sIf (dOp2 oEq (dVar 1) (dC (.int 6)))
  (sCons (sRet (dTup (aCons (dVar 2) (aCons (dVar 2) aNil))))
  sNil)
  sNil)
  (sCons (sRet (dTup (aCons (dVar 2) (aCons (dOp2 oAdd (dVar 2) (dCall V_l_take (aCons (dVar 0) (aCons (dIf (dOp2 oLt (dVar 1) (dC (.int 12))) (dC (.int 12)) (dC (.int 100003))) aNil)))) aNil))))
  sNil))))))
noncomputable def V_l_stretch : FD := mkFn 1 ["_law_source_here", "_law_branch", "_law_low"] D_l_stretch
noncomputable def D_l_near : DenS :=
  (sCons (sSet 2 (dLc (iSeq (dVar 1)) (bd1 6) (dOp2 oIsnt (dVar 6) (dC .non)) (dVar 6)))
  (sCons (sIf (dOr (dOp2 oEq (dVar 2) (dLst aNil)) (dOp2 oEq (dCall V_l_take (aCons (dVar 0) (aCons (dC (.int 4)) aNil))) (dC (.int 0))))
  (sCons (sRet (dCall V_l_stretch (aCons (dVar 0) aNil)))
  sNil)
  sNil)
  (sCons (sSet 3 (dOp2 oSub (dOp2 oAdd (dCall V_l_pick (aCons (dVar 0) (aCons (dVar 2) aNil))) (dCall V_l_take (aCons (dVar 0) (aCons (dC (.int 5)) aNil)))) (dC (.int 2))))
  (sCons (sSet 4 (dCall V_l_take (aCons (dVar 0) (aCons (dC (.int 7)) aNil))))
  (sCons (sIf (dOp2 oLt (dVar 4) (dC (.int 2)))
  (sCons (sRet (dIf (dOp2 oEq (dVar 4) (dC (.int 0))) (dTup (aCons (dC .non) (aCons (dVar 3) aNil))) (dTup (aCons (dVar 3) (aCons (dC .non) aNil)))))
  sNil)
  sNil)
  (sCons (sSet 5 (dIf (dOp2 oLt (dVar 4) (dC (.int 6))) (dOp2 oSub (dOp2 oAdd (dCall V_l_pick (aCons (dVar 0) (aCons (dVar 2) aNil))) (dCall V_l_take (aCons (dVar 0) (aCons (dC (.int 5)) aNil)))) (dC (.int 2))) (dVar 3)))
  (sCons (sRet (dTup (aCons (dBlt oMin2 (aCons (dVar 3) (aCons (dVar 5) aNil))) (aCons (dBlt oMax2 (aCons (dVar 3) (aCons (dVar 5) aNil))) aNil))))
  sNil)))))))
noncomputable def V_l_near : FD := mkFn 2 ["_law_source_here", "_law_ends", "_law_lots", "_law_low", "_law_branch", "_law_high", "_law_end"] D_l_near
noncomputable def D_l_part : DenS :=
  (sCons (sSet 1 (dCall V_l_pick (aCons (dVar 0) (aCons (dTup (aCons (dC (.int 1)) (aCons (dC (.int 1)) (aCons (dC (.int 2)) (aCons (dC (.int 2)) (aCons (dC (.int 4)) (aCons (dC (.int 4)) (aCons (dC (.int 8)) (aCons (dC (.int 16)) (aCons (dC (.int 32)) (aCons (dC (.int 64)) aNil))))))))))) aNil))))
  (sCons (sSet 2 (dCall V_l_pick (aCons (dVar 0) (aCons (dTup (aCons (dC (.int 1)) (aCons (dC (.int 1)) (aCons (dC (.int 3)) (aCons (dC (.int 9)) aNil))))) aNil))))
  (sCons (sRet (dOp2 oMul (dOp2 oMul (dOp2 oMul (dVar 1) (dVar 2)) (dCall V_l_pick (aCons (dVar 0) (aCons (dTup (aCons (dC (.int 1)) (aCons (dC (.int 1)) (aCons (dC (.int 1)) (aCons (dC (.int 5)) aNil))))) aNil)))) (dCall V_l_pick (aCons (dVar 0) (aCons (dTup (aCons (dC (.int 1)) (aCons (dC (.int 1)) (aCons (dC (.int 1)) (aCons (dC (.int 7)) aNil))))) aNil)))))
  sNil)))
noncomputable def V_l_part : FD := mkFn 1 ["_law_source_here", "_law_twos", "_law_threes"] D_l_part
noncomputable def D_l_rest : DenS :=
  (sCons (sSet 1 (dCall V_l_take (aCons (dVar 0) (aCons (dC (.int 9)) aNil))))
  (sCons (sIf (dOp2 oLt (dVar 1) (dC (.int 3)))
  (sCons (sRet (dIf (dOp2 oEq (dVar 1) (dC (.int 0))) (dTup aNil) (dTup (aCons (dCall V_l_number (aCons (dVar 0) aNil)) (aCons (dC (.int 0)) aNil)))))
  sNil)
  sNil)
  (sCons (sSet 2 (dCall V_l_part (aCons (dVar 0) aNil)))
  (sCons (sRet (dTup (aCons (dCall V_l_take (aCons (dVar 0) (aCons (dVar 2) aNil))) (aCons (dVar 2) aNil))))
  sNil))))
noncomputable def V_l_rest : FD := mkFn 1 ["_law_source_here", "_law_branch", "_law_by"] D_l_rest
noncomputable def D_l_rest_near : DenS :=
  (sCons (sIf (dOr (dOp2 oEq (dVar 1) (dTup aNil)) (dOp2 oEq (dCall V_l_take (aCons (dVar 0) (aCons (dC (.int 4)) aNil))) (dC (.int 0))))
  (sCons (sRet (dCall V_l_rest (aCons (dVar 0) aNil)))
  sNil)
  sNil)
  (sCons (sSet 2 (dOp2 oAdd (dOp2 oAdd (dOp2 oIx (dVar 1) (dC (.int 0))) (dOp2 oMul (dOp2 oIx (dVar 1) (dC (.int 1))) (dOp2 oSub (dCall V_l_take (aCons (dVar 0) (aCons (dC (.int 7)) aNil))) (dC (.int 3))))) (dCall V_l_pick (aCons (dVar 0) (aCons (dTup (aCons (dC (.int 0)) (aCons (dC (.int 0)) (aCons (dC (.int 0)) (aCons (dC (.int 1)) (aCons (dOp2 oDiv (dOp2 oIx (dVar 1) (dC (.int 1))) (dC (.int 2))) aNil)))))) aNil)))))
  (sCons (sIf (dOp2 oEq (dCall V_l_take (aCons (dVar 0) (aCons (dC (.int 4)) aNil))) (dC (.int 0)))
  (sCons (sRet (dTup (aCons (dVar 2) (aCons (dC (.int 0)) aNil))))
  sNil)
  sNil)
  (sCons (sSet 3 (dCall V_l_part (aCons (dVar 0) aNil)))
  (sCons (sRet (dTup (aCons (dOp2 oMod (dBlt oInt (aCons (dVar 2) aNil)) (dVar 3)) (aCons (dVar 3) aNil))))
  sNil)))))
noncomputable def V_l_rest_near : FD := mkFn 2 ["_law_source_here", "_law_one", "_law_spot", "_law_by"] D_l_rest_near
noncomputable def D_l_is_whole : DenS :=
  (sCons (sRet (dAnd (dIsi "int" (dVar 0)) (dNot (dIsi "bool" (dVar 0)))))
  sNil)
noncomputable def V_l_is_whole : FD := mkFn 1 ["_law_thing"] D_l_is_whole
noncomputable def D_l_same (self : FD) : DenS :=
  (sCons (sIf (dIsi "tuple" (dVar 1))
  (sCons (sIf (dOr (dNot (dIsi "tuple" (dVar 0))) (dOp2 oNe (dBlt oLen (aCons (dVar 0) aNil)) (dBlt oLen (aCons (dVar 1) aNil))))
  (sCons (sRet (dC (.bl false)))
  sNil)
  sNil)
  (sCons (sRet (dBlt oAll (aCons (dLc (iZip (aCons (dVar 0) (aCons (dVar 1) aNil))) (bd2 2 3) dT (dCall (self) (aCons (dVar 2) (aCons (dVar 3) aNil)))) aNil)))
  sNil))
  sNil)
  (sCons (sIf (dOr (dOp2 oIs (dVar 1) (dC .non)) (dOp2 oIs (dVar 0) (dC .non)))
  (sCons (sRet (dAnd (dOp2 oIs (dVar 1) (dC .non)) (dOp2 oIs (dVar 0) (dC .non))))
  sNil)
  sNil)
  (sCons (sIf (dOr (dIsi "bool" (dVar 1)) (dIsi "bool" (dVar 0)))
  (sCons (sRet (dAnd (dIsi "bool" (dVar 1)) (dAnd (dIsi "bool" (dVar 0)) (dOp2 oEq (dVar 0) (dVar 1)))))
  sNil)
  sNil)
  (sCons (sRet (dAnd (dCall V_l_is_whole (aCons (dVar 0) aNil)) (dOp2 oEq (dVar 0) (dVar 1))))
  sNil))))
noncomputable def V_l_same : Nat → FD
  | 0 => mkFn 2 ["_law_told", "_law_due", "_law_this", "_law_that"] sNo
  | n + 1 => mkFn 2 ["_law_told", "_law_due", "_law_this", "_law_that"] (D_l_same (V_l_same n))
noncomputable def D_l_has : DenS :=
  (sCons (sRet (dAnd (dOp2 oNe (dVar 0) (dTup aNil)) (dAnd (dOr (dOp2 oIs (dOp2 oIx (dVar 0) (dC (.int 0))) (dC .non)) (dOp2 oLe (dOp2 oIx (dVar 0) (dC (.int 0))) (dVar 1))) (dOr (dOp2 oIs (dOp2 oIx (dVar 0) (dC (.int 1))) (dC .non)) (dOp2 oLe (dVar 1) (dOp2 oIx (dVar 0) (dC (.int 1))))))))
  sNil)
noncomputable def V_l_has : FD := mkFn 2 ["_law_one", "_law_count"] D_l_has
noncomputable def D_l_rest_has : DenS :=
  (sCons (sRet (dAnd (dOp2 oNe (dVar 0) (dTup aNil)) (dIf (dOp2 oEq (dOp2 oIx (dVar 0) (dC (.int 1))) (dC (.int 0))) (dOp2 oEq (dOp2 oIx (dVar 0) (dC (.int 0))) (dVar 1)) (dOp2 oEq (dOp2 oMod (dBlt oInt (aCons (dVar 1) aNil)) (dOp2 oIx (dVar 0) (dC (.int 1)))) (dOp2 oIx (dVar 0) (dC (.int 0)))))))
  sNil)
noncomputable def V_l_rest_has : FD := mkFn 2 ["_law_one", "_law_count"] D_l_rest_has
noncomputable def D_is_lesser_low : DenS :=
  (sCons (sRet (dAnd (dOp2 oIsnt (dVar 1) (dC .non)) (dOr (dOp2 oIs (dVar 0) (dC .non)) (dOp2 oLt (dVar 0) (dVar 1)))))
  sNil)
noncomputable def V_is_lesser_low : FD := mkFn 2 ["one", "other"] D_is_lesser_low
noncomputable def D_is_greater_high : DenS :=
  (sCons (sRet (dAnd (dOp2 oIsnt (dVar 1) (dC .non)) (dOr (dOp2 oIs (dVar 0) (dC .non)) (dOp2 oGt (dVar 0) (dVar 1)))))
  sNil)
noncomputable def V_is_greater_high : FD := mkFn 2 ["one", "other"] D_is_greater_high
noncomputable def D_span_within : DenS :=
  (sCons (sIf (dOr (dOp2 oEq (dVar 0) (dTup aNil)) (dOp2 oEq (dVar 1) (dTup aNil)))
  (sCons (sRet (dOp2 oEq (dVar 0) (dTup aNil)))
  sNil)
  sNil)
  (sCons (sRet (dAnd (dNot (dCall V_is_lesser_low (aCons (dOp2 oIx (dVar 0) (dC (.int 0))) (aCons (dOp2 oIx (dVar 1) (dC (.int 0))) aNil)))) (dNot (dCall V_is_greater_high (aCons (dOp2 oIx (dVar 0) (dC (.int 1))) (aCons (dOp2 oIx (dVar 1) (dC (.int 1))) aNil))))))
  sNil))
noncomputable def V_span_within : FD := mkFn 2 ["span", "other"] D_span_within
noncomputable def D_span_joined : DenS :=
  (sCons (sIf (dOp2 oEq (dVar 0) (dTup aNil))
  (sCons (sRet (dVar 1))
  sNil)
  sNil)
  (sCons (sIf (dOp2 oEq (dVar 1) (dTup aNil))
  (sCons (sRet (dVar 0))
  sNil)
  sNil)
  (sCons (sSet 2 (dIf (dCall V_is_lesser_low (aCons (dOp2 oIx (dVar 0) (dC (.int 0))) (aCons (dOp2 oIx (dVar 1) (dC (.int 0))) aNil))) (dOp2 oIx (dVar 0) (dC (.int 0))) (dOp2 oIx (dVar 1) (dC (.int 0)))))
  (sCons (sSet 3 (dIf (dCall V_is_greater_high (aCons (dOp2 oIx (dVar 0) (dC (.int 1))) (aCons (dOp2 oIx (dVar 1) (dC (.int 1))) aNil))) (dOp2 oIx (dVar 0) (dC (.int 1))) (dOp2 oIx (dVar 1) (dC (.int 1)))))
  (sCons (sRet (dTup (aCons (dVar 2) (aCons (dVar 3) aNil))))
  sNil)))))
noncomputable def V_span_joined : FD := mkFn 2 ["span", "other", "low", "high"] D_span_joined
noncomputable def D_span_from : DenS :=
  (sCons (sIf (dAnd (dOp2 oIsnt (dVar 0) (dC .non)) (dAnd (dOp2 oIsnt (dVar 1) (dC .non)) (dOp2 oGt (dVar 0) (dVar 1))))
  (sCons (sRet (dTup aNil))
  sNil)
  sNil)
  (sCons (sRet (dTup (aCons (dVar 0) (aCons (dVar 1) aNil))))
  sNil))
noncomputable def V_span_from : FD := mkFn 2 ["low", "high"] D_span_from
noncomputable def D_span_met : DenS :=
  (sCons (sIf (dOr (dOp2 oEq (dVar 0) (dTup aNil)) (dOp2 oEq (dVar 1) (dTup aNil)))
  (sCons (sRet (dTup aNil))
  sNil)
  sNil)
  (sCons (sSet 2 (dIf (dCall V_is_lesser_low (aCons (dOp2 oIx (dVar 0) (dC (.int 0))) (aCons (dOp2 oIx (dVar 1) (dC (.int 0))) aNil))) (dOp2 oIx (dVar 1) (dC (.int 0))) (dOp2 oIx (dVar 0) (dC (.int 0)))))
  (sCons (sSet 3 (dIf (dCall V_is_greater_high (aCons (dOp2 oIx (dVar 0) (dC (.int 1))) (aCons (dOp2 oIx (dVar 1) (dC (.int 1))) aNil))) (dOp2 oIx (dVar 1) (dC (.int 1))) (dOp2 oIx (dVar 0) (dC (.int 1)))))
  (sCons (sRet (dCall V_span_from (aCons (dVar 2) (aCons (dVar 3) aNil))))
  sNil))))
noncomputable def V_span_met : FD := mkFn 2 ["span", "other", "low", "high"] D_span_met
noncomputable def D_refuse_wrong_stretches : DenS :=
  (sCons (sExp (dCall V_refuse_wrong_stretch (aCons (dVar 0) aNil)))
  (sCons (sExp (dCall V_refuse_wrong_stretch (aCons (dVar 1) aNil)))
  sNil))
noncomputable def V_refuse_wrong_stretches : FD := mkFn 2 ["stretch", "other"] D_refuse_wrong_stretches
noncomputable def D_stretch_within : DenS :=
  (sCons (sExp (dCall V_refuse_wrong_stretches (aCons (dVar 0) (aCons (dVar 1) aNil))))
  (sCons (sRet (dCall V_span_within (aCons (dVar 0) (aCons (dVar 1) aNil))))
  sNil))
noncomputable def V_stretch_within : FD := mkFn 2 ["stretch", "other"] D_stretch_within
noncomputable def D_stretch_met : DenS :=
  (sCons (sExp (dCall V_refuse_wrong_stretches (aCons (dVar 0) (aCons (dVar 1) aNil))))
  (sCons (sRet (dCall V_span_met (aCons (dVar 0) (aCons (dVar 1) aNil))))
  sNil))
noncomputable def V_stretch_met : FD := mkFn 2 ["stretch", "other"] D_stretch_met
noncomputable def D_l_inside : DenS :=
  (sCons (sIf (dOr (dOp2 oEq (dVar 0) (dTup aNil)) (dOp2 oEq (dVar 1) (dTup aNil)))
  (sCons (sRet (dOp2 oEq (dVar 0) (dTup aNil)))
  sNil)
  sNil)
  (sCons (sSet 2 (dOr (dOp2 oIs (dOp2 oIx (dVar 1) (dC (.int 0))) (dC .non)) (dAnd (dOp2 oIsnt (dOp2 oIx (dVar 0) (dC (.int 0))) (dC .non)) (dOp2 oLe (dOp2 oIx (dVar 1) (dC (.int 0))) (dOp2 oIx (dVar 0) (dC (.int 0)))))))
  (sCons (sRet (dAnd (dVar 2) (dOr (dOp2 oIs (dOp2 oIx (dVar 1) (dC (.int 1))) (dC .non)) (dAnd (dOp2 oIsnt (dOp2 oIx (dVar 0) (dC (.int 1))) (dC .non)) (dOp2 oLe (dOp2 oIx (dVar 0) (dC (.int 1))) (dOp2 oIx (dVar 1) (dC (.int 1))))))))
  sNil)))
noncomputable def V_l_inside : FD := mkFn 2 ["_law_one", "_law_two", "_law_is_low"] D_l_inside
noncomputable def D_l_join : DenS :=
  (sCons (sIf (dOr (dOp2 oEq (dVar 0) (dTup aNil)) (dOp2 oEq (dVar 1) (dTup aNil)))
  (sCons (sRet (dIf (dOp2 oEq (dVar 0) (dTup aNil)) (dVar 1) (dVar 0)))
  sNil)
  sNil)
  (sCons (sSet 2 (dIf (dOr (dOp2 oIs (dOp2 oIx (dVar 0) (dC (.int 0))) (dC .non)) (dOp2 oIs (dOp2 oIx (dVar 1) (dC (.int 0))) (dC .non))) (dC .non) (dBlt oMin2 (aCons (dOp2 oIx (dVar 0) (dC (.int 0))) (aCons (dOp2 oIx (dVar 1) (dC (.int 0))) aNil)))))
  (sCons (sRet (dTup (aCons (dVar 2) (aCons (dIf (dOr (dOp2 oIs (dOp2 oIx (dVar 0) (dC (.int 1))) (dC .non)) (dOp2 oIs (dOp2 oIx (dVar 1) (dC (.int 1))) (dC .non))) (dC .non) (dBlt oMax2 (aCons (dOp2 oIx (dVar 0) (dC (.int 1))) (aCons (dOp2 oIx (dVar 1) (dC (.int 1))) aNil)))) aNil))))
  sNil)))
noncomputable def V_l_join : FD := mkFn 2 ["_law_one", "_law_two", "_law_low"] D_l_join
noncomputable def D_l_meet : DenS :=
  (sCons (sIf (dOr (dOp2 oEq (dVar 0) (dTup aNil)) (dOp2 oEq (dVar 1) (dTup aNil)))
  (sCons (sRet (dTup aNil))
  sNil)
  sNil)
  (sCons (sSet 2 (dLc (iSeq (dTup (aCons (dOp2 oIx (dVar 0) (dC (.int 0))) (aCons (dOp2 oIx (dVar 1) (dC (.int 0))) aNil)))) (bd1 4) (dOp2 oIsnt (dVar 4) (dC .non)) (dVar 4)))
  (sCons (sSet 3 (dLc (iSeq (dTup (aCons (dOp2 oIx (dVar 0) (dC (.int 1))) (aCons (dOp2 oIx (dVar 1) (dC (.int 1))) aNil)))) (bd1 4) (dOp2 oIsnt (dVar 4) (dC .non)) (dVar 4)))
  (sCons (sIf (dAnd (dOp2 oNe (dVar 2) (dLst aNil)) (dAnd (dOp2 oNe (dVar 3) (dLst aNil)) (dOp2 oGt (dBlt oMax1 (aCons (dVar 2) aNil)) (dBlt oMin1 (aCons (dVar 3) aNil)))))
  (sCons (sRet (dTup aNil))
  sNil)
  sNil)
  (sCons (sRet (dTup (aCons (dIf (dOp2 oNe (dVar 2) (dLst aNil)) (dBlt oMax1 (aCons (dVar 2) aNil)) (dC .non)) (aCons (dIf (dOp2 oNe (dVar 3) (dLst aNil)) (dBlt oMin1 (aCons (dVar 3) aNil)) (dC .non)) aNil))))
  sNil)))))
noncomputable def V_l_meet : FD := mkFn 2 ["_law_one", "_law_two", "_law_lows", "_law_highs", "_law_end"] D_l_meet
noncomputable def D_opposite : DenS :=
  (sCons (sRet (dIf (dOp2 oIs (dVar 0) (dC .non)) (dC .non) (dNeg (dVar 0))))
  sNil)
noncomputable def V_opposite : FD := mkFn 1 ["end"] D_opposite
noncomputable def D_span_back : DenS :=
  (sCons (sRet (dIf (dOp2 oEq (dVar 0) (dTup aNil)) (dTup aNil) (dTup (aCons (dCall V_opposite (aCons (dOp2 oIx (dVar 0) (dC (.int 1))) aNil)) (aCons (dCall V_opposite (aCons (dOp2 oIx (dVar 0) (dC (.int 0))) aNil)) aNil)))))
  sNil)
noncomputable def V_span_back : FD := mkFn 1 ["span"] D_span_back
noncomputable def D_end_sum : DenS :=
  (sCons (sRet (dIf (dOr (dOp2 oIs (dVar 0) (dC .non)) (dOp2 oIs (dVar 1) (dC .non))) (dC .non) (dOp2 oAdd (dVar 0) (dVar 1))))
  sNil)
noncomputable def V_end_sum : FD := mkFn 2 ["end", "by"] D_end_sum
noncomputable def D_ends_of : DenS :=
  (sCons (sAsg (gTu 2 (gAnd (gNm 1) (gAnd (gNm 2) gEnd))) (dVar 0))
  (sCons (sRet (dLst (aCons (dIf (dOp2 oIs (dVar 1) (dC .non)) (dTup (aCons (dNeg (dC (.int 1))) (aCons (dC (.int 0)) aNil))) (dTup (aCons (dC (.int 0)) (aCons (dVar 1) aNil)))) (aCons (dIf (dOp2 oIs (dVar 2) (dC .non)) (dTup (aCons (dC (.int 1)) (aCons (dC (.int 0)) aNil))) (dTup (aCons (dC (.int 0)) (aCons (dVar 2) aNil)))) aNil))))
  sNil))
noncomputable def V_ends_of : FD := mkFn 1 ["span", "low", "high"] D_ends_of
noncomputable def D_l_turn : DenS :=
  (sCons (sIf (dOp2 oEq (dVar 0) (dTup aNil))
  (sCons (sRet (dTup aNil))
  sNil)
  sNil)
  (sCons (sRet (dTup (aCons (dIf (dOp2 oIs (dOp2 oIx (dVar 0) (dC (.int 1))) (dC .non)) (dC .non) (dOp2 oSub (dC (.int 0)) (dOp2 oIx (dVar 0) (dC (.int 1))))) (aCons (dIf (dOp2 oIs (dOp2 oIx (dVar 0) (dC (.int 0))) (dC .non)) (dC .non) (dOp2 oSub (dC (.int 0)) (dOp2 oIx (dVar 0) (dC (.int 0))))) aNil))))
  sNil))
noncomputable def V_l_turn : FD := mkFn 1 ["_law_one"] D_l_turn
noncomputable def D_l_all : DenS :=
  (sCons (sIf (dOr (dOp2 oEq (dVar 0) (dTup aNil)) (dOr (dOp2 oIs (dOp2 oIx (dVar 0) (dC (.int 0))) (dC .non)) (dOr (dOp2 oIs (dOp2 oIx (dVar 0) (dC (.int 1))) (dC .non)) (dOp2 oGt (dOp2 oSub (dOp2 oIx (dVar 0) (dC (.int 1))) (dOp2 oIx (dVar 0) (dC (.int 0)))) (dC (.int 11))))))
  (sCons (sRet (dLst aNil))
  sNil)
  sNil)
  (sCons (sRet (dRgA (dOp2 oIx (dVar 0) (dC (.int 0))) (dOp2 oAdd (dOp2 oIx (dVar 0) (dC (.int 1))) (dC (.int 1)))))
  sNil))
noncomputable def V_l_all : FD := mkFn 1 ["_law_one"] D_l_all
noncomputable def D_refuse_wrong_width : DenS :=
  (sCons (sIf (dOr (dNot (dCall V_is_whole (aCons (dVar 0) aNil))) (dNot (dChain oLe oLe (dC (.int 1)) (dVar 0) (dC (.int 16)))))
  (sCons sNo
  sNil)
  sNil)
  sNil)
noncomputable def V_refuse_wrong_width : FD := mkFn 1 ["width"] D_refuse_wrong_width
noncomputable def D_refuse_wrong_guard : DenS :=
  (sCons (sIf (dOr (dNot (dIsi "str" (dVar 0))) (dOp2 oNin (dVar 0) (dC (.tup [.str "<", .str "<=", .str "==", .str "!="]))))
  (sCons sNo
  sNil)
  sNil)
  sNil)
noncomputable def V_refuse_wrong_guard : FD := mkFn 1 ["guard"] D_refuse_wrong_guard
noncomputable def D_residue_within : DenS :=
  (sCons (sIf (dOr (dOp2 oEq (dVar 0) (dTup aNil)) (dOp2 oEq (dVar 1) (dTup aNil)))
  (sCons (sRet (dOp2 oEq (dVar 0) (dTup aNil)))
  sNil)
  sNil)
  (sCons (sIf (dOp2 oEq (dOp2 oIx (dVar 1) (dC (.int 1))) (dC (.int 0)))
  (sCons (sRet (dOp2 oEq (dVar 0) (dVar 1)))
  sNil)
  sNil)
  (sCons (sRet (dAnd (dOp2 oEq (dOp2 oMod (dOp2 oIx (dVar 0) (dC (.int 1))) (dOp2 oIx (dVar 1) (dC (.int 1)))) (dC (.int 0))) (dCall V_residue_holds (aCons (dVar 1) (aCons (dOp2 oIx (dVar 0) (dC (.int 0))) aNil)))))
  sNil)))
noncomputable def V_residue_within : FD := mkFn 2 ["residue", "other"] D_residue_within
noncomputable def D_residue_joined : DenS :=
  (sCons (sIf (dOp2 oEq (dVar 0) (dTup aNil))
  (sCons (sRet (dVar 1))
  sNil)
  sNil)
  (sCons (sIf (dOr (dOp2 oEq (dVar 1) (dTup aNil)) (dOp2 oEq (dVar 0) (dVar 1)))
  (sCons (sRet (dVar 0))
  sNil)
  sNil)
  (sCons (sRet (dCall V_residue_of (aCons (dOp2 oIx (dVar 0) (dC (.int 0))) (aCons (dBlt oGcd (aCons (dOp2 oIx (dVar 0) (dC (.int 1))) (aCons (dOp2 oIx (dVar 1) (dC (.int 1))) (aCons (dOp2 oSub (dOp2 oIx (dVar 0) (dC (.int 0))) (dOp2 oIx (dVar 1) (dC (.int 0)))) (aCons (dC (.int 20160)) aNil))))) aNil))))
  sNil)))
noncomputable def V_residue_joined : FD := mkFn 2 ["residue", "other"] D_residue_joined
noncomputable def D_inverse : DenS :=
  (sCons (sPar2 2 3 (aCons (dVar 0) (aCons (dC (.int 1)) aNil)))
  (sCons (sPar2 4 5 (aCons (dVar 1) (aCons (dC (.int 0)) aNil)))
  (sCons (whL (dOp2 oNe (dVar 4) (dC (.int 0)))
  (sCons (sSet 6 (dOp2 oDiv (dVar 2) (dVar 4)))
  (sCons (sPar2 2 4 (aCons (dVar 4) (aCons (dOp2 oSub (dVar 2) (dOp2 oMul (dVar 6) (dVar 4))) aNil)))
  (sCons (sPar2 3 5 (aCons (dVar 5) (aCons (dOp2 oSub (dVar 3) (dOp2 oMul (dVar 6) (dVar 5))) aNil)))
  sNil))) Wn)
  (sCons (sRet (dVar 3))
  sNil))))
noncomputable def V_inverse : FD := mkFn 2 ["number", "divisor", "begun", "factor", "left", "factor_left", "times"] D_inverse
noncomputable def D_residue_met : DenS :=
  (sCons (sIf (dOr (dOp2 oEq (dVar 0) (dTup aNil)) (dOp2 oEq (dVar 1) (dTup aNil)))
  (sCons (sRet (dTup aNil))
  sNil)
  sNil)
  (sCons (sIf (dOr (dOp2 oEq (dOp2 oIx (dVar 0) (dC (.int 1))) (dC (.int 0))) (dOp2 oEq (dOp2 oIx (dVar 1) (dC (.int 1))) (dC (.int 0))))
  (sCons (sAsg (gTu 2 (gAnd (gNm 2) (gAnd (gNm 3) gEnd))) (dIf (dOp2 oEq (dOp2 oIx (dVar 0) (dC (.int 1))) (dC (.int 0))) (dTup (aCons (dVar 0) (aCons (dVar 1) aNil))) (dTup (aCons (dVar 1) (aCons (dVar 0) aNil)))))
  (sCons (sRet (dIf (dCall V_residue_holds (aCons (dVar 3) (aCons (dOp2 oIx (dVar 2) (dC (.int 0))) aNil))) (dVar 2) (dTup aNil)))
  sNil))
  sNil)
  (sCons (sSet 4 (dBlt oGcd (aCons (dOp2 oIx (dVar 0) (dC (.int 1))) (aCons (dOp2 oIx (dVar 1) (dC (.int 1))) aNil))))
  (sCons (sSet 5 (dOp2 oSub (dOp2 oIx (dVar 1) (dC (.int 0))) (dOp2 oIx (dVar 0) (dC (.int 0)))))
  (sCons (sIf (dOp2 oNe (dOp2 oMod (dVar 5) (dVar 4)) (dC (.int 0)))
  (sCons (sRet (dTup aNil))
  sNil)
  sNil)
  (sCons (sSet 6 (dOp2 oMul (dOp2 oDiv (dVar 5) (dVar 4)) (dCall V_inverse (aCons (dOp2 oDiv (dOp2 oIx (dVar 0) (dC (.int 1))) (dVar 4)) (aCons (dOp2 oDiv (dOp2 oIx (dVar 1) (dC (.int 1))) (dVar 4)) aNil)))))
  (sCons (sRet (dCall V_residue_of (aCons (dOp2 oAdd (dOp2 oIx (dVar 0) (dC (.int 0))) (dOp2 oMul (dOp2 oIx (dVar 0) (dC (.int 1))) (dVar 6))) (aCons (dBlt oLcm (aCons (dOp2 oIx (dVar 0) (dC (.int 1))) (aCons (dOp2 oIx (dVar 1) (dC (.int 1))) aNil))) aNil))))
  sNil)))))))
noncomputable def V_residue_met : FD := mkFn 2 ["residue", "other", "alone", "beside", "common", "apart", "times"] D_residue_met
noncomputable def D_refuse_wrong_rests : DenS :=
  (sCons (sExp (dCall V_refuse_wrong_rest (aCons (dVar 0) aNil)))
  (sCons (sExp (dCall V_refuse_wrong_rest (aCons (dVar 1) aNil)))
  sNil))
noncomputable def V_refuse_wrong_rests : FD := mkFn 2 ["rest", "other"] D_refuse_wrong_rests
noncomputable def D_rest_within : DenS :=
  (sCons (sExp (dCall V_refuse_wrong_rests (aCons (dVar 0) (aCons (dVar 1) aNil))))
  (sCons (sRet (dCall V_residue_within (aCons (dVar 0) (aCons (dVar 1) aNil))))
  sNil))
noncomputable def V_rest_within : FD := mkFn 2 ["rest", "other"] D_rest_within
noncomputable def D_rest_joined : DenS :=
  (sCons (sExp (dCall V_refuse_wrong_rests (aCons (dVar 0) (aCons (dVar 1) aNil))))
  (sCons (sRet (dCall V_residue_joined (aCons (dVar 0) (aCons (dVar 1) aNil))))
  sNil))
noncomputable def V_rest_joined : FD := mkFn 2 ["rest", "other"] D_rest_joined
noncomputable def D_rest_met : DenS :=
  (sCons (sExp (dCall V_refuse_wrong_rests (aCons (dVar 0) (aCons (dVar 1) aNil))))
  (sCons (sRet (dCall V_residue_met (aCons (dVar 0) (aCons (dVar 1) aNil))))
  sNil))
noncomputable def V_rest_met : FD := mkFn 2 ["rest", "other"] D_rest_met
noncomputable def D_l_common : DenS :=
  (sCons (sPar2 0 1 (aCons (dBlt oAbs (aCons (dVar 0) aNil)) (aCons (dBlt oAbs (aCons (dVar 1) aNil)) aNil)))
  (sCons (whL (dOp2 oNe (dVar 1) (dC (.int 0)))
  (sCons (sPar2 0 1 (aCons (dVar 1) (aCons (dOp2 oMod (dBlt oInt (aCons (dVar 0) aNil)) (dVar 1)) aNil)))
  sNil) Wn)
  (sCons (sRet (dVar 0))
  sNil)))
noncomputable def V_l_common : FD := mkFn 2 ["_law_far", "_law_near"] D_l_common
noncomputable def D_l_least : DenS :=
  (sCons (sIf (dOp2 oEq (dVar 0) (dLst aNil))
  (sCons (sRet (dTup aNil))
  sNil)
  sNil)
  (sCons (sSet 1 (dC (.int 0)))
  (sCons (sFor (iSeq (dVar 0)) (gNm 2)
  (sCons (sSet 1 (dCall V_l_common (aCons (dVar 1) (aCons (dOp2 oSub (dVar 2) (dOp2 oIx (dVar 0) (dC (.int 0)))) aNil))))
  sNil))
  (sCons (sIf (dOp2 oEq (dVar 1) (dC (.int 0)))
  (sCons (sRet (dTup (aCons (dOp2 oIx (dVar 0) (dC (.int 0))) (aCons (dC (.int 0)) aNil))))
  sNil)
  sNil)
  (sCons (sSet 1 (dCall V_l_common (aCons (dVar 1) (aCons (dC (.int 20160)) aNil))))
  (sCons (sRet (dTup (aCons (dOp2 oMod (dBlt oInt (aCons (dOp2 oIx (dVar 0) (dC (.int 0))) aNil)) (dVar 1)) (aCons (dVar 1) aNil))))
  sNil))))))
noncomputable def V_l_least : FD := mkFn 1 ["_law_lots", "_law_by", "_law_count"] D_l_least
noncomputable def D_l_two_of : DenS :=
  (sCons (sRet (dIf (dOp2 oEq (dVar 0) (dTup aNil)) (dLst aNil) (dLst (aCons (dOp2 oIx (dVar 0) (dC (.int 0))) (aCons (dOp2 oAdd (dOp2 oIx (dVar 0) (dC (.int 0))) (dOp2 oIx (dVar 0) (dC (.int 1)))) aNil)))))
  sNil)
noncomputable def V_l_two_of : FD := mkFn 1 ["_law_one"] D_l_two_of
noncomputable def D_l_rest_inside : DenS :=
  (sCons (sRet (dBlt oAll (aCons (dLc (iSeq (dCall V_l_two_of (aCons (dVar 0) aNil))) (bd1 2) dT (dCall V_l_rest_has (aCons (dVar 1) (aCons (dVar 2) aNil)))) aNil)))
  sNil)
noncomputable def V_l_rest_inside : FD := mkFn 2 ["_law_one", "_law_two", "_law_count"] D_l_rest_inside
noncomputable def D_l_rest_meet : DenS :=
  (sCons (sIf (dOr (dOp2 oEq (dVar 0) (dTup aNil)) (dOp2 oEq (dVar 1) (dTup aNil)))
  (sCons (sRet (dTup aNil))
  sNil)
  sNil)
  (sCons (sAsg (gTu 2 (gAnd (gNm 2) (gAnd (gNm 3) gEnd))) (dIf (dOp2 oLe (dOp2 oIx (dVar 0) (dC (.int 1))) (dOp2 oIx (dVar 1) (dC (.int 1)))) (dTup (aCons (dVar 0) (aCons (dVar 1) aNil))) (dTup (aCons (dVar 1) (aCons (dVar 0) aNil)))))
  (sCons (sIf (dOp2 oEq (dOp2 oIx (dVar 2) (dC (.int 1))) (dC (.int 0)))
  (sCons (sRet (dIf (dCall V_l_rest_has (aCons (dVar 3) (aCons (dOp2 oIx (dVar 2) (dC (.int 0))) aNil))) (dVar 2) (dTup aNil)))
  sNil)
  sNil)
  (sCons (sSet 4 (dOp2 oDiv (dOp2 oIx (dVar 2) (dC (.int 1))) (dCall V_l_common (aCons (dOp2 oIx (dVar 2) (dC (.int 1))) (aCons (dOp2 oIx (dVar 3) (dC (.int 1))) aNil)))))
  (sCons (sSet 5 (dLc (iRange3 (aCons (dOp2 oIx (dVar 3) (dC (.int 0))) (aCons (dOp2 oAdd (dOp2 oIx (dVar 3) (dC (.int 0))) (dOp2 oMul (dOp2 oIx (dVar 3) (dC (.int 1))) (dVar 4))) (aCons (dOp2 oIx (dVar 3) (dC (.int 1))) aNil)))) (bd1 6) (dCall V_l_rest_has (aCons (dVar 2) (aCons (dVar 6) aNil))) (dVar 6)))
  (sCons (sRet (dIf (dOp2 oNe (dVar 5) (dLst aNil)) (dTup (aCons (dOp2 oIx (dVar 5) (dC (.int 0))) (aCons (dOp2 oMul (dOp2 oIx (dVar 3) (dC (.int 1))) (dVar 4)) aNil))) (dTup aNil)))
  sNil))))))
noncomputable def V_l_rest_meet : FD := mkFn 2 ["_law_one", "_law_two", "_law_few", "_law_many", "_law_turns", "_law_lots", "_law_count"] D_l_rest_meet
noncomputable def D_l_rest_some : DenS :=
  (sCons (sRet (dOp2 oAdd (dOp2 oIx (dVar 1) (dC (.int 0))) (dOp2 oMul (dOp2 oIx (dVar 1) (dC (.int 1))) (dCall V_l_number (aCons (dVar 0) aNil)))))
  sNil)
noncomputable def V_l_rest_some : FD := mkFn 2 ["_law_source_here", "_law_one"] D_l_rest_some
end Lw

namespace Lw
open PySem PySem.Spec L2 Eg
noncomputable def D_is_stretch : DenS :=
  (sCons (sRet (dCall V_is_span (aCons (dVar 0) aNil)))
  sNil)
noncomputable def V_is_stretch : FD := mkFn 1 ["value"] D_is_stretch
noncomputable def D_is_rest : DenS :=
  (sCons (sRet (dCall V_is_residue (aCons (dVar 0) aNil)))
  sNil)
noncomputable def V_is_rest : FD := mkFn 1 ["value"] D_is_rest
noncomputable def D_l_source : DenS :=
  (sCons (sSet 2 (dOp2 oAdd (dC (.int 610231)) (dOp2 oMul (dC (.int 9176)) (dVar 1))))
  (sCons (sFor (iSeq (dSl (dVar 0) none (some (dC (.int 10))))) (gNm 3)
  (sCons (sSet 2 (dOp2 oMod (dBlt oInt (aCons (dOp2 oAdd (dOp2 oAdd (dOp2 oMul (dVar 2) (dC (.int 30011))) (dOp2 oMod (dBlt oInt (aCons (dVar 3) aNil)) (dC (.int 1000000007)))) (dC (.int 3))) aNil)) (dC (.int 2147483629))))
  sNil))
  (sCons (sSet 4 (dIf (dOp2 oLt (dVar 1) (dBlt oLen (aCons (dVar 0) aNil))) (dBlt oInt (aCons (dOp2 oIx (dVar 0) (dVar 1)) aNil)) (dC (.int 0))))
  (sCons (sSet 2 (dOp2 oMod (dBlt oInt (aCons (dOp2 oAdd (dOp2 oAdd (dOp2 oMul (dVar 2) (dC (.int 59))) (dOp2 oMul (dOp2 oMod (dBlt oInt (aCons (dVar 4) aNil)) (dC (.int 1000000007))) (dC (.int 15013)))) (dC (.int 11))) aNil)) (dC (.int 2147483629))))
  (sCons (sRet (dLstM (aCons (dIf (dOr (dOp2 oLt (dVar 4) (dC (.int 0))) (dOp2 oGe (dVar 4) (dOp2 oPow (dC (.int 10)) (dC (.int 15))))) (dBlt oAbs (aCons (dVar 4) aNil)) (dC (.int 0))) (aCons (dVar 2) (aCons (dC (.int 0)) aNil)))))
  sNil)))))
noncomputable def V_l_source : FD := mkFn 2 ["_law_script", "_law_turn", "_law_mixed", "_law_cell", "_law_own"] D_l_source
noncomputable def D_l_beside : DenS :=
  (sCons (sSet 1 (dLst (aCons (dC (.int 0)) aNil)))
  (sCons (sFor (iSeq (dVar 0)) (gNm 2)
  (sCons (sIf (dOp2 oIsnt (dVar 2) (dC .non))
  (sCons (sSet 1 (dOp2 oAdd (dVar 1) (dLst (aCons (dOp2 oSub (dVar 2) (dC (.int 1))) (aCons (dVar 2) (aCons (dOp2 oAdd (dVar 2) (dC (.int 1))) aNil))))))
  sNil)
  sNil)
  sNil))
  (sCons (sRet (dVar 1))
  sNil)))
noncomputable def V_l_beside : FD := mkFn 1 ["_law_ends", "_law_lots", "_law_end"] D_l_beside
noncomputable def D_l_is_stretch : DenS :=
  (sCons (sIf (dOr (dNot (dIsi "tuple" (dVar 0))) (dOp2 oNe (dBlt oLen (aCons (dVar 0) aNil)) (dC (.int 2))))
  (sCons (sRet (dAnd (dIsi "tuple" (dVar 0)) (dOp2 oEq (dBlt oLen (aCons (dVar 0) aNil)) (dC (.int 0)))))
  sNil)
  sNil)
  (sCons (sIf (dNot (dBlt oAll (aCons (dLc (iSeq (dVar 0)) (bd1 1) dT (dOr (dOp2 oIs (dVar 1) (dC .non)) (dCall V_l_is_whole (aCons (dVar 1) aNil)))) aNil)))
  (sCons (sRet (dC (.bl false)))
  sNil)
  sNil)
  (sCons (sRet (dOr (dOp2 oIs (dOp2 oIx (dVar 0) (dC (.int 0))) (dC .non)) (dOr (dOp2 oIs (dOp2 oIx (dVar 0) (dC (.int 1))) (dC .non)) (dOp2 oLe (dOp2 oIx (dVar 0) (dC (.int 0))) (dOp2 oIx (dVar 0) (dC (.int 1)))))))
  sNil)))
noncomputable def V_l_is_stretch : FD := mkFn 1 ["_law_thing", "_law_end"] D_l_is_stretch
noncomputable def D_l_is_rest : DenS :=
  (sCons (sIf (dOr (dNot (dIsi "tuple" (dVar 0))) (dOp2 oNe (dBlt oLen (aCons (dVar 0) aNil)) (dC (.int 2))))
  (sCons (sRet (dAnd (dIsi "tuple" (dVar 0)) (dOp2 oEq (dBlt oLen (aCons (dVar 0) aNil)) (dC (.int 0)))))
  sNil)
  sNil)
  (sCons (sIf (dNot (dBlt oAll (aCons (dLc (iSeq (dVar 0)) (bd1 1) dT (dCall V_l_is_whole (aCons (dVar 1) aNil))) aNil)))
  (sCons (sRet (dC (.bl false)))
  sNil)
  sNil)
  (sCons (sIf (dOp2 oLt (dOp2 oIx (dVar 0) (dC (.int 1))) (dC (.int 1)))
  (sCons (sRet (dOp2 oEq (dOp2 oIx (dVar 0) (dC (.int 1))) (dC (.int 0))))
  sNil)
  sNil)
  (sCons (sRet (dAnd (dOp2 oEq (dOp2 oMod (dC (.int 20160)) (dOp2 oIx (dVar 0) (dC (.int 1)))) (dC (.int 0))) (dChain oLe oLt (dC (.int 0)) (dOp2 oIx (dVar 0) (dC (.int 0))) (dOp2 oIx (dVar 0) (dC (.int 1))))))
  sNil))))
noncomputable def V_l_is_rest : FD := mkFn 1 ["_law_thing", "_law_part_here"] D_l_is_rest
noncomputable def D_l_odd : DenS :=
  (sCons (sRet (dCall V_l_pick (aCons (dVar 0) (aCons (dTup (aCons (dC .non) (aCons (dC (.bl true)) (aCons (dC (.bl false)) (aCons (dC (.int 0)) (aCons (dC (.int 1)) (aCons (dNeg (dC (.int 3))) (aCons (dOp2 oPow (dC (.int 10)) (dC (.int 30))) (aCons (dC (.str "")) (aCons (dC (.str "<")) (aCons (dC (.str "01")) (aCons (dTup aNil) (aCons (dTup (aCons (dC (.int 0)) aNil)) (aCons (dTup (aCons (dC (.int 0)) (aCons (dC (.int 1)) aNil))) (aCons (dTup (aCons (dC (.int 1)) (aCons (dC (.int 0)) aNil))) (aCons (dTup (aCons (dC (.int 4)) (aCons (dC (.int 3)) aNil))) (aCons (dTup (aCons (dC (.int 3)) (aCons (dC (.int 4)) aNil))) (aCons (dTup (aCons (dC .non) (aCons (dC .non) aNil))) (aCons (dTup (aCons (dC .non) (aCons (dC (.int 2)) aNil))) (aCons (dTup (aCons (dC (.int 2)) (aCons (dC .non) aNil))) (aCons (dTup (aCons (dC (.bl true)) (aCons (dC (.int 2)) aNil))) (aCons (dTup (aCons (dC (.int 0)) (aCons (dC (.bl true)) aNil))) (aCons (dTup (aCons (dC (.bl false)) (aCons (dC (.int 0)) aNil))) (aCons (dTup (aCons (dC (.int 1)) (aCons (dC (.int 2)) (aCons (dC (.int 3)) aNil)))) (aCons (dTup (aCons (dC (.int 0)) (aCons (dC (.int 20160)) aNil))) (aCons (dTup (aCons (dC (.int 20160)) (aCons (dC (.int 20160)) aNil))) (aCons (dTup (aCons (dC (.int 0)) (aCons (dC (.int 11)) aNil))) (aCons (dTup (aCons (dC (.int 7)) (aCons (dC (.int 7)) aNil))) (aCons (dTup (aCons (dNeg (dC (.int 1))) (aCons (dC (.int 4)) aNil))) (aCons (dTup (aCons (dC (.int 0)) (aCons (dNeg (dC (.int 4))) aNil))) (aCons (dTup (aCons (dC .non) (aCons (dC (.str "2")) aNil))) (aCons (dTup (aCons (dC (.str "0")) (aCons (dC (.int 2)) aNil))) (aCons (dTup (aCons (dTup aNil) (aCons (dTup aNil) aNil))) (aCons (dTup (aCons (dC (.int 0)) (aCons (dTup aNil) aNil))) (aCons (dLst aNil) (aCons (dLst (aCons (dC (.int 0)) (aCons (dC (.int 1)) aNil))) (aCons (dLst (aCons (dC .non) (aCons (dC .non) aNil))) (aCons dDic0 (aCons (dTup (aCons (dTup (aCons (dC (.int 0)) (aCons (dC (.int 1)) aNil))) aNil)) aNil))))))))))))))))))))))))))))))))))))))) aNil))))
  sNil)
noncomputable def V_l_odd : FD := mkFn 1 ["_law_source_here"] D_l_odd
noncomputable def D_l_bent (self : FD) : DenS :=
  (sCons (sIf (dAnd (dIsi "tuple" (dVar 1)) (dAnd (dOp2 oNeB (dVar 1) (dTup aNil)) (dOp2 oGt (dCall V_l_take (aCons (dVar 0) (aCons (dC (.int 4)) aNil))) (dC (.int 0)))))
  (sCons (sSet 2 (dCall V_l_take (aCons (dVar 0) (aCons (dBlt oLen (aCons (dVar 1) aNil)) aNil))))
  (sCons (sRet (dOp2 oAdd (dOp2 oAdd (dSl (dVar 1) none (some (dVar 2))) (dTup (aCons (dCall (self) (aCons (dVar 0) (aCons (dOp2 oIx (dVar 1) (dVar 2)) aNil))) aNil))) (dSl (dVar 1) (some (dOp2 oAddB (dVar 2) (dC (.int 1)))) none)))
  sNil))
  sNil)
  (sCons (sSet 3 (dCall V_l_take (aCons (dVar 0) (aCons (dC (.int 9)) aNil))))
  (sCons (sIf (dAnd (dIsi "tuple" (dVar 1)) (dOp2 oLt (dVar 3) (dC (.int 6))))
  (sCons (sRet (dOp2 oIx (dTup (aCons (dBlt oList (aCons (dVar 1) aNil)) (aCons (dSl (dVar 1) none (some (dNeg (dC (.int 1))))) (aCons (dOp2 oAdd (dVar 1) (dSl (dVar 1) (some (dNeg (dC (.int 1)))) none)) (aCons (dRevA (dVar 1)) (aCons (dSl (dVar 1) (some (dC (.int 1))) none) (aCons (dOp2 oAdd (dSl (dVar 1) none (some (dC (.int 1)))) (dVar 1)) aNil))))))) (dVar 3)))
  sNil)
  sNil)
  (sCons (sIf (dAnd (dIsi "int" (dVar 1)) (dOp2 oLt (dVar 3) (dC (.int 6))))
  (sCons (sRet (dOp2 oIx (dTup (aCons (dOp2 oAddB (dVar 1) (dC (.int 1))) (aCons (dOp2 oSubB (dC (.int 0)) (dVar 1)) (aCons (dOp2 oMulB (dC (.int 2)) (dVar 1)) (aCons (dOp2 oSubB (dVar 1) (dC (.int 2))) (aCons (dOp2 oEq (dVar 1) (dC (.int 1))) (aCons (dBlt oStrV (aCons (dVar 1) aNil)) aNil))))))) (dVar 3)))
  sNil)
  sNil)
  (sCons (sRet (dCall V_l_odd (aCons (dVar 0) aNil)))
  sNil)))))
noncomputable def V_l_bent : Nat → FD
  | 0 => mkFn 2 ["_law_source_here", "_law_thing", "_law_spot", "_law_branch"] sNo
  | n + 1 => mkFn 2 ["_law_source_here", "_law_thing", "_law_spot", "_law_branch"] (D_l_bent (V_l_bent n))
noncomputable def D_l_value : DenS :=
  (sCons (sSet 1 (dCall V_l_take (aCons (dVar 0) (aCons (dC (.int 7)) aNil))))
  (sCons (sIf (dOp2 oEq (dVar 1) (dC (.int 0)))
  (sCons (sRet (dCall V_l_odd (aCons (dVar 0) aNil)))
  sNil)
  sNil)
  (sCons (sSet 2 (dIf (dOp2 oLt (dVar 1) (dC (.int 4))) (dCall V_l_stretch (aCons (dVar 0) aNil)) (dCall V_l_rest (aCons (dVar 0) aNil))))
  (sCons (sRet (dIf (dOr (dOp2 oEq (dVar 1) (dC (.int 1))) (dOp2 oEq (dVar 1) (dC (.int 4)))) (dVar 2) (dCall (V_l_bent 8) (aCons (dVar 0) (aCons (dVar 2) aNil)))))
  sNil))))
noncomputable def V_l_value : FD := mkFn 1 ["_law_source_here", "_law_branch", "_law_thing"] D_l_value
noncomputable def D_l_values_right : DenS :=
  (sCons (sFor (iRange1 (aCons (dC (.int 4)) aNil)) (gNm 1)
  (sCons (sSet 2 (dCall V_l_value (aCons (dVar 0) aNil)))
  (sCons (sSet 3 (dTup (aCons (dCall V_l_is_stretch (aCons (dVar 2) aNil)) (aCons (dCall V_l_is_stretch (aCons (dVar 2) aNil)) (aCons (dCall V_l_is_rest (aCons (dVar 2) aNil)) (aCons (dCall V_l_is_rest (aCons (dVar 2) aNil)) aNil))))))
  (sCons (sIf (dNot (dCall (V_l_same 8) (aCons (dTup (aCons (dCall V_is_stretch (aCons (dVar 2) aNil)) (aCons (dCallW 1 [0] V_is_stretch (aCons (dVar 2) aNil)) (aCons (dCall V_is_rest (aCons (dVar 2) aNil)) (aCons (dCallW 1 [0] V_is_rest (aCons (dVar 2) aNil)) aNil))))) (aCons (dVar 3) aNil))))
  (sCons (sRet (dC (.bl false)))
  sNil)
  sNil)
  sNil))))
  (sCons (sRet (dC (.bl true)))
  sNil))
noncomputable def V_l_values_right : FD := mkFn 1 ["_law_source_here", "_law_turn", "_law_thing", "_law_due"] D_l_values_right
noncomputable def D_l_stretches_right : DenS :=
  (sCons (sSet 1 (dCall V_l_stretch (aCons (dVar 0) aNil)))
  (sCons (sSet 2 (dCall V_l_near (aCons (dVar 0) (aCons (dVar 1) aNil))))
  (sCons (sPar2 3 4 (aCons (dOp2 oAdd (dCall V_l_beside (aCons (dOp2 oAdd (dVar 1) (dVar 2)) aNil)) (dLst (aCons (dCall V_l_number (aCons (dVar 0) aNil)) aNil))) (aCons (dC (.bl false)) aNil)))
  (sCons (sFor (iSeq (dVar 3)) (gNm 5)
  (sCons (sSet 6 (dTup (aCons (dCall V_l_has (aCons (dVar 1) (aCons (dVar 5) aNil))) (aCons (dCall V_l_has (aCons (dVar 2) (aCons (dVar 5) aNil))) (aCons (dCall V_l_has (aCons (dVar 1) (aCons (dVar 5) aNil))) aNil)))))
  (sCons (sSet 7 (dTup (aCons (dCall V_stretch_holds (aCons (dVar 1) (aCons (dVar 5) aNil))) (aCons (dCall V_stretch_holds (aCons (dVar 2) (aCons (dVar 5) aNil))) (aCons (dCallW 2 [1, 0] V_stretch_holds (aCons (dVar 5) (aCons (dVar 1) aNil))) aNil)))))
  (sCons (sIf (dNot (dCall (V_l_same 8) (aCons (dVar 7) (aCons (dVar 6) aNil))))
  (sCons (sRet (dC (.bl false)))
  sNil)
  sNil)
  (sCons (sSet 4 (dOr (dVar 4) (dOp2 oNe (dOp2 oIx (dVar 7) (dC (.int 0))) (dOp2 oIx (dVar 7) (dC (.int 1))))))
  sNil)))))
  (sCons (sRet (dOp2 oEq (dVar 4) (dOp2 oNe (dVar 1) (dVar 2))))
  sNil)))))
noncomputable def V_l_stretches_right : FD := mkFn 1 ["_law_source_here", "_law_one", "_law_two", "_law_lots", "_law_apart", "_law_count", "_law_due", "_law_told"] D_l_stretches_right
noncomputable def D_l_rests_right : DenS :=
  (sCons (sSet 1 (dCall V_l_rest (aCons (dVar 0) aNil)))
  (sCons (sSet 2 (dCall V_l_rest_near (aCons (dVar 0) (aCons (dVar 1) aNil))))
  (sCons (sPar2 3 4 (aCons (dLst (aCons (dCall V_l_number (aCons (dVar 0) aNil)) (aCons (dC (.int 0)) (aCons (dC (.int 1)) aNil)))) (aCons (dC (.bl false)) aNil)))
  (sCons (sFor (iSeq (dTup (aCons (dVar 1) (aCons (dVar 2) aNil)))) (gNm 5)
  (sCons (sIf (dOp2 oNe (dVar 5) (dTup aNil))
  (sCons (sSet 3 (dOp2 oAdd (dVar 3) (dLst (aCons (dOp2 oIx (dVar 5) (dC (.int 0))) (aCons (dOp2 oAdd (dOp2 oIx (dVar 5) (dC (.int 0))) (dOp2 oIx (dVar 5) (dC (.int 1)))) (aCons (dOp2 oSub (dOp2 oIx (dVar 5) (dC (.int 0))) (dOp2 oIx (dVar 5) (dC (.int 1)))) (aCons (dOp2 oAdd (dOp2 oIx (dVar 5) (dC (.int 0))) (dC (.int 1))) (aCons (dOp2 oAdd (dOp2 oIx (dVar 5) (dC (.int 0))) (dC (.int 20160))) aNil))))))))
  sNil)
  sNil)
  sNil))
  (sCons (sFor (iSeq (dVar 3)) (gNm 6)
  (sCons (sSet 7 (dTup (aCons (dCall V_l_rest_has (aCons (dVar 1) (aCons (dVar 6) aNil))) (aCons (dCall V_l_rest_has (aCons (dVar 2) (aCons (dVar 6) aNil))) (aCons (dCall V_l_rest_has (aCons (dVar 1) (aCons (dVar 6) aNil))) aNil)))))
  (sCons (sSet 8 (dTup (aCons (dCall V_rest_holds (aCons (dVar 1) (aCons (dVar 6) aNil))) (aCons (dCall V_rest_holds (aCons (dVar 2) (aCons (dVar 6) aNil))) (aCons (dCallW 2 [1, 0] V_rest_holds (aCons (dVar 6) (aCons (dVar 1) aNil))) aNil)))))
  (sCons (sIf (dNot (dCall (V_l_same 8) (aCons (dVar 8) (aCons (dVar 7) aNil))))
  (sCons (sRet (dC (.bl false)))
  sNil)
  sNil)
  (sCons (sSet 4 (dOr (dVar 4) (dOp2 oNe (dOp2 oIx (dVar 8) (dC (.int 0))) (dOp2 oIx (dVar 8) (dC (.int 1))))))
  sNil)))))
  (sCons (sRet (dOp2 oEq (dVar 4) (dOp2 oNe (dVar 1) (dVar 2))))
  sNil))))))
noncomputable def V_l_rests_right : FD := mkFn 1 ["_law_source_here", "_law_one", "_law_two", "_law_lots", "_law_apart", "_law_each", "_law_count", "_law_due", "_law_told"] D_l_rests_right
noncomputable def D_l_right : DenS :=
  (sCons (sRet (dAnd (dCall V_l_values_right (aCons (dVar 0) aNil)) (dAnd (dCall V_l_stretches_right (aCons (dVar 0) aNil)) (dCall V_l_rests_right (aCons (dVar 0) aNil)))))
  sNil)
noncomputable def V_l_right : FD := mkFn 1 ["_law_source_here"] D_l_right
noncomputable def D_l_law : DenS :=
  (sCons (sRet (dBlt oAll (aCons (dLc (iRange1 (aCons (dBlt oMax2 (aCons (dC (.int 2)) (aCons (dBlt oMin2 (aCons (dBlt oLen (aCons (dVar 0) aNil)) (aCons (dC (.int 5)) aNil))) aNil))) aNil)) (bd1 1) dT (dCut (dCall V_l_right (aCons (dCall V_l_source (aCons (dVar 0) (aCons (dVar 1) aNil))) aNil)))) aNil)))
  sNil)
noncomputable def V_l_law : FD := mkFn 1 ["_law_script", "_law_turn"] D_l_law
end Lw

namespace Lw
open PySem PySem.Spec L2 Eg
local macro_rules | `(tactic| walk_at "vis") => `(tactic| first | exact Or.inl rfl | exact Or.inr (Or.inl rfl) | exact Or.inr (Or.inr rfl))
local macro_rules | `(tactic| walk_at "loc") => `(tactic| first | exact Or.inl rfl | exact Or.inr rfl)
section
variable {P : Program} {w : World} {K : PySem.W.Frag} {mg : Str → Option Value} {base : Heap}
theorem okG_is_whole (T : Fx K mg) {fd : FuncData} (F : FunD K dis_whole.name dis_whole.qual dis_whole.params dis_whole.body dis_whole.scope (dis_whole.dvs K) (dis_whole.kws K) (He.fAd K dis_whole.at_) fd) : FnG P w K mg base 1 (He.fAd K dis_whole.at_) fd ["value"] (SpD K (CtrOf V_is_whole)) :=
  FnG.den (k := 0) F scis_whole rfl fun cd A outer s H hg hr hnd =>
  (SS.cons (S1.ret (SE.and (SE.isi rfl T.n_isinstance rfl T.n_int (by decide) (by decide +kernel) (by decide) (by decide) (SE.var 0 rfl (by walk_at "vis"))) (SE.one (SE.not (SE.isi rfl T.n_isinstance rfl T.n_bool (by decide) (by decide +kernel) (by decide) (by decide) (SE.var 0 rfl (by walk_at "vis")))))))
  SS.nil)
theorem ok_is_whole (T : Fx K mg) : Fn P w K mg base "is_whole" 1 (CtrOf V_is_whole) := by
  obtain ⟨fd, F⟩ := T.d_is_whole
  exact ⟨_, _, _, okG_is_whole T F, T.g_is_whole, F.kp, F.bindsN fun _ _ _ _ _ _ us hl => match us, hl with | [_], _ => rfl⟩
theorem okG_is_end (T : Fx K mg) {fd : FuncData} (F : FunD K dis_end.name dis_end.qual dis_end.params dis_end.body dis_end.scope (dis_end.dvs K) (dis_end.kws K) (He.fAd K dis_end.at_) fd) : FnG P w K mg base 2 (He.fAd K dis_end.at_) fd ["value"] (SpD K (CtrOf V_is_end)) :=
  FnG.den (k := 1) F scis_end rfl fun cd A outer s H hg hr hnd =>
  (SS.cons (S1.ret (SE.or (SE.cmp rfl hr.units (SE.var 0 rfl (by walk_at "vis")) SE.non) (SE.one (SE.call (ok_is_whole T) hg (hr.mono (by omega)) rfl (SAr.cons (SE.var 0 rfl (by walk_at "vis")) SAr.nil)))))
  SS.nil)
theorem ok_is_end (T : Fx K mg) : Fn P w K mg base "is_end" 2 (CtrOf V_is_end) := by
  obtain ⟨fd, F⟩ := T.d_is_end
  exact ⟨_, _, _, okG_is_end T F, T.g_is_end, F.kp, F.bindsN fun _ _ _ _ _ _ us hl => match us, hl with | [_], _ => rfl⟩
theorem okG_is_span (T : Fx K mg) {fd : FuncData} (F : FunD K dis_span.name dis_span.qual dis_span.params dis_span.body dis_span.scope (dis_span.dvs K) (dis_span.kws K) (He.fAd K dis_span.at_) fd) : FnG P w K mg base 3 (He.fAd K dis_span.at_) fd ["value"] (SpD K (CtrOf V_is_span)) :=
  FnG.den (k := 2) F scis_span rfl fun cd A outer s H hg hr hnd =>
  (SS.cons (S1.ifS (ST.w (SW.or (ST.not (ST.val (SE.isi rfl T.n_isinstance rfl T.n_tuple (by decide) (by decide +kernel) (by decide) (by decide) (SE.var 0 rfl (by walk_at "vis"))))) (SW.or1 (ST.nin hr.units (SE.len rfl T.n_len (SAr.cons (SE.var 0 rfl (by walk_at "vis")) SAr.nil)) (SE.tup (SAr.cons SE.int (SAr.cons SE.int SAr.nil)))))))
  (SS.cons (S1.ret SE.bl)
  SS.nil)
  SS.nil)
  (SS.cons (S1.ifS (ST.not (ST.val (SE.all rfl rfl T.n_all (SAr.cons (SE.lc 1 rfl hnd rfl (blkOk_by (by kernel_rfl)) (fun _ _ _ _ _ => ⟨by walk_at "loc", by walk_at "loc"⟩) (SI.seq (SE.var 0 rfl (by walk_at "vis"))) (fun _ _ _ _ _ => (SE.call (ok_is_end T) hg (hr.mono (by omega)) rfl (SAr.cons (SE.var 1 rfl (by walk_at "vis")) SAr.nil)))) SAr.nil))))
  (SS.cons (S1.ret SE.bl)
  SS.nil)
  SS.nil)
  (SS.cons (S1.ret (SE.or (SE.cmp rfl hr.units (SE.len rfl T.n_len (SAr.cons (SE.var 0 rfl (by walk_at "vis")) SAr.nil)) SE.int) (SE.or (SE.cmp rfl hr.units (SE.ix (SE.var 0 rfl (by walk_at "vis")) SE.int) SE.non) (SE.or (SE.cmp rfl hr.units (SE.ix (SE.var 0 rfl (by walk_at "vis")) SE.int) SE.non) (SE.one (SE.cmp rfl hr.units (SE.ix (SE.var 0 rfl (by walk_at "vis")) SE.int) (SE.ix (SE.var 0 rfl (by walk_at "vis")) SE.int)))))))
  SS.nil)))
theorem ok_is_span (T : Fx K mg) : Fn P w K mg base "is_span" 3 (CtrOf V_is_span) := by
  obtain ⟨fd, F⟩ := T.d_is_span
  exact ⟨_, _, _, okG_is_span T F, T.g_is_span, F.kp, F.bindsN fun _ _ _ _ _ _ us hl => match us, hl with | [_], _ => rfl⟩
theorem okG_span_holds (T : Fx K mg) {fd : FuncData} (F : FunD K dspan_holds.name dspan_holds.qual dspan_holds.params dspan_holds.body dspan_holds.scope (dspan_holds.dvs K) (dspan_holds.kws K) (He.fAd K dspan_holds.at_) fd) : FnG P w K mg base 1 (He.fAd K dspan_holds.at_) fd ["span", "number"] (SpD K (CtrOf V_span_holds)) :=
  FnG.den (k := 0) F scspan_holds rfl fun cd A outer s H hg hr hnd =>
  (SS.cons (S1.ifS (ST.cmp rfl hr.units (SE.var 0 rfl (by walk_at "vis")) (SE.tup SAr.nil))
  (SS.cons (S1.ret SE.bl)
  SS.nil)
  SS.nil)
  (SS.cons (S1.asg (SE.var 0 rfl (by walk_at "vis")) (SG.tup (n := 2) rfl (SGs.cons (SG.name 2 hnd rfl (by walk_at "loc") (by walk_at "loc")) (SGs.cons (SG.name 3 hnd rfl (by walk_at "loc") (by walk_at "loc")) SGs.nil))))
  (SS.cons (S1.ret (SE.and (SE.or (SE.cmp rfl hr.units (SE.var 2 rfl (by walk_at "vis")) SE.non) (SE.one (SE.cmp rfl hr.units (SE.var 2 rfl (by walk_at "vis")) (SE.var 1 rfl (by walk_at "vis"))))) (SE.one (SE.or (SE.cmp rfl hr.units (SE.var 3 rfl (by walk_at "vis")) SE.non) (SE.one (SE.cmp rfl hr.units (SE.var 1 rfl (by walk_at "vis")) (SE.var 3 rfl (by walk_at "vis"))))))))
  SS.nil)))
theorem ok_span_holds (T : Fx K mg) : Fn P w K mg base "span_holds" 1 (CtrOf V_span_holds) := by
  obtain ⟨fd, F⟩ := T.d_span_holds
  exact ⟨_, _, _, okG_span_holds T F, T.g_span_holds, F.kp, F.bindsN fun _ _ _ _ _ _ us hl => match us, hl with | [_, _], _ => rfl⟩
theorem okG_is_residue (T : Fx K mg) {fd : FuncData} (F : FunD K dis_residue.name dis_residue.qual dis_residue.params dis_residue.body dis_residue.scope (dis_residue.dvs K) (dis_residue.kws K) (He.fAd K dis_residue.at_) fd) : FnG P w K mg base 2 (He.fAd K dis_residue.at_) fd ["value"] (SpD K (CtrOf V_is_residue)) :=
  FnG.den (k := 1) F scis_residue rfl fun cd A outer s H hg hr hnd =>
  (SS.cons (S1.ifS (ST.w (SW.or (ST.not (ST.val (SE.isi rfl T.n_isinstance rfl T.n_tuple (by decide) (by decide +kernel) (by decide) (by decide) (SE.var 0 rfl (by walk_at "vis"))))) (SW.or1 (ST.nin hr.units (SE.len rfl T.n_len (SAr.cons (SE.var 0 rfl (by walk_at "vis")) SAr.nil)) (SE.tup (SAr.cons SE.int (SAr.cons SE.int SAr.nil)))))))
  (SS.cons (S1.ret SE.bl)
  SS.nil)
  SS.nil)
  (SS.cons (S1.ifS (ST.not (ST.val (SE.all rfl rfl T.n_all (SAr.cons (SE.lc 1 rfl hnd rfl (blkOk_by (by kernel_rfl)) (fun _ _ _ _ _ => ⟨by walk_at "loc", by walk_at "loc"⟩) (SI.seq (SE.var 0 rfl (by walk_at "vis"))) (fun _ _ _ _ _ => (SE.call (ok_is_whole T) hg (hr.mono (by omega)) rfl (SAr.cons (SE.var 1 rfl (by walk_at "vis")) SAr.nil)))) SAr.nil))))
  (SS.cons (S1.ret SE.bl)
  SS.nil)
  SS.nil)
  (SS.cons (S1.ifS (ST.w (SW.or (ST.cmp rfl hr.units (SE.len rfl T.n_len (SAr.cons (SE.var 0 rfl (by walk_at "vis")) SAr.nil)) SE.int) (SW.or1 (ST.cmp rfl hr.units (SE.ix (SE.var 0 rfl (by walk_at "vis")) SE.int) SE.int))))
  (SS.cons (S1.ret SE.bl)
  SS.nil)
  SS.nil)
  (SS.cons (S1.asg (SE.var 0 rfl (by walk_at "vis")) (SG.tup (n := 2) rfl (SGs.cons (SG.name 1 hnd rfl (by walk_at "loc") (by walk_at "loc")) (SGs.cons (SG.name 2 hnd rfl (by walk_at "loc") (by walk_at "loc")) SGs.nil))))
  (SS.cons (S1.ret (SE.and (SE.cmp rfl hr.units (SE.var 2 rfl (by walk_at "vis")) SE.int) (SE.and (SE.cmp rfl hr.units (SE.mod (T.c_GRAIN rfl) (SE.var 2 rfl (by walk_at "vis"))) SE.int) (SE.one (SE.chain rfl rfl hr.units SE.int (SE.var 1 rfl (by walk_at "vis")) (SE.var 2 rfl (by walk_at "vis")))))))
  SS.nil)))))
theorem ok_is_residue (T : Fx K mg) : Fn P w K mg base "is_residue" 2 (CtrOf V_is_residue) := by
  obtain ⟨fd, F⟩ := T.d_is_residue
  exact ⟨_, _, _, okG_is_residue T F, T.g_is_residue, F.kp, F.bindsN fun _ _ _ _ _ _ us hl => match us, hl with | [_], _ => rfl⟩
theorem okG_residue_of (T : Fx K mg) {fd : FuncData} (F : FunD K dresidue_of.name dresidue_of.qual dresidue_of.params dresidue_of.body dresidue_of.scope (dresidue_of.dvs K) (dresidue_of.kws K) (He.fAd K dresidue_of.at_) fd) : FnG P w K mg base 1 (He.fAd K dresidue_of.at_) fd ["number", "divisor"] (SpD K (CtrOf V_residue_of)) :=
  FnG.den (k := 0) F scresidue_of rfl fun cd A outer s H hg hr hnd =>
  (SS.cons (S1.ret (SE.ifE (ST.cmp rfl hr.units (SE.var 1 rfl (by walk_at "vis")) SE.int) (SE.tup (SAr.cons (SE.var 0 rfl (by walk_at "vis")) (SAr.cons SE.int SAr.nil))) (SE.tup (SAr.cons (SE.mod (SE.var 0 rfl (by walk_at "vis")) (SE.var 1 rfl (by walk_at "vis"))) (SAr.cons (SE.var 1 rfl (by walk_at "vis")) SAr.nil)))))
  SS.nil)
theorem ok_residue_of (T : Fx K mg) : Fn P w K mg base "residue_of" 1 (CtrOf V_residue_of) := by
  obtain ⟨fd, F⟩ := T.d_residue_of
  exact ⟨_, _, _, okG_residue_of T F, T.g_residue_of, F.kp, F.bindsN fun _ _ _ _ _ _ us hl => match us, hl with | [_, _], _ => rfl⟩
theorem okG_residue_holds (T : Fx K mg) {fd : FuncData} (F : FunD K dresidue_holds.name dresidue_holds.qual dresidue_holds.params dresidue_holds.body dresidue_holds.scope (dresidue_holds.dvs K) (dresidue_holds.kws K) (He.fAd K dresidue_holds.at_) fd) : FnG P w K mg base 2 (He.fAd K dresidue_holds.at_) fd ["residue", "number"] (SpD K (CtrOf V_residue_holds)) :=
  FnG.den (k := 1) F scresidue_holds rfl fun cd A outer s H hg hr hnd =>
  (SS.cons (S1.ifS (ST.cmp rfl hr.units (SE.var 0 rfl (by walk_at "vis")) (SE.tup SAr.nil))
  (SS.cons (S1.ret SE.bl)
  SS.nil)
  SS.nil)
  (SS.cons (S1.ret (SE.cmp rfl hr.units (SE.call (ok_residue_of T) hg (hr.mono (by omega)) rfl (SAr.cons (SE.var 1 rfl (by walk_at "vis")) (SAr.cons (SE.ix (SE.var 0 rfl (by walk_at "vis")) SE.int) SAr.nil))) (SE.var 0 rfl (by walk_at "vis"))))
  SS.nil))
theorem ok_residue_holds (T : Fx K mg) : Fn P w K mg base "residue_holds" 2 (CtrOf V_residue_holds) := by
  obtain ⟨fd, F⟩ := T.d_residue_holds
  exact ⟨_, _, _, okG_residue_holds T F, T.g_residue_holds, F.kp, F.bindsN fun _ _ _ _ _ _ us hl => match us, hl with | [_, _], _ => rfl⟩
theorem okG_refuse_wrong_stretch (T : Fx K mg) {fd : FuncData} (F : FunD K drefuse_wrong_stretch.name drefuse_wrong_stretch.qual drefuse_wrong_stretch.params drefuse_wrong_stretch.body drefuse_wrong_stretch.scope (drefuse_wrong_stretch.dvs K) (drefuse_wrong_stretch.kws K) (He.fAd K drefuse_wrong_stretch.at_) fd) : FnG P w K mg base 4 (He.fAd K drefuse_wrong_stretch.at_) fd ["stretch"] (SpD K (CtrOf V_refuse_wrong_stretch)) :=
  FnG.den (k := 3) F screfuse_wrong_stretch rfl fun cd A outer s H hg hr hnd =>
  (SS.cons (S1.ifS (ST.not (ST.val (SE.call (ok_is_span T) hg (hr.mono (by omega)) rfl (SAr.cons (SE.var 0 rfl (by walk_at "vis")) SAr.nil))))
  (SS.cons S1.no
  SS.nil)
  SS.nil)
  SS.nil)
theorem ok_refuse_wrong_stretch (T : Fx K mg) : Fn P w K mg base "refuse_wrong_stretch" 4 (CtrOf V_refuse_wrong_stretch) := by
  obtain ⟨fd, F⟩ := T.d_refuse_wrong_stretch
  exact ⟨_, _, _, okG_refuse_wrong_stretch T F, T.g_refuse_wrong_stretch, F.kp, F.bindsN fun _ _ _ _ _ _ us hl => match us, hl with | [_], _ => rfl⟩
theorem okG_refuse_wrong_rest (T : Fx K mg) {fd : FuncData} (F : FunD K drefuse_wrong_rest.name drefuse_wrong_rest.qual drefuse_wrong_rest.params drefuse_wrong_rest.body drefuse_wrong_rest.scope (drefuse_wrong_rest.dvs K) (drefuse_wrong_rest.kws K) (He.fAd K drefuse_wrong_rest.at_) fd) : FnG P w K mg base 3 (He.fAd K drefuse_wrong_rest.at_) fd ["rest"] (SpD K (CtrOf V_refuse_wrong_rest)) :=
  FnG.den (k := 2) F screfuse_wrong_rest rfl fun cd A outer s H hg hr hnd =>
  (SS.cons (S1.ifS (ST.not (ST.val (SE.call (ok_is_residue T) hg (hr.mono (by omega)) rfl (SAr.cons (SE.var 0 rfl (by walk_at "vis")) SAr.nil))))
  (SS.cons S1.no
  SS.nil)
  SS.nil)
  SS.nil)
theorem ok_refuse_wrong_rest (T : Fx K mg) : Fn P w K mg base "refuse_wrong_rest" 3 (CtrOf V_refuse_wrong_rest) := by
  obtain ⟨fd, F⟩ := T.d_refuse_wrong_rest
  exact ⟨_, _, _, okG_refuse_wrong_rest T F, T.g_refuse_wrong_rest, F.kp, F.bindsN fun _ _ _ _ _ _ us hl => match us, hl with | [_], _ => rfl⟩
theorem okG_refuse_wrong_number (T : Fx K mg) {fd : FuncData} (F : FunD K drefuse_wrong_number.name drefuse_wrong_number.qual drefuse_wrong_number.params drefuse_wrong_number.body drefuse_wrong_number.scope (drefuse_wrong_number.dvs K) (drefuse_wrong_number.kws K) (He.fAd K drefuse_wrong_number.at_) fd) : FnG P w K mg base 2 (He.fAd K drefuse_wrong_number.at_) fd ["number"] (SpD K (CtrOf V_refuse_wrong_number)) :=
  FnG.den (k := 1) F screfuse_wrong_number rfl fun cd A outer s H hg hr hnd =>
  (SS.cons (S1.ifS (ST.not (ST.val (SE.call (ok_is_whole T) hg (hr.mono (by omega)) rfl (SAr.cons (SE.var 0 rfl (by walk_at "vis")) SAr.nil))))
  (SS.cons S1.no
  SS.nil)
  SS.nil)
  SS.nil)
theorem ok_refuse_wrong_number (T : Fx K mg) : Fn P w K mg base "refuse_wrong_number" 2 (CtrOf V_refuse_wrong_number) := by
  obtain ⟨fd, F⟩ := T.d_refuse_wrong_number
  exact ⟨_, _, _, okG_refuse_wrong_number T F, T.g_refuse_wrong_number, F.kp, F.bindsN fun _ _ _ _ _ _ us hl => match us, hl with | [_], _ => rfl⟩
theorem okG_is_stretch (T : Fx K mg) {fd : FuncData} (F : FunD K dis_stretch.name dis_stretch.qual dis_stretch.params dis_stretch.body dis_stretch.scope (dis_stretch.dvs K) (dis_stretch.kws K) (He.fAd K dis_stretch.at_) fd) : FnG P w K mg base 4 (He.fAd K dis_stretch.at_) fd ["value"] (SpD K (CtrOf V_is_stretch)) :=
  FnG.den (k := 3) F scis_stretch rfl fun cd A outer s H hg hr hnd =>
  (SS.cons (S1.ret (SE.call (ok_is_span T) hg (hr.mono (by omega)) rfl (SAr.cons (SE.var 0 rfl (by walk_at "vis")) SAr.nil)))
  SS.nil)
theorem ok_is_stretch (T : Fx K mg) : Fn P w K mg base "is_stretch" 4 (CtrOf V_is_stretch) := by
  obtain ⟨fd, F⟩ := T.d_is_stretch
  exact ⟨_, _, _, okG_is_stretch T F, T.g_is_stretch, F.kp, F.bindsN fun _ _ _ _ _ _ us hl => match us, hl with | [_], _ => rfl⟩
theorem okG_stretch_holds (T : Fx K mg) {fd : FuncData} (F : FunD K dstretch_holds.name dstretch_holds.qual dstretch_holds.params dstretch_holds.body dstretch_holds.scope (dstretch_holds.dvs K) (dstretch_holds.kws K) (He.fAd K dstretch_holds.at_) fd) : FnG P w K mg base 5 (He.fAd K dstretch_holds.at_) fd ["stretch", "number"] (SpD K (CtrOf V_stretch_holds)) :=
  FnG.den (k := 4) F scstretch_holds rfl fun cd A outer s H hg hr hnd =>
  (SS.cons (S1.expr (SE.call (ok_refuse_wrong_stretch T) hg (hr.mono (by omega)) rfl (SAr.cons (SE.var 0 rfl (by walk_at "vis")) SAr.nil)))
  (SS.cons (S1.expr (SE.call (ok_refuse_wrong_number T) hg (hr.mono (by omega)) rfl (SAr.cons (SE.var 1 rfl (by walk_at "vis")) SAr.nil)))
  (SS.cons (S1.ret (SE.call (ok_span_holds T) hg (hr.mono (by omega)) rfl (SAr.cons (SE.var 0 rfl (by walk_at "vis")) (SAr.cons (SE.var 1 rfl (by walk_at "vis")) SAr.nil))))
  SS.nil)))
theorem ok_stretch_holds (T : Fx K mg) : Fn P w K mg base "stretch_holds" 5 (CtrOf V_stretch_holds) := by
  obtain ⟨fd, F⟩ := T.d_stretch_holds
  exact ⟨_, _, _, okG_stretch_holds T F, T.g_stretch_holds, F.kp, F.bindsN fun _ _ _ _ _ _ us hl => match us, hl with | [_, _], _ => rfl⟩
theorem okG_is_rest (T : Fx K mg) {fd : FuncData} (F : FunD K dis_rest.name dis_rest.qual dis_rest.params dis_rest.body dis_rest.scope (dis_rest.dvs K) (dis_rest.kws K) (He.fAd K dis_rest.at_) fd) : FnG P w K mg base 3 (He.fAd K dis_rest.at_) fd ["value"] (SpD K (CtrOf V_is_rest)) :=
  FnG.den (k := 2) F scis_rest rfl fun cd A outer s H hg hr hnd =>
  (SS.cons (S1.ret (SE.call (ok_is_residue T) hg (hr.mono (by omega)) rfl (SAr.cons (SE.var 0 rfl (by walk_at "vis")) SAr.nil)))
  SS.nil)
theorem ok_is_rest (T : Fx K mg) : Fn P w K mg base "is_rest" 3 (CtrOf V_is_rest) := by
  obtain ⟨fd, F⟩ := T.d_is_rest
  exact ⟨_, _, _, okG_is_rest T F, T.g_is_rest, F.kp, F.bindsN fun _ _ _ _ _ _ us hl => match us, hl with | [_], _ => rfl⟩
theorem okG_rest_holds (T : Fx K mg) {fd : FuncData} (F : FunD K drest_holds.name drest_holds.qual drest_holds.params drest_holds.body drest_holds.scope (drest_holds.dvs K) (drest_holds.kws K) (He.fAd K drest_holds.at_) fd) : FnG P w K mg base 4 (He.fAd K drest_holds.at_) fd ["rest", "number"] (SpD K (CtrOf V_rest_holds)) :=
  FnG.den (k := 3) F screst_holds rfl fun cd A outer s H hg hr hnd =>
  (SS.cons (S1.expr (SE.call (ok_refuse_wrong_rest T) hg (hr.mono (by omega)) rfl (SAr.cons (SE.var 0 rfl (by walk_at "vis")) SAr.nil)))
  (SS.cons (S1.expr (SE.call (ok_refuse_wrong_number T) hg (hr.mono (by omega)) rfl (SAr.cons (SE.var 1 rfl (by walk_at "vis")) SAr.nil)))
  (SS.cons (S1.ret (SE.call (ok_residue_holds T) hg (hr.mono (by omega)) rfl (SAr.cons (SE.var 0 rfl (by walk_at "vis")) (SAr.cons (SE.var 1 rfl (by walk_at "vis")) SAr.nil))))
  SS.nil)))
theorem ok_rest_holds (T : Fx K mg) : Fn P w K mg base "rest_holds" 4 (CtrOf V_rest_holds) := by
  obtain ⟨fd, F⟩ := T.d_rest_holds
  exact ⟨_, _, _, okG_rest_holds T F, T.g_rest_holds, F.kp, F.bindsN fun _ _ _ _ _ _ us hl => match us, hl with | [_, _], _ => rfl⟩
theorem okG_l_source (T : Fx K mg) {fd : FuncData} (F : FunD K dl_source.name dl_source.qual dl_source.params dl_source.body dl_source.scope (dl_source.dvs K) (dl_source.kws K) (He.fAd K dl_source.at_) fd) : FnG P w K mg base 1 (He.fAd K dl_source.at_) fd ["_law_script", "_law_turn"] (SpD K (CtrOf V_l_source)) :=
  FnG.den (k := 0) F scl_source rfl fun cd A outer s H hg hr hnd =>
  (SS.cons (S1.set 2 hnd rfl (by walk_at "loc") (by walk_at "loc") (SE.add SE.int (SE.mul SE.int (SE.var 1 rfl (by walk_at "vis")))))
  (SS.cons (S1.for_ PassesOwn.never rfl (SI.seq (SE.slice (SE.var 0 rfl (by walk_at "vis")) spN (spS SE.int))) (SG.name 3 hnd rfl (by walk_at "loc") (by walk_at "loc"))
  (SS.cons (S1.set 2 hnd rfl (by walk_at "loc") (by walk_at "loc") (SE.mod (SE.toInt rfl T.n_int (SAr.cons (SE.add (SE.add (SE.mul (SE.var 2 rfl (by walk_at "vis")) SE.int) (SE.mod (SE.toInt rfl T.n_int (SAr.cons (SE.var 3 rfl (by walk_at "vis")) SAr.nil)) SE.int)) SE.int) SAr.nil)) SE.int))
  SS.nil))
  (SS.cons (S1.set 4 hnd rfl (by walk_at "loc") (by walk_at "loc") (SE.ifE (ST.cmp rfl hr.units (SE.var 1 rfl (by walk_at "vis")) (SE.len rfl T.n_len (SAr.cons (SE.var 0 rfl (by walk_at "vis")) SAr.nil))) (SE.toInt rfl T.n_int (SAr.cons (SE.ix (SE.var 0 rfl (by walk_at "vis")) (SE.var 1 rfl (by walk_at "vis"))) SAr.nil)) SE.int))
  (SS.cons (S1.set 2 hnd rfl (by walk_at "loc") (by walk_at "loc") (SE.mod (SE.toInt rfl T.n_int (SAr.cons (SE.add (SE.add (SE.mul (SE.var 2 rfl (by walk_at "vis")) SE.int) (SE.mul (SE.mod (SE.toInt rfl T.n_int (SAr.cons (SE.var 4 rfl (by walk_at "vis")) SAr.nil)) SE.int) SE.int)) SE.int) SAr.nil)) SE.int))
  (SS.cons (S1.ret (SE.lstM (SAr.cons (SE.ifE (ST.w (SW.or (ST.cmp rfl hr.units (SE.var 4 rfl (by walk_at "vis")) SE.int) (SW.or1 (ST.cmp rfl hr.units (SE.var 4 rfl (by walk_at "vis")) (SE.pow SE.int SE.int))))) (SE.abs rfl T.n_abs (SAr.cons (SE.var 4 rfl (by walk_at "vis")) SAr.nil)) SE.int) (SAr.cons (SE.var 2 rfl (by walk_at "vis")) (SAr.cons SE.int SAr.nil)))))
  SS.nil)))))
theorem ok_l_source (T : Fx K mg) : Fn P w K mg base "_law_source" 1 (CtrOf V_l_source) := by
  obtain ⟨fd, F⟩ := T.d_l_source
  exact ⟨_, _, _, okG_l_source T F, T.g_l_source, F.kp, F.bindsN fun _ _ _ _ _ _ us hl => match us, hl with | [_, _], _ => rfl⟩
theorem okG_l_take (T : Fx K mg) {fd : FuncData} (F : FunD K dl_take.name dl_take.qual dl_take.params dl_take.body dl_take.scope (dl_take.dvs K) (dl_take.kws K) (He.fAd K dl_take.at_) fd) : FnG P w K mg base 1 (He.fAd K dl_take.at_) fd ["_law_source_here", "_law_many"] (SpD K (CtrOf V_l_take)) :=
  FnG.den (k := 0) F scl_take rfl fun cd A outer s H hg hr hnd =>
  (SS.cons (S1.ifS (ST.cmp rfl hr.units (SE.ix (SE.var 0 rfl (by walk_at "vis")) SE.int) SE.int)
  (SS.cons (S1.asg (SE.divmod rfl T.n_divmod (SAr.cons (SE.ix (SE.var 0 rfl (by walk_at "vis")) SE.int) (SAr.cons (SE.var 1 rfl (by walk_at "vis")) SAr.nil))) (SG.tup (n := 2) rfl (SGs.cons (SG.sub (SE.var 0 rfl (by walk_at "vis")) SE.int) (SGs.cons (SG.name 2 hnd rfl (by walk_at "loc") (by walk_at "loc")) SGs.nil))))
  (SS.cons (S1.ret (SE.var 2 rfl (by walk_at "vis")))
  SS.nil))
  SS.nil)
  (SS.cons (S1.asg (SE.add (SE.ix (SE.var 0 rfl (by walk_at "vis")) SE.int) SE.int) (SG.sub (SE.var 0 rfl (by walk_at "vis")) SE.int))
  (SS.cons (S1.set 3 hnd rfl (by walk_at "loc") (by walk_at "loc") (SE.mod (SE.toInt rfl T.n_int (SAr.cons (SE.add (SE.ix (SE.var 0 rfl (by walk_at "vis")) SE.int) (SE.mul SE.int (SE.ix (SE.var 0 rfl (by walk_at "vis")) SE.int))) SAr.nil)) SE.int))
  (SS.cons (S1.asg (SE.mod (SE.toInt rfl T.n_int (SAr.cons (SE.add (SE.mul (SE.var 3 rfl (by walk_at "vis")) (SE.add (SE.mod (SE.toInt rfl T.n_int (SAr.cons (SE.var 3 rfl (by walk_at "vis")) SAr.nil)) SE.int) SE.int)) (SE.mul SE.int (SE.ix (SE.var 0 rfl (by walk_at "vis")) SE.int))) SAr.nil)) SE.int) (SG.sub (SE.var 0 rfl (by walk_at "vis")) SE.int))
  (SS.cons (S1.ret (SE.mod (SE.toInt rfl T.n_int (SAr.cons (SE.fdiv (SE.ix (SE.var 0 rfl (by walk_at "vis")) SE.int) SE.int) SAr.nil)) (SE.var 1 rfl (by walk_at "vis"))))
  SS.nil)))))
theorem ok_l_take (T : Fx K mg) : Fn P w K mg base "_law_take" 1 (CtrOf V_l_take) := by
  obtain ⟨fd, F⟩ := T.d_l_take
  exact ⟨_, _, _, okG_l_take T F, T.g_l_take, F.kp, F.bindsN fun _ _ _ _ _ _ us hl => match us, hl with | [_, _], _ => rfl⟩
theorem okG_l_pick (T : Fx K mg) {fd : FuncData} (F : FunD K dl_pick.name dl_pick.qual dl_pick.params dl_pick.body dl_pick.scope (dl_pick.dvs K) (dl_pick.kws K) (He.fAd K dl_pick.at_) fd) : FnG P w K mg base 2 (He.fAd K dl_pick.at_) fd ["_law_source_here", "_law_some"] (SpD K (CtrOf V_l_pick)) :=
  FnG.den (k := 1) F scl_pick rfl fun cd A outer s H hg hr hnd =>
  (SS.cons (S1.ret (SE.ix (SE.var 1 rfl (by walk_at "vis")) (SE.call (ok_l_take T) hg (hr.mono (by omega)) rfl (SAr.cons (SE.var 0 rfl (by walk_at "vis")) (SAr.cons (SE.len rfl T.n_len (SAr.cons (SE.var 1 rfl (by walk_at "vis")) SAr.nil)) SAr.nil)))))
  SS.nil)
theorem ok_l_pick (T : Fx K mg) : Fn P w K mg base "_law_pick" 2 (CtrOf V_l_pick) := by
  obtain ⟨fd, F⟩ := T.d_l_pick
  exact ⟨_, _, _, okG_l_pick T F, T.g_l_pick, F.kp, F.bindsN fun _ _ _ _ _ _ us hl => match us, hl with | [_, _], _ => rfl⟩
theorem okG_l_great (T : Fx K mg) {fd : FuncData} (F : FunD K dl_great.name dl_great.qual dl_great.params dl_great.body dl_great.scope (dl_great.dvs K) (dl_great.kws K) (He.fAd K dl_great.at_) fd) : FnG P w K mg base 2 (He.fAd K dl_great.at_) fd ["_law_source_here"] (SpD K (CtrOf V_l_great)) :=
  FnG.den (k := 1) F scl_great rfl fun cd A outer s H hg hr hnd =>
  (SS.cons (S1.set 1 hnd rfl (by walk_at "loc") (by walk_at "loc") SE.int)
  (SS.cons (S1.for_ PassesOwn.never rfl (SI.range1 rfl T.n_range (SAr.cons SE.int SAr.nil)) (SG.name 2 hnd rfl (by walk_at "loc") (by walk_at "loc"))
  (SS.cons (S1.set 1 hnd rfl (by walk_at "loc") (by walk_at "loc") (SE.add (SE.mul (SE.var 1 rfl (by walk_at "vis")) SE.int) (SE.call (ok_l_take T) hg (hr.mono (by omega)) rfl (SAr.cons (SE.var 0 rfl (by walk_at "vis")) (SAr.cons SE.int SAr.nil)))))
  SS.nil))
  (SS.cons (S1.ret (SE.var 1 rfl (by walk_at "vis")))
  SS.nil)))
theorem ok_l_great (T : Fx K mg) : Fn P w K mg base "_law_great" 2 (CtrOf V_l_great) := by
  obtain ⟨fd, F⟩ := T.d_l_great
  exact ⟨_, _, _, okG_l_great T F, T.g_l_great, F.kp, F.bindsN fun _ _ _ _ _ _ us hl => match us, hl with | [_], _ => rfl⟩
theorem okG_l_number (T : Fx K mg) {fd : FuncData} (F : FunD K dl_number.name dl_number.qual dl_number.params dl_number.body dl_number.scope (dl_number.dvs K) (dl_number.kws K) (He.fAd K dl_number.at_) fd) : FnG P w K mg base 3 (He.fAd K dl_number.at_) fd ["_law_source_here"] (SpD K (CtrOf V_l_number)) :=
  FnG.den (k := 2) F scl_number rfl fun cd A outer s H hg hr hnd =>
  (SS.cons (S1.set 1 hnd rfl (by walk_at "loc") (by walk_at "loc") (SE.call (ok_l_take T) hg (hr.mono (by omega)) rfl (SAr.cons (SE.var 0 rfl (by walk_at "vis")) (SAr.cons SE.int SAr.nil))))
  (SS.cons (S1.ifS (ST.cmp rfl hr.units (SE.var 1 rfl (by walk_at "vis")) SE.int)
  (SS.cons (S1.ret (SE.sub (SE.call (ok_l_take T) hg (hr.mono (by omega)) rfl (SAr.cons (SE.var 0 rfl (by walk_at "vis")) (SAr.cons SE.int SAr.nil))) SE.int))
  SS.nil)
  SS.nil)
  (SS.cons (S1.ifS (ST.cmp rfl hr.units (SE.var 1 rfl (by walk_at "vis")) SE.int)
  (SS.cons (S1.ret (SE.sub (SE.call (ok_l_take T) hg (hr.mono (by omega)) rfl (SAr.cons (SE.var 0 rfl (by walk_at "vis")) (SAr.cons SE.int SAr.nil))) SE.int))
  SS.nil)
  SS.nil)
  (SS.cons (S1.ifS (ST.cmp rfl hr.units (SE.var 1 rfl (by walk_at "vis")) SE.int)
  (SS.cons (S1.ret (SE.sub (SE.call (ok_l_take T) hg (hr.mono (by omega)) rfl (SAr.cons (SE.var 0 rfl (by walk_at "vis")) (SAr.cons SE.int SAr.nil))) SE.int))
  SS.nil)
  SS.nil)
  (SS.cons (S1.set 2 hnd rfl (by walk_at "loc") (by walk_at "loc") (SE.call (ok_l_great T) hg (hr.mono (by omega)) rfl (SAr.cons (SE.var 0 rfl (by walk_at "vis")) SAr.nil)))
  (SS.cons (S1.ret (SE.ifE (ST.cmp rfl hr.units (SE.call (ok_l_take T) hg (hr.mono (by omega)) rfl (SAr.cons (SE.var 0 rfl (by walk_at "vis")) (SAr.cons SE.int SAr.nil))) SE.int) (SE.var 2 rfl (by walk_at "vis")) (SE.sub SE.int (SE.var 2 rfl (by walk_at "vis")))))
  SS.nil))))))
theorem ok_l_number (T : Fx K mg) : Fn P w K mg base "_law_number" 3 (CtrOf V_l_number) := by
  obtain ⟨fd, F⟩ := T.d_l_number
  exact ⟨_, _, _, okG_l_number T F, T.g_l_number, F.kp, F.bindsN fun _ _ _ _ _ _ us hl => match us, hl with | [_], _ => rfl⟩
theorem okG_l_stretch (T : Fx K mg) {fd : FuncData} (F : FunD K dl_stretch.name dl_stretch.qual dl_stretch.params dl_stretch.body dl_stretch.scope (dl_stretch.dvs K) (dl_stretch.kws K) (He.fAd K dl_stretch.at_) fd) : FnG P w K mg base 4 (He.fAd K dl_stretch.at_) fd ["_law_source_here"] (SpD K (CtrOf V_l_stretch)) :=
  FnG.den (k := 3) F scl_stretch rfl fun cd A outer s H hg hr hnd =>
  (SS.cons (S1.set 1 hnd rfl (by walk_at "loc") (by walk_at "loc") (SE.call (ok_l_take T) hg (hr.mono (by omega)) rfl (SAr.cons (SE.var 0 rfl (by walk_at "vis")) (SAr.cons SE.int SAr.nil))))
  (SS.cons (S1.ifS (ST.cmp rfl hr.units (SE.var 1 rfl (by walk_at "vis")) SE.int)
  (SS.cons (S1.ret (SE.ifE (ST.cmp rfl hr.units (SE.var 1 rfl (by walk_at "vis")) SE.int) (SE.tup SAr.nil) (SE.tup (SAr.cons SE.non (SAr.cons SE.non SAr.nil)))))
  SS.nil)
  SS.nil)
  (SS.cons (S1.set 2 hnd rfl (by walk_at "loc") (by walk_at "loc") (SE.call (ok_l_number T) hg (hr.mono (by omega)) rfl (SAr.cons (SE.var 0 rfl (by walk_at "vis")) SAr.nil)))
  (SS.cons (S1.ifS (ST.cmp rfl hr.units (SE.var 1 rfl (by walk_at "vis")) SE.int)
  (SS.cons (S1.ret (SE.ifE (ST.cmp rfl hr.units (SE.var 1 rfl (by walk_at "vis")) SE.int) (SE.tup (SAr.cons SE.non (SAr.cons (SE.var 2 rfl (by walk_at "vis")) SAr.nil))) (SE.tup (SAr.cons (SE.var 2 rfl (by walk_at "vis")) (SAr.cons SE.non SAr.nil)))))
  SS.nil)
  SS.nil)
  (SS.cons (S1.ifS (ST.cmp rfl hr.units (SE.var 1 rfl (by walk_at "vis")) SE.int)
  (SS.cons (S1.ret (SE.tup (SAr.cons (SE.var 2 rfl (by walk_at "vis")) (SAr.cons (SE.var 2 rfl (by walk_at "vis")) SAr.nil))))
  SS.nil)
  SS.nil)
  (SS.cons (S1.ret (SE.tup (SAr.cons (SE.var 2 rfl (by walk_at "vis")) (SAr.cons (SE.add (SE.var 2 rfl (by walk_at "vis")) (SE.call (ok_l_take T) hg (hr.mono (by omega)) rfl (SAr.cons (SE.var 0 rfl (by walk_at "vis")) (SAr.cons (SE.ifE (ST.cmp rfl hr.units (SE.var 1 rfl (by walk_at "vis")) SE.int) SE.int SE.int) SAr.nil)))) SAr.nil))))
  SS.nil))))))
theorem ok_l_stretch (T : Fx K mg) : Fn P w K mg base "_law_stretch" 4 (CtrOf V_l_stretch) := by
  obtain ⟨fd, F⟩ := T.d_l_stretch
  exact ⟨_, _, _, okG_l_stretch T F, T.g_l_stretch, F.kp, F.bindsN fun _ _ _ _ _ _ us hl => match us, hl with | [_], _ => rfl⟩
theorem okG_l_near (T : Fx K mg) {fd : FuncData} (F : FunD K dl_near.name dl_near.qual dl_near.params dl_near.body dl_near.scope (dl_near.dvs K) (dl_near.kws K) (He.fAd K dl_near.at_) fd) : FnG P w K mg base 5 (He.fAd K dl_near.at_) fd ["_law_source_here", "_law_ends"] (SpD K (CtrOf V_l_near)) :=
  FnG.den (k := 4) F scl_near rfl fun cd A outer s H hg hr hnd =>
  (SS.cons (S1.setLcIf 2 6 rfl hnd rfl rfl (sw_true rfl rfl rfl (by decide +kernel)) rfl (blkOk_by (by kernel_rfl)) (fun _ _ _ _ _ => ⟨by walk_at "loc", by walk_at "loc"⟩) (SI.seq (SE.var 1 rfl (by walk_at "vis"))) (fun _ _ _ _ _ => (ST.cmp rfl hr.units (SE.var 6 rfl (by walk_at "vis")) SE.non)) (fun _ _ _ _ _ => (SE.var 6 rfl (by walk_at "vis"))))
  (SS.cons (S1.ifS (ST.w (SW.or (ST.cmp rfl hr.units (SE.var 2 rfl (by walk_at "vis")) (SE.lst SAr.nil)) (SW.or1 (ST.cmp rfl hr.units (SE.call (ok_l_take T) hg (hr.mono (by omega)) rfl (SAr.cons (SE.var 0 rfl (by walk_at "vis")) (SAr.cons SE.int SAr.nil))) SE.int))))
  (SS.cons (S1.ret (SE.call (ok_l_stretch T) hg (hr.mono (by omega)) rfl (SAr.cons (SE.var 0 rfl (by walk_at "vis")) SAr.nil)))
  SS.nil)
  SS.nil)
  (SS.cons (S1.set 3 hnd rfl (by walk_at "loc") (by walk_at "loc") (SE.sub (SE.add (SE.call (ok_l_pick T) hg (hr.mono (by omega)) rfl (SAr.cons (SE.var 0 rfl (by walk_at "vis")) (SAr.cons (SE.var 2 rfl (by walk_at "vis")) SAr.nil))) (SE.call (ok_l_take T) hg (hr.mono (by omega)) rfl (SAr.cons (SE.var 0 rfl (by walk_at "vis")) (SAr.cons SE.int SAr.nil)))) SE.int))
  (SS.cons (S1.set 4 hnd rfl (by walk_at "loc") (by walk_at "loc") (SE.call (ok_l_take T) hg (hr.mono (by omega)) rfl (SAr.cons (SE.var 0 rfl (by walk_at "vis")) (SAr.cons SE.int SAr.nil))))
  (SS.cons (S1.ifS (ST.cmp rfl hr.units (SE.var 4 rfl (by walk_at "vis")) SE.int)
  (SS.cons (S1.ret (SE.ifE (ST.cmp rfl hr.units (SE.var 4 rfl (by walk_at "vis")) SE.int) (SE.tup (SAr.cons SE.non (SAr.cons (SE.var 3 rfl (by walk_at "vis")) SAr.nil))) (SE.tup (SAr.cons (SE.var 3 rfl (by walk_at "vis")) (SAr.cons SE.non SAr.nil)))))
  SS.nil)
  SS.nil)
  (SS.cons (S1.set 5 hnd rfl (by walk_at "loc") (by walk_at "loc") (SE.ifE (ST.cmp rfl hr.units (SE.var 4 rfl (by walk_at "vis")) SE.int) (SE.sub (SE.add (SE.call (ok_l_pick T) hg (hr.mono (by omega)) rfl (SAr.cons (SE.var 0 rfl (by walk_at "vis")) (SAr.cons (SE.var 2 rfl (by walk_at "vis")) SAr.nil))) (SE.call (ok_l_take T) hg (hr.mono (by omega)) rfl (SAr.cons (SE.var 0 rfl (by walk_at "vis")) (SAr.cons SE.int SAr.nil)))) SE.int) (SE.var 3 rfl (by walk_at "vis"))))
  (SS.cons (S1.ret (SE.tup (SAr.cons (SE.min2 rfl rfl T.n_min (SAr.cons (SE.var 3 rfl (by walk_at "vis")) (SAr.cons (SE.var 5 rfl (by walk_at "vis")) SAr.nil))) (SAr.cons (SE.max2 rfl rfl T.n_max (SAr.cons (SE.var 3 rfl (by walk_at "vis")) (SAr.cons (SE.var 5 rfl (by walk_at "vis")) SAr.nil))) SAr.nil))))
  SS.nil)))))))
theorem ok_l_near (T : Fx K mg) : Fn P w K mg base "_law_near" 5 (CtrOf V_l_near) := by
  obtain ⟨fd, F⟩ := T.d_l_near
  exact ⟨_, _, _, okG_l_near T F, T.g_l_near, F.kp, F.bindsN fun _ _ _ _ _ _ us hl => match us, hl with | [_, _], _ => rfl⟩
theorem okG_l_part (T : Fx K mg) {fd : FuncData} (F : FunD K dl_part.name dl_part.qual dl_part.params dl_part.body dl_part.scope (dl_part.dvs K) (dl_part.kws K) (He.fAd K dl_part.at_) fd) : FnG P w K mg base 3 (He.fAd K dl_part.at_) fd ["_law_source_here"] (SpD K (CtrOf V_l_part)) :=
  FnG.den (k := 2) F scl_part rfl fun cd A outer s H hg hr hnd =>
  (SS.cons (S1.set 1 hnd rfl (by walk_at "loc") (by walk_at "loc") (SE.call (ok_l_pick T) hg (hr.mono (by omega)) rfl (SAr.cons (SE.var 0 rfl (by walk_at "vis")) (SAr.cons (SE.tup (SAr.cons SE.int (SAr.cons SE.int (SAr.cons SE.int (SAr.cons SE.int (SAr.cons SE.int (SAr.cons SE.int (SAr.cons SE.int (SAr.cons SE.int (SAr.cons SE.int (SAr.cons SE.int SAr.nil))))))))))) SAr.nil))))
  (SS.cons (S1.set 2 hnd rfl (by walk_at "loc") (by walk_at "loc") (SE.call (ok_l_pick T) hg (hr.mono (by omega)) rfl (SAr.cons (SE.var 0 rfl (by walk_at "vis")) (SAr.cons (SE.tup (SAr.cons SE.int (SAr.cons SE.int (SAr.cons SE.int (SAr.cons SE.int SAr.nil))))) SAr.nil))))
  (SS.cons (S1.ret (SE.mul (SE.mul (SE.mul (SE.var 1 rfl (by walk_at "vis")) (SE.var 2 rfl (by walk_at "vis"))) (SE.call (ok_l_pick T) hg (hr.mono (by omega)) rfl (SAr.cons (SE.var 0 rfl (by walk_at "vis")) (SAr.cons (SE.tup (SAr.cons SE.int (SAr.cons SE.int (SAr.cons SE.int (SAr.cons SE.int SAr.nil))))) SAr.nil)))) (SE.call (ok_l_pick T) hg (hr.mono (by omega)) rfl (SAr.cons (SE.var 0 rfl (by walk_at "vis")) (SAr.cons (SE.tup (SAr.cons SE.int (SAr.cons SE.int (SAr.cons SE.int (SAr.cons SE.int SAr.nil))))) SAr.nil)))))
  SS.nil)))
theorem ok_l_part (T : Fx K mg) : Fn P w K mg base "_law_part" 3 (CtrOf V_l_part) := by
  obtain ⟨fd, F⟩ := T.d_l_part
  exact ⟨_, _, _, okG_l_part T F, T.g_l_part, F.kp, F.bindsN fun _ _ _ _ _ _ us hl => match us, hl with | [_], _ => rfl⟩
theorem okG_l_rest (T : Fx K mg) {fd : FuncData} (F : FunD K dl_rest.name dl_rest.qual dl_rest.params dl_rest.body dl_rest.scope (dl_rest.dvs K) (dl_rest.kws K) (He.fAd K dl_rest.at_) fd) : FnG P w K mg base 4 (He.fAd K dl_rest.at_) fd ["_law_source_here"] (SpD K (CtrOf V_l_rest)) :=
  FnG.den (k := 3) F scl_rest rfl fun cd A outer s H hg hr hnd =>
  (SS.cons (S1.set 1 hnd rfl (by walk_at "loc") (by walk_at "loc") (SE.call (ok_l_take T) hg (hr.mono (by omega)) rfl (SAr.cons (SE.var 0 rfl (by walk_at "vis")) (SAr.cons SE.int SAr.nil))))
  (SS.cons (S1.ifS (ST.cmp rfl hr.units (SE.var 1 rfl (by walk_at "vis")) SE.int)
  (SS.cons (S1.ret (SE.ifE (ST.cmp rfl hr.units (SE.var 1 rfl (by walk_at "vis")) SE.int) (SE.tup SAr.nil) (SE.tup (SAr.cons (SE.call (ok_l_number T) hg (hr.mono (by omega)) rfl (SAr.cons (SE.var 0 rfl (by walk_at "vis")) SAr.nil)) (SAr.cons SE.int SAr.nil)))))
  SS.nil)
  SS.nil)
  (SS.cons (S1.set 2 hnd rfl (by walk_at "loc") (by walk_at "loc") (SE.call (ok_l_part T) hg (hr.mono (by omega)) rfl (SAr.cons (SE.var 0 rfl (by walk_at "vis")) SAr.nil)))
  (SS.cons (S1.ret (SE.tup (SAr.cons (SE.call (ok_l_take T) hg (hr.mono (by omega)) rfl (SAr.cons (SE.var 0 rfl (by walk_at "vis")) (SAr.cons (SE.var 2 rfl (by walk_at "vis")) SAr.nil))) (SAr.cons (SE.var 2 rfl (by walk_at "vis")) SAr.nil))))
  SS.nil))))
theorem ok_l_rest (T : Fx K mg) : Fn P w K mg base "_law_rest" 4 (CtrOf V_l_rest) := by
  obtain ⟨fd, F⟩ := T.d_l_rest
  exact ⟨_, _, _, okG_l_rest T F, T.g_l_rest, F.kp, F.bindsN fun _ _ _ _ _ _ us hl => match us, hl with | [_], _ => rfl⟩
theorem okG_l_rest_near (T : Fx K mg) {fd : FuncData} (F : FunD K dl_rest_near.name dl_rest_near.qual dl_rest_near.params dl_rest_near.body dl_rest_near.scope (dl_rest_near.dvs K) (dl_rest_near.kws K) (He.fAd K dl_rest_near.at_) fd) : FnG P w K mg base 5 (He.fAd K dl_rest_near.at_) fd ["_law_source_here", "_law_one"] (SpD K (CtrOf V_l_rest_near)) :=
  FnG.den (k := 4) F scl_rest_near rfl fun cd A outer s H hg hr hnd =>
  (SS.cons (S1.ifS (ST.w (SW.or (ST.cmp rfl hr.units (SE.var 1 rfl (by walk_at "vis")) (SE.tup SAr.nil)) (SW.or1 (ST.cmp rfl hr.units (SE.call (ok_l_take T) hg (hr.mono (by omega)) rfl (SAr.cons (SE.var 0 rfl (by walk_at "vis")) (SAr.cons SE.int SAr.nil))) SE.int))))
  (SS.cons (S1.ret (SE.call (ok_l_rest T) hg (hr.mono (by omega)) rfl (SAr.cons (SE.var 0 rfl (by walk_at "vis")) SAr.nil)))
  SS.nil)
  SS.nil)
  (SS.cons (S1.set 2 hnd rfl (by walk_at "loc") (by walk_at "loc") (SE.add (SE.add (SE.ix (SE.var 1 rfl (by walk_at "vis")) SE.int) (SE.mul (SE.ix (SE.var 1 rfl (by walk_at "vis")) SE.int) (SE.sub (SE.call (ok_l_take T) hg (hr.mono (by omega)) rfl (SAr.cons (SE.var 0 rfl (by walk_at "vis")) (SAr.cons SE.int SAr.nil))) SE.int))) (SE.call (ok_l_pick T) hg (hr.mono (by omega)) rfl (SAr.cons (SE.var 0 rfl (by walk_at "vis")) (SAr.cons (SE.tup (SAr.cons SE.int (SAr.cons SE.int (SAr.cons SE.int (SAr.cons SE.int (SAr.cons (SE.fdiv (SE.ix (SE.var 1 rfl (by walk_at "vis")) SE.int) SE.int) SAr.nil)))))) SAr.nil)))))
  (SS.cons (S1.ifS (ST.cmp rfl hr.units (SE.call (ok_l_take T) hg (hr.mono (by omega)) rfl (SAr.cons (SE.var 0 rfl (by walk_at "vis")) (SAr.cons SE.int SAr.nil))) SE.int)
  (SS.cons (S1.ret (SE.tup (SAr.cons (SE.var 2 rfl (by walk_at "vis")) (SAr.cons SE.int SAr.nil))))
  SS.nil)
  SS.nil)
  (SS.cons (S1.set 3 hnd rfl (by walk_at "loc") (by walk_at "loc") (SE.call (ok_l_part T) hg (hr.mono (by omega)) rfl (SAr.cons (SE.var 0 rfl (by walk_at "vis")) SAr.nil)))
  (SS.cons (S1.ret (SE.tup (SAr.cons (SE.mod (SE.toInt rfl T.n_int (SAr.cons (SE.var 2 rfl (by walk_at "vis")) SAr.nil)) (SE.var 3 rfl (by walk_at "vis"))) (SAr.cons (SE.var 3 rfl (by walk_at "vis")) SAr.nil))))
  SS.nil)))))
theorem ok_l_rest_near (T : Fx K mg) : Fn P w K mg base "_law_rest_near" 5 (CtrOf V_l_rest_near) := by
  obtain ⟨fd, F⟩ := T.d_l_rest_near
  exact ⟨_, _, _, okG_l_rest_near T F, T.g_l_rest_near, F.kp, F.bindsN fun _ _ _ _ _ _ us hl => match us, hl with | [_, _], _ => rfl⟩
theorem okG_l_is_whole (T : Fx K mg) {fd : FuncData} (F : FunD K dl_is_whole.name dl_is_whole.qual dl_is_whole.params dl_is_whole.body dl_is_whole.scope (dl_is_whole.dvs K) (dl_is_whole.kws K) (He.fAd K dl_is_whole.at_) fd) : FnG P w K mg base 1 (He.fAd K dl_is_whole.at_) fd ["_law_thing"] (SpD K (CtrOf V_l_is_whole)) :=
  FnG.den (k := 0) F scl_is_whole rfl fun cd A outer s H hg hr hnd =>
  (SS.cons (S1.ret (SE.and (SE.isi rfl T.n_isinstance rfl T.n_int (by decide) (by decide +kernel) (by decide) (by decide) (SE.var 0 rfl (by walk_at "vis"))) (SE.one (SE.not (SE.isi rfl T.n_isinstance rfl T.n_bool (by decide) (by decide +kernel) (by decide) (by decide) (SE.var 0 rfl (by walk_at "vis")))))))
  SS.nil)
theorem ok_l_is_whole (T : Fx K mg) : Fn P w K mg base "_law_is_whole" 1 (CtrOf V_l_is_whole) := by
  obtain ⟨fd, F⟩ := T.d_l_is_whole
  exact ⟨_, _, _, okG_l_is_whole T F, T.g_l_is_whole, F.kp, F.bindsN fun _ _ _ _ _ _ us hl => match us, hl with | [_], _ => rfl⟩
theorem ok_l_same (T : Fx K mg) : ∀ n, Fn P w K mg base "_law_same" (n + 2) (CtrOf (V_l_same n))
  | 0 => by
    obtain ⟨fd, F⟩ := T.d_l_same
    exact Fn.mono (Fn.den (k := 0) F scl_same T.g_l_same rfl (fun _ _ _ _ _ _ us hl => match us, hl with | [_, _], _ => rfl) fun _ _ _ _ _ _ _ _ => SS.no) (by omega)
  | n + 1 => by
    obtain ⟨fd, F⟩ := T.d_l_same
    have ih := ok_l_same T n
    exact Fn.mono (Fn.den (k := n + 2) F scl_same T.g_l_same rfl (fun _ _ _ _ _ _ us hl => match us, hl with | [_, _], _ => rfl) fun cd A outer s H hg hr hnd =>
  (SS.cons (S1.ifS (ST.val (SE.isi rfl T.n_isinstance rfl T.n_tuple (by decide) (by decide +kernel) (by decide) (by decide) (SE.var 1 rfl (by walk_at "vis"))))
  (SS.cons (S1.ifS (ST.w (SW.or (ST.not (ST.val (SE.isi rfl T.n_isinstance rfl T.n_tuple (by decide) (by decide +kernel) (by decide) (by decide) (SE.var 0 rfl (by walk_at "vis"))))) (SW.or1 (ST.cmp rfl hr.units (SE.len rfl T.n_len (SAr.cons (SE.var 0 rfl (by walk_at "vis")) SAr.nil)) (SE.len rfl T.n_len (SAr.cons (SE.var 1 rfl (by walk_at "vis")) SAr.nil))))))
  (SS.cons (S1.ret SE.bl)
  SS.nil)
  SS.nil)
  (SS.cons (S1.ret (SE.all rfl rfl T.n_all (SAr.cons (SE.lc2 2 3 (by decide) rfl hnd rfl rfl (blkOk_by (by kernel_rfl)) (fun _ _ _ _ _ => rfl) (fun _ _ _ _ _ => ⟨by walk_at "loc", by walk_at "loc"⟩) (fun _ _ _ _ _ => ⟨by walk_at "loc", by walk_at "loc"⟩) (SI.zip rfl T.n_zip (SAr.cons (SE.var 0 rfl (by walk_at "vis")) (SAr.cons (SE.var 1 rfl (by walk_at "vis")) SAr.nil))) (fun _ _ _ _ _ => (SE.call ih hg (hr.mono (by omega)) rfl (SAr.cons (SE.var 2 rfl (by walk_at "vis")) (SAr.cons (SE.var 3 rfl (by walk_at "vis")) SAr.nil))))) SAr.nil)))
  SS.nil))
  SS.nil)
  (SS.cons (S1.ifS (ST.w (SW.or (ST.cmp rfl hr.units (SE.var 1 rfl (by walk_at "vis")) SE.non) (SW.or1 (ST.cmp rfl hr.units (SE.var 0 rfl (by walk_at "vis")) SE.non))))
  (SS.cons (S1.ret (SE.and (SE.cmp rfl hr.units (SE.var 1 rfl (by walk_at "vis")) SE.non) (SE.one (SE.cmp rfl hr.units (SE.var 0 rfl (by walk_at "vis")) SE.non))))
  SS.nil)
  SS.nil)
  (SS.cons (S1.ifS (ST.w (SW.or (ST.val (SE.isi rfl T.n_isinstance rfl T.n_bool (by decide) (by decide +kernel) (by decide) (by decide) (SE.var 1 rfl (by walk_at "vis")))) (SW.or1 (ST.val (SE.isi rfl T.n_isinstance rfl T.n_bool (by decide) (by decide +kernel) (by decide) (by decide) (SE.var 0 rfl (by walk_at "vis")))))))
  (SS.cons (S1.ret (SE.and (SE.isi rfl T.n_isinstance rfl T.n_bool (by decide) (by decide +kernel) (by decide) (by decide) (SE.var 1 rfl (by walk_at "vis"))) (SE.and (SE.isi rfl T.n_isinstance rfl T.n_bool (by decide) (by decide +kernel) (by decide) (by decide) (SE.var 0 rfl (by walk_at "vis"))) (SE.one (SE.cmp rfl hr.units (SE.var 0 rfl (by walk_at "vis")) (SE.var 1 rfl (by walk_at "vis")))))))
  SS.nil)
  SS.nil)
  (SS.cons (S1.ret (SE.and (SE.call (ok_l_is_whole T) hg (hr.mono (by omega)) rfl (SAr.cons (SE.var 0 rfl (by walk_at "vis")) SAr.nil)) (SE.one (SE.cmp rfl hr.units (SE.var 0 rfl (by walk_at "vis")) (SE.var 1 rfl (by walk_at "vis"))))))
  SS.nil))))) (by omega)
theorem okG_l_has (T : Fx K mg) {fd : FuncData} (F : FunD K dl_has.name dl_has.qual dl_has.params dl_has.body dl_has.scope (dl_has.dvs K) (dl_has.kws K) (He.fAd K dl_has.at_) fd) : FnG P w K mg base 1 (He.fAd K dl_has.at_) fd ["_law_one", "_law_count"] (SpD K (CtrOf V_l_has)) :=
  FnG.den (k := 0) F scl_has rfl fun cd A outer s H hg hr hnd =>
  (SS.cons (S1.ret (SE.and (SE.cmp rfl hr.units (SE.var 0 rfl (by walk_at "vis")) (SE.tup SAr.nil)) (SE.and (SE.or (SE.cmp rfl hr.units (SE.ix (SE.var 0 rfl (by walk_at "vis")) SE.int) SE.non) (SE.one (SE.cmp rfl hr.units (SE.ix (SE.var 0 rfl (by walk_at "vis")) SE.int) (SE.var 1 rfl (by walk_at "vis"))))) (SE.one (SE.or (SE.cmp rfl hr.units (SE.ix (SE.var 0 rfl (by walk_at "vis")) SE.int) SE.non) (SE.one (SE.cmp rfl hr.units (SE.var 1 rfl (by walk_at "vis")) (SE.ix (SE.var 0 rfl (by walk_at "vis")) SE.int))))))))
  SS.nil)
theorem ok_l_has (T : Fx K mg) : Fn P w K mg base "_law_has" 1 (CtrOf V_l_has) := by
  obtain ⟨fd, F⟩ := T.d_l_has
  exact ⟨_, _, _, okG_l_has T F, T.g_l_has, F.kp, F.bindsN fun _ _ _ _ _ _ us hl => match us, hl with | [_, _], _ => rfl⟩
theorem okG_l_rest_has (T : Fx K mg) {fd : FuncData} (F : FunD K dl_rest_has.name dl_rest_has.qual dl_rest_has.params dl_rest_has.body dl_rest_has.scope (dl_rest_has.dvs K) (dl_rest_has.kws K) (He.fAd K dl_rest_has.at_) fd) : FnG P w K mg base 1 (He.fAd K dl_rest_has.at_) fd ["_law_one", "_law_count"] (SpD K (CtrOf V_l_rest_has)) :=
  FnG.den (k := 0) F scl_rest_has rfl fun cd A outer s H hg hr hnd =>
  (SS.cons (S1.ret (SE.and (SE.cmp rfl hr.units (SE.var 0 rfl (by walk_at "vis")) (SE.tup SAr.nil)) (SE.one (SE.ifE (ST.cmp rfl hr.units (SE.ix (SE.var 0 rfl (by walk_at "vis")) SE.int) SE.int) (SE.cmp rfl hr.units (SE.ix (SE.var 0 rfl (by walk_at "vis")) SE.int) (SE.var 1 rfl (by walk_at "vis"))) (SE.cmp rfl hr.units (SE.mod (SE.toInt rfl T.n_int (SAr.cons (SE.var 1 rfl (by walk_at "vis")) SAr.nil)) (SE.ix (SE.var 0 rfl (by walk_at "vis")) SE.int)) (SE.ix (SE.var 0 rfl (by walk_at "vis")) SE.int))))))
  SS.nil)
theorem ok_l_rest_has (T : Fx K mg) : Fn P w K mg base "_law_rest_has" 1 (CtrOf V_l_rest_has) := by
  obtain ⟨fd, F⟩ := T.d_l_rest_has
  exact ⟨_, _, _, okG_l_rest_has T F, T.g_l_rest_has, F.kp, F.bindsN fun _ _ _ _ _ _ us hl => match us, hl with | [_, _], _ => rfl⟩
theorem okG_l_beside (T : Fx K mg) {fd : FuncData} (F : FunD K dl_beside.name dl_beside.qual dl_beside.params dl_beside.body dl_beside.scope (dl_beside.dvs K) (dl_beside.kws K) (He.fAd K dl_beside.at_) fd) : FnG P w K mg base 1 (He.fAd K dl_beside.at_) fd ["_law_ends"] (SpD K (CtrOf V_l_beside)) :=
  FnG.den (k := 0) F scl_beside rfl fun cd A outer s H hg hr hnd =>
  (SS.cons (S1.set 1 hnd rfl (by walk_at "loc") (by walk_at "loc") (SE.lst (SAr.cons SE.int SAr.nil)))
  (SS.cons (S1.for_ PassesOwn.never rfl (SI.seq (SE.var 0 rfl (by walk_at "vis"))) (SG.name 2 hnd rfl (by walk_at "loc") (by walk_at "loc"))
  (SS.cons (S1.ifS (ST.cmp rfl hr.units (SE.var 2 rfl (by walk_at "vis")) SE.non)
  (SS.cons (S1.set 1 hnd rfl (by walk_at "loc") (by walk_at "loc") (SE.add (SE.var 1 rfl (by walk_at "vis")) (SE.lst (SAr.cons (SE.sub (SE.var 2 rfl (by walk_at "vis")) SE.int) (SAr.cons (SE.var 2 rfl (by walk_at "vis")) (SAr.cons (SE.add (SE.var 2 rfl (by walk_at "vis")) SE.int) SAr.nil))))))
  SS.nil)
  SS.nil)
  SS.nil))
  (SS.cons (S1.ret (SE.var 1 rfl (by walk_at "vis")))
  SS.nil)))
theorem ok_l_beside (T : Fx K mg) : Fn P w K mg base "_law_beside" 1 (CtrOf V_l_beside) := by
  obtain ⟨fd, F⟩ := T.d_l_beside
  exact ⟨_, _, _, okG_l_beside T F, T.g_l_beside, F.kp, F.bindsN fun _ _ _ _ _ _ us hl => match us, hl with | [_], _ => rfl⟩
theorem okG_l_is_stretch (T : Fx K mg) {fd : FuncData} (F : FunD K dl_is_stretch.name dl_is_stretch.qual dl_is_stretch.params dl_is_stretch.body dl_is_stretch.scope (dl_is_stretch.dvs K) (dl_is_stretch.kws K) (He.fAd K dl_is_stretch.at_) fd) : FnG P w K mg base 2 (He.fAd K dl_is_stretch.at_) fd ["_law_thing"] (SpD K (CtrOf V_l_is_stretch)) :=
  FnG.den (k := 1) F scl_is_stretch rfl fun cd A outer s H hg hr hnd =>
  (SS.cons (S1.ifS (ST.w (SW.or (ST.not (ST.val (SE.isi rfl T.n_isinstance rfl T.n_tuple (by decide) (by decide +kernel) (by decide) (by decide) (SE.var 0 rfl (by walk_at "vis"))))) (SW.or1 (ST.cmp rfl hr.units (SE.len rfl T.n_len (SAr.cons (SE.var 0 rfl (by walk_at "vis")) SAr.nil)) SE.int))))
  (SS.cons (S1.ret (SE.and (SE.isi rfl T.n_isinstance rfl T.n_tuple (by decide) (by decide +kernel) (by decide) (by decide) (SE.var 0 rfl (by walk_at "vis"))) (SE.one (SE.cmp rfl hr.units (SE.len rfl T.n_len (SAr.cons (SE.var 0 rfl (by walk_at "vis")) SAr.nil)) SE.int))))
  SS.nil)
  SS.nil)
  (SS.cons (S1.ifS (ST.not (ST.val (SE.all rfl rfl T.n_all (SAr.cons (SE.lc 1 rfl hnd rfl (blkOk_by (by kernel_rfl)) (fun _ _ _ _ _ => ⟨by walk_at "loc", by walk_at "loc"⟩) (SI.seq (SE.var 0 rfl (by walk_at "vis"))) (fun _ _ _ _ _ => (SE.or (SE.cmp rfl hr.units (SE.var 1 rfl (by walk_at "vis")) SE.non) (SE.one (SE.call (ok_l_is_whole T) hg (hr.mono (by omega)) rfl (SAr.cons (SE.var 1 rfl (by walk_at "vis")) SAr.nil)))))) SAr.nil))))
  (SS.cons (S1.ret SE.bl)
  SS.nil)
  SS.nil)
  (SS.cons (S1.ret (SE.or (SE.cmp rfl hr.units (SE.ix (SE.var 0 rfl (by walk_at "vis")) SE.int) SE.non) (SE.or (SE.cmp rfl hr.units (SE.ix (SE.var 0 rfl (by walk_at "vis")) SE.int) SE.non) (SE.one (SE.cmp rfl hr.units (SE.ix (SE.var 0 rfl (by walk_at "vis")) SE.int) (SE.ix (SE.var 0 rfl (by walk_at "vis")) SE.int))))))
  SS.nil)))
theorem ok_l_is_stretch (T : Fx K mg) : Fn P w K mg base "_law_is_stretch" 2 (CtrOf V_l_is_stretch) := by
  obtain ⟨fd, F⟩ := T.d_l_is_stretch
  exact ⟨_, _, _, okG_l_is_stretch T F, T.g_l_is_stretch, F.kp, F.bindsN fun _ _ _ _ _ _ us hl => match us, hl with | [_], _ => rfl⟩
theorem okG_l_is_rest (T : Fx K mg) {fd : FuncData} (F : FunD K dl_is_rest.name dl_is_rest.qual dl_is_rest.params dl_is_rest.body dl_is_rest.scope (dl_is_rest.dvs K) (dl_is_rest.kws K) (He.fAd K dl_is_rest.at_) fd) : FnG P w K mg base 2 (He.fAd K dl_is_rest.at_) fd ["_law_thing"] (SpD K (CtrOf V_l_is_rest)) :=
  FnG.den (k := 1) F scl_is_rest rfl fun cd A outer s H hg hr hnd =>
  (SS.cons (S1.ifS (ST.w (SW.or (ST.not (ST.val (SE.isi rfl T.n_isinstance rfl T.n_tuple (by decide) (by decide +kernel) (by decide) (by decide) (SE.var 0 rfl (by walk_at "vis"))))) (SW.or1 (ST.cmp rfl hr.units (SE.len rfl T.n_len (SAr.cons (SE.var 0 rfl (by walk_at "vis")) SAr.nil)) SE.int))))
  (SS.cons (S1.ret (SE.and (SE.isi rfl T.n_isinstance rfl T.n_tuple (by decide) (by decide +kernel) (by decide) (by decide) (SE.var 0 rfl (by walk_at "vis"))) (SE.one (SE.cmp rfl hr.units (SE.len rfl T.n_len (SAr.cons (SE.var 0 rfl (by walk_at "vis")) SAr.nil)) SE.int))))
  SS.nil)
  SS.nil)
  (SS.cons (S1.ifS (ST.not (ST.val (SE.all rfl rfl T.n_all (SAr.cons (SE.lc 1 rfl hnd rfl (blkOk_by (by kernel_rfl)) (fun _ _ _ _ _ => ⟨by walk_at "loc", by walk_at "loc"⟩) (SI.seq (SE.var 0 rfl (by walk_at "vis"))) (fun _ _ _ _ _ => (SE.call (ok_l_is_whole T) hg (hr.mono (by omega)) rfl (SAr.cons (SE.var 1 rfl (by walk_at "vis")) SAr.nil)))) SAr.nil))))
  (SS.cons (S1.ret SE.bl)
  SS.nil)
  SS.nil)
  (SS.cons (S1.ifS (ST.cmp rfl hr.units (SE.ix (SE.var 0 rfl (by walk_at "vis")) SE.int) SE.int)
  (SS.cons (S1.ret (SE.cmp rfl hr.units (SE.ix (SE.var 0 rfl (by walk_at "vis")) SE.int) SE.int))
  SS.nil)
  SS.nil)
  (SS.cons (S1.ret (SE.and (SE.cmp rfl hr.units (SE.mod SE.int (SE.ix (SE.var 0 rfl (by walk_at "vis")) SE.int)) SE.int) (SE.one (SE.chain rfl rfl hr.units SE.int (SE.ix (SE.var 0 rfl (by walk_at "vis")) SE.int) (SE.ix (SE.var 0 rfl (by walk_at "vis")) SE.int)))))
  SS.nil))))
theorem ok_l_is_rest (T : Fx K mg) : Fn P w K mg base "_law_is_rest" 2 (CtrOf V_l_is_rest) := by
  obtain ⟨fd, F⟩ := T.d_l_is_rest
  exact ⟨_, _, _, okG_l_is_rest T F, T.g_l_is_rest, F.kp, F.bindsN fun _ _ _ _ _ _ us hl => match us, hl with | [_], _ => rfl⟩
theorem okG_l_odd (T : Fx K mg) {fd : FuncData} (F : FunD K dl_odd.name dl_odd.qual dl_odd.params dl_odd.body dl_odd.scope (dl_odd.dvs K) (dl_odd.kws K) (He.fAd K dl_odd.at_) fd) : FnG P w K mg base 3 (He.fAd K dl_odd.at_) fd ["_law_source_here"] (SpD K (CtrOf V_l_odd)) :=
  FnG.den (k := 2) F scl_odd rfl fun cd A outer s H hg hr hnd =>
  (SS.cons (S1.ret (SE.call (ok_l_pick T) hg (hr.mono (by omega)) rfl (SAr.cons (SE.var 0 rfl (by walk_at "vis")) (SAr.cons (SE.tup (SAr.cons SE.non (SAr.cons SE.bl (SAr.cons SE.bl (SAr.cons SE.int (SAr.cons SE.int (SAr.cons (SE.neg SE.int) (SAr.cons (SE.pow SE.int SE.int) (SAr.cons SE.str (SAr.cons SE.str (SAr.cons SE.str (SAr.cons (SE.tup SAr.nil) (SAr.cons (SE.tup (SAr.cons SE.int SAr.nil)) (SAr.cons (SE.tup (SAr.cons SE.int (SAr.cons SE.int SAr.nil))) (SAr.cons (SE.tup (SAr.cons SE.int (SAr.cons SE.int SAr.nil))) (SAr.cons (SE.tup (SAr.cons SE.int (SAr.cons SE.int SAr.nil))) (SAr.cons (SE.tup (SAr.cons SE.int (SAr.cons SE.int SAr.nil))) (SAr.cons (SE.tup (SAr.cons SE.non (SAr.cons SE.non SAr.nil))) (SAr.cons (SE.tup (SAr.cons SE.non (SAr.cons SE.int SAr.nil))) (SAr.cons (SE.tup (SAr.cons SE.int (SAr.cons SE.non SAr.nil))) (SAr.cons (SE.tup (SAr.cons SE.bl (SAr.cons SE.int SAr.nil))) (SAr.cons (SE.tup (SAr.cons SE.int (SAr.cons SE.bl SAr.nil))) (SAr.cons (SE.tup (SAr.cons SE.bl (SAr.cons SE.int SAr.nil))) (SAr.cons (SE.tup (SAr.cons SE.int (SAr.cons SE.int (SAr.cons SE.int SAr.nil)))) (SAr.cons (SE.tup (SAr.cons SE.int (SAr.cons SE.int SAr.nil))) (SAr.cons (SE.tup (SAr.cons SE.int (SAr.cons SE.int SAr.nil))) (SAr.cons (SE.tup (SAr.cons SE.int (SAr.cons SE.int SAr.nil))) (SAr.cons (SE.tup (SAr.cons SE.int (SAr.cons SE.int SAr.nil))) (SAr.cons (SE.tup (SAr.cons (SE.neg SE.int) (SAr.cons SE.int SAr.nil))) (SAr.cons (SE.tup (SAr.cons SE.int (SAr.cons (SE.neg SE.int) SAr.nil))) (SAr.cons (SE.tup (SAr.cons SE.non (SAr.cons SE.str SAr.nil))) (SAr.cons (SE.tup (SAr.cons SE.str (SAr.cons SE.int SAr.nil))) (SAr.cons (SE.tup (SAr.cons (SE.tup SAr.nil) (SAr.cons (SE.tup SAr.nil) SAr.nil))) (SAr.cons (SE.tup (SAr.cons SE.int (SAr.cons (SE.tup SAr.nil) SAr.nil))) (SAr.cons (SE.lst SAr.nil) (SAr.cons (SE.lst (SAr.cons SE.int (SAr.cons SE.int SAr.nil))) (SAr.cons (SE.lst (SAr.cons SE.non (SAr.cons SE.non SAr.nil))) (SAr.cons SE.dic0 (SAr.cons (SE.tup (SAr.cons (SE.tup (SAr.cons SE.int (SAr.cons SE.int SAr.nil))) SAr.nil)) SAr.nil))))))))))))))))))))))))))))))))))))))) SAr.nil))))
  SS.nil)
theorem ok_l_odd (T : Fx K mg) : Fn P w K mg base "_law_odd" 3 (CtrOf V_l_odd) := by
  obtain ⟨fd, F⟩ := T.d_l_odd
  exact ⟨_, _, _, okG_l_odd T F, T.g_l_odd, F.kp, F.bindsN fun _ _ _ _ _ _ us hl => match us, hl with | [_], _ => rfl⟩
theorem ok_l_bent (T : Fx K mg) : ∀ n, Fn P w K mg base "_law_bent" (n + 4) (CtrOf (V_l_bent n))
  | 0 => by
    obtain ⟨fd, F⟩ := T.d_l_bent
    exact Fn.mono (Fn.den (k := 0) F scl_bent T.g_l_bent rfl (fun _ _ _ _ _ _ us hl => match us, hl with | [_, _], _ => rfl) fun _ _ _ _ _ _ _ _ => SS.no) (by omega)
  | n + 1 => by
    obtain ⟨fd, F⟩ := T.d_l_bent
    have ih := ok_l_bent T n
    exact Fn.mono (Fn.den (k := n + 4) F scl_bent T.g_l_bent rfl (fun _ _ _ _ _ _ us hl => match us, hl with | [_, _], _ => rfl) fun cd A outer s H hg hr hnd =>
  (SS.cons (S1.ifS (ST.w (SW.and (ST.val (SE.isi rfl T.n_isinstance rfl T.n_tuple (by decide) (by decide +kernel) (by decide) (by decide) (SE.var 1 rfl (by walk_at "vis")))) (SW.and (ST.neB hr.units (SE.var 1 rfl (by walk_at "vis")) (SE.tup SAr.nil)) (SW.and1 (ST.cmp rfl hr.units (SE.call (ok_l_take T) hg (hr.mono (by omega)) rfl (SAr.cons (SE.var 0 rfl (by walk_at "vis")) (SAr.cons SE.int SAr.nil))) SE.int)))))
  (SS.cons (S1.set 2 hnd rfl (by walk_at "loc") (by walk_at "loc") (SE.call (ok_l_take T) hg (hr.mono (by omega)) rfl (SAr.cons (SE.var 0 rfl (by walk_at "vis")) (SAr.cons (SE.len rfl T.n_len (SAr.cons (SE.var 1 rfl (by walk_at "vis")) SAr.nil)) SAr.nil))))
  (SS.cons (S1.ret (SE.add (SE.add (SE.slice (SE.var 1 rfl (by walk_at "vis")) spN (spS (SE.var 2 rfl (by walk_at "vis")))) (SE.tup (SAr.cons (SE.call ih hg (hr.mono (by omega)) rfl (SAr.cons (SE.var 0 rfl (by walk_at "vis")) (SAr.cons (SE.ix (SE.var 1 rfl (by walk_at "vis")) (SE.var 2 rfl (by walk_at "vis"))) SAr.nil))) SAr.nil))) (SE.slice (SE.var 1 rfl (by walk_at "vis")) (spS (SE.addB (SE.var 2 rfl (by walk_at "vis")) SE.int)) spN)))
  SS.nil))
  SS.nil)
  (SS.cons (S1.set 3 hnd rfl (by walk_at "loc") (by walk_at "loc") (SE.call (ok_l_take T) hg (hr.mono (by omega)) rfl (SAr.cons (SE.var 0 rfl (by walk_at "vis")) (SAr.cons SE.int SAr.nil))))
  (SS.cons (S1.ifS (ST.w (SW.and (ST.val (SE.isi rfl T.n_isinstance rfl T.n_tuple (by decide) (by decide +kernel) (by decide) (by decide) (SE.var 1 rfl (by walk_at "vis")))) (SW.and1 (ST.cmp rfl hr.units (SE.var 3 rfl (by walk_at "vis")) SE.int))))
  (SS.cons (S1.ret (SE.ix (SE.tup (SAr.cons (SE.list rfl T.n_list (SAr.cons (SE.var 1 rfl (by walk_at "vis")) SAr.nil)) (SAr.cons (SE.slice (SE.var 1 rfl (by walk_at "vis")) spN (spS (SE.neg SE.int))) (SAr.cons (SE.add (SE.var 1 rfl (by walk_at "vis")) (SE.slice (SE.var 1 rfl (by walk_at "vis")) (spS (SE.neg SE.int)) spN)) (SAr.cons (SE.revA (SE.var 1 rfl (by walk_at "vis"))) (SAr.cons (SE.slice (SE.var 1 rfl (by walk_at "vis")) (spS SE.int) spN) (SAr.cons (SE.add (SE.slice (SE.var 1 rfl (by walk_at "vis")) spN (spS SE.int)) (SE.var 1 rfl (by walk_at "vis"))) SAr.nil))))))) (SE.var 3 rfl (by walk_at "vis"))))
  SS.nil)
  SS.nil)
  (SS.cons (S1.ifS (ST.w (SW.and (ST.val (SE.isi rfl T.n_isinstance rfl T.n_int (by decide) (by decide +kernel) (by decide) (by decide) (SE.var 1 rfl (by walk_at "vis")))) (SW.and1 (ST.cmp rfl hr.units (SE.var 3 rfl (by walk_at "vis")) SE.int))))
  (SS.cons (S1.ret (SE.ix (SE.tup (SAr.cons (SE.addB (SE.var 1 rfl (by walk_at "vis")) SE.int) (SAr.cons (SE.subB SE.int (SE.var 1 rfl (by walk_at "vis"))) (SAr.cons (SE.mulB SE.int (SE.var 1 rfl (by walk_at "vis"))) (SAr.cons (SE.subB (SE.var 1 rfl (by walk_at "vis")) SE.int) (SAr.cons (SE.cmp rfl hr.units (SE.var 1 rfl (by walk_at "vis")) SE.int) (SAr.cons (SE.strV rfl T.n_str (SAr.cons (SE.var 1 rfl (by walk_at "vis")) SAr.nil)) SAr.nil))))))) (SE.var 3 rfl (by walk_at "vis"))))
  SS.nil)
  SS.nil)
  (SS.cons (S1.ret (SE.call (ok_l_odd T) hg (hr.mono (by omega)) rfl (SAr.cons (SE.var 0 rfl (by walk_at "vis")) SAr.nil)))
  SS.nil)))))) (by omega)
theorem okG_l_value (T : Fx K mg) {fd : FuncData} (F : FunD K dl_value.name dl_value.qual dl_value.params dl_value.body dl_value.scope (dl_value.dvs K) (dl_value.kws K) (He.fAd K dl_value.at_) fd) : FnG P w K mg base 17 (He.fAd K dl_value.at_) fd ["_law_source_here"] (SpD K (CtrOf V_l_value)) :=
  FnG.den (k := 16) F scl_value rfl fun cd A outer s H hg hr hnd =>
  (SS.cons (S1.set 1 hnd rfl (by walk_at "loc") (by walk_at "loc") (SE.call (ok_l_take T) hg (hr.mono (by omega)) rfl (SAr.cons (SE.var 0 rfl (by walk_at "vis")) (SAr.cons SE.int SAr.nil))))
  (SS.cons (S1.ifS (ST.cmp rfl hr.units (SE.var 1 rfl (by walk_at "vis")) SE.int)
  (SS.cons (S1.ret (SE.call (ok_l_odd T) hg (hr.mono (by omega)) rfl (SAr.cons (SE.var 0 rfl (by walk_at "vis")) SAr.nil)))
  SS.nil)
  SS.nil)
  (SS.cons (S1.set 2 hnd rfl (by walk_at "loc") (by walk_at "loc") (SE.ifE (ST.cmp rfl hr.units (SE.var 1 rfl (by walk_at "vis")) SE.int) (SE.call (ok_l_stretch T) hg (hr.mono (by omega)) rfl (SAr.cons (SE.var 0 rfl (by walk_at "vis")) SAr.nil)) (SE.call (ok_l_rest T) hg (hr.mono (by omega)) rfl (SAr.cons (SE.var 0 rfl (by walk_at "vis")) SAr.nil))))
  (SS.cons (S1.ret (SE.ifE (ST.w (SW.or (ST.cmp rfl hr.units (SE.var 1 rfl (by walk_at "vis")) SE.int) (SW.or1 (ST.cmp rfl hr.units (SE.var 1 rfl (by walk_at "vis")) SE.int)))) (SE.var 2 rfl (by walk_at "vis")) (SE.call (ok_l_bent T 8) hg (hr.mono (by omega)) rfl (SAr.cons (SE.var 0 rfl (by walk_at "vis")) (SAr.cons (SE.var 2 rfl (by walk_at "vis")) SAr.nil)))))
  SS.nil))))
theorem ok_l_value (T : Fx K mg) : Fn P w K mg base "_law_value" 17 (CtrOf V_l_value) := by
  obtain ⟨fd, F⟩ := T.d_l_value
  exact ⟨_, _, _, okG_l_value T F, T.g_l_value, F.kp, F.bindsN fun _ _ _ _ _ _ us hl => match us, hl with | [_], _ => rfl⟩
theorem okW_is_rest_value (T : Fx K mg) : FnW P w K mg base "is_rest" 3 (CtrOf V_is_rest) ["value"] [0] := by
  obtain ⟨fd, F⟩ := T.d_is_rest
  exact FnW.mk F (okG_is_rest T F) T.g_is_rest ["value"] [0] fun _ _ _ _ _ _ us hl => match us, hl with | [_], _ => rfl

theorem okW_is_stretch_value (T : Fx K mg) : FnW P w K mg base "is_stretch" 4 (CtrOf V_is_stretch) ["value"] [0] := by
  obtain ⟨fd, F⟩ := T.d_is_stretch
  exact FnW.mk F (okG_is_stretch T F) T.g_is_stretch ["value"] [0] fun _ _ _ _ _ _ us hl => match us, hl with | [_], _ => rfl

theorem okG_l_values_right (T : Fx K mg) {fd : FuncData} (F : FunD K dl_values_right.name dl_values_right.qual dl_values_right.params dl_values_right.body dl_values_right.scope (dl_values_right.dvs K) (dl_values_right.kws K) (He.fAd K dl_values_right.at_) fd) : FnG P w K mg base 18 (He.fAd K dl_values_right.at_) fd ["_law_source_here"] (SpD K (CtrOf V_l_values_right)) :=
  FnG.den (k := 17) F scl_values_right rfl fun cd A outer s H hg hr hnd =>
  (SS.cons (S1.for_ PassesOwn.never rfl (SI.range1 rfl T.n_range (SAr.cons SE.int SAr.nil)) (SG.name 1 hnd rfl (by walk_at "loc") (by walk_at "loc"))
  (SS.cons (S1.set 2 hnd rfl (by walk_at "loc") (by walk_at "loc") (SE.call (ok_l_value T) hg (hr.mono (by omega)) rfl (SAr.cons (SE.var 0 rfl (by walk_at "vis")) SAr.nil)))
  (SS.cons (S1.set 3 hnd rfl (by walk_at "loc") (by walk_at "loc") (SE.tup (SAr.cons (SE.call (ok_l_is_stretch T) hg (hr.mono (by omega)) rfl (SAr.cons (SE.var 2 rfl (by walk_at "vis")) SAr.nil)) (SAr.cons (SE.call (ok_l_is_stretch T) hg (hr.mono (by omega)) rfl (SAr.cons (SE.var 2 rfl (by walk_at "vis")) SAr.nil)) (SAr.cons (SE.call (ok_l_is_rest T) hg (hr.mono (by omega)) rfl (SAr.cons (SE.var 2 rfl (by walk_at "vis")) SAr.nil)) (SAr.cons (SE.call (ok_l_is_rest T) hg (hr.mono (by omega)) rfl (SAr.cons (SE.var 2 rfl (by walk_at "vis")) SAr.nil)) SAr.nil))))))
  (SS.cons (S1.ifS (ST.not (ST.val (SE.call (ok_l_same T 8) hg (hr.mono (by omega)) rfl (SAr.cons (SE.tup (SAr.cons (SE.call (ok_is_stretch T) hg (hr.mono (by omega)) rfl (SAr.cons (SE.var 2 rfl (by walk_at "vis")) SAr.nil)) (SAr.cons (SE.callW (okW_is_stretch_value T) hg (hr.mono (by omega)) rfl rfl (SK.cons (SE.var 2 rfl (by walk_at "vis")) SK.nil)) (SAr.cons (SE.call (ok_is_rest T) hg (hr.mono (by omega)) rfl (SAr.cons (SE.var 2 rfl (by walk_at "vis")) SAr.nil)) (SAr.cons (SE.callW (okW_is_rest_value T) hg (hr.mono (by omega)) rfl rfl (SK.cons (SE.var 2 rfl (by walk_at "vis")) SK.nil)) SAr.nil))))) (SAr.cons (SE.var 3 rfl (by walk_at "vis")) SAr.nil)))))
  (SS.cons (S1.ret SE.bl)
  SS.nil)
  SS.nil)
  SS.nil))))
  (SS.cons (S1.ret SE.bl)
  SS.nil))
theorem ok_l_values_right (T : Fx K mg) : Fn P w K mg base "_law_values_right" 18 (CtrOf V_l_values_right) := by
  obtain ⟨fd, F⟩ := T.d_l_values_right
  exact ⟨_, _, _, okG_l_values_right T F, T.g_l_values_right, F.kp, F.bindsN fun _ _ _ _ _ _ us hl => match us, hl with | [_], _ => rfl⟩
theorem okW_stretch_holds_number_stretch (T : Fx K mg) : FnW P w K mg base "stretch_holds" 5 (CtrOf V_stretch_holds) ["number", "stretch"] [1, 0] := by
  obtain ⟨fd, F⟩ := T.d_stretch_holds
  exact FnW.mk F (okG_stretch_holds T F) T.g_stretch_holds ["number", "stretch"] [1, 0] fun _ _ _ _ _ _ us hl => match us, hl with | [_, _], _ => rfl

theorem okG_l_stretches_right (T : Fx K mg) {fd : FuncData} (F : FunD K dl_stretches_right.name dl_stretches_right.qual dl_stretches_right.params dl_stretches_right.body dl_stretches_right.scope (dl_stretches_right.dvs K) (dl_stretches_right.kws K) (He.fAd K dl_stretches_right.at_) fd) : FnG P w K mg base 15 (He.fAd K dl_stretches_right.at_) fd ["_law_source_here"] (SpD K (CtrOf V_l_stretches_right)) :=
  FnG.den (k := 14) F scl_stretches_right rfl fun cd A outer s H hg hr hnd =>
  (SS.cons (S1.set 1 hnd rfl (by walk_at "loc") (by walk_at "loc") (SE.call (ok_l_stretch T) hg (hr.mono (by omega)) rfl (SAr.cons (SE.var 0 rfl (by walk_at "vis")) SAr.nil)))
  (SS.cons (S1.set 2 hnd rfl (by walk_at "loc") (by walk_at "loc") (SE.call (ok_l_near T) hg (hr.mono (by omega)) rfl (SAr.cons (SE.var 0 rfl (by walk_at "vis")) (SAr.cons (SE.var 1 rfl (by walk_at "vis")) SAr.nil))))
  (SS.cons (S1.par 3 4 rfl hnd rfl rfl (by decide) rfl rfl (SAr.cons (SE.add (SE.call (ok_l_beside T) hg (hr.mono (by omega)) rfl (SAr.cons (SE.add (SE.var 1 rfl (by walk_at "vis")) (SE.var 2 rfl (by walk_at "vis"))) SAr.nil)) (SE.lst (SAr.cons (SE.call (ok_l_number T) hg (hr.mono (by omega)) rfl (SAr.cons (SE.var 0 rfl (by walk_at "vis")) SAr.nil)) SAr.nil))) (SAr.cons SE.bl SAr.nil)))
  (SS.cons (S1.for_ PassesOwn.never rfl (SI.seq (SE.var 3 rfl (by walk_at "vis"))) (SG.name 5 hnd rfl (by walk_at "loc") (by walk_at "loc"))
  (SS.cons (S1.set 6 hnd rfl (by walk_at "loc") (by walk_at "loc") (SE.tup (SAr.cons (SE.call (ok_l_has T) hg (hr.mono (by omega)) rfl (SAr.cons (SE.var 1 rfl (by walk_at "vis")) (SAr.cons (SE.var 5 rfl (by walk_at "vis")) SAr.nil))) (SAr.cons (SE.call (ok_l_has T) hg (hr.mono (by omega)) rfl (SAr.cons (SE.var 2 rfl (by walk_at "vis")) (SAr.cons (SE.var 5 rfl (by walk_at "vis")) SAr.nil))) (SAr.cons (SE.call (ok_l_has T) hg (hr.mono (by omega)) rfl (SAr.cons (SE.var 1 rfl (by walk_at "vis")) (SAr.cons (SE.var 5 rfl (by walk_at "vis")) SAr.nil))) SAr.nil)))))
  (SS.cons (S1.set 7 hnd rfl (by walk_at "loc") (by walk_at "loc") (SE.tup (SAr.cons (SE.call (ok_stretch_holds T) hg (hr.mono (by omega)) rfl (SAr.cons (SE.var 1 rfl (by walk_at "vis")) (SAr.cons (SE.var 5 rfl (by walk_at "vis")) SAr.nil))) (SAr.cons (SE.call (ok_stretch_holds T) hg (hr.mono (by omega)) rfl (SAr.cons (SE.var 2 rfl (by walk_at "vis")) (SAr.cons (SE.var 5 rfl (by walk_at "vis")) SAr.nil))) (SAr.cons (SE.callW (okW_stretch_holds_number_stretch T) hg (hr.mono (by omega)) rfl rfl (SK.cons (SE.var 5 rfl (by walk_at "vis")) (SK.cons (SE.var 1 rfl (by walk_at "vis")) SK.nil))) SAr.nil)))))
  (SS.cons (S1.ifS (ST.not (ST.val (SE.call (ok_l_same T 8) hg (hr.mono (by omega)) rfl (SAr.cons (SE.var 7 rfl (by walk_at "vis")) (SAr.cons (SE.var 6 rfl (by walk_at "vis")) SAr.nil)))))
  (SS.cons (S1.ret SE.bl)
  SS.nil)
  SS.nil)
  (SS.cons (S1.set 4 hnd rfl (by walk_at "loc") (by walk_at "loc") (SE.or (SE.var 4 rfl (by walk_at "vis")) (SE.one (SE.cmp rfl hr.units (SE.ix (SE.var 7 rfl (by walk_at "vis")) SE.int) (SE.ix (SE.var 7 rfl (by walk_at "vis")) SE.int)))))
  SS.nil)))))
  (SS.cons (S1.ret (SE.cmp rfl hr.units (SE.var 4 rfl (by walk_at "vis")) (SE.cmp rfl hr.units (SE.var 1 rfl (by walk_at "vis")) (SE.var 2 rfl (by walk_at "vis")))))
  SS.nil)))))
theorem ok_l_stretches_right (T : Fx K mg) : Fn P w K mg base "_law_stretches_right" 15 (CtrOf V_l_stretches_right) := by
  obtain ⟨fd, F⟩ := T.d_l_stretches_right
  exact ⟨_, _, _, okG_l_stretches_right T F, T.g_l_stretches_right, F.kp, F.bindsN fun _ _ _ _ _ _ us hl => match us, hl with | [_], _ => rfl⟩
theorem okW_rest_holds_number_rest (T : Fx K mg) : FnW P w K mg base "rest_holds" 4 (CtrOf V_rest_holds) ["number", "rest"] [1, 0] := by
  obtain ⟨fd, F⟩ := T.d_rest_holds
  exact FnW.mk F (okG_rest_holds T F) T.g_rest_holds ["number", "rest"] [1, 0] fun _ _ _ _ _ _ us hl => match us, hl with | [_, _], _ => rfl

theorem okG_l_rests_right (T : Fx K mg) {fd : FuncData} (F : FunD K dl_rests_right.name dl_rests_right.qual dl_rests_right.params dl_rests_right.body dl_rests_right.scope (dl_rests_right.dvs K) (dl_rests_right.kws K) (He.fAd K dl_rests_right.at_) fd) : FnG P w K mg base 15 (He.fAd K dl_rests_right.at_) fd ["_law_source_here"] (SpD K (CtrOf V_l_rests_right)) :=
  FnG.den (k := 14) F scl_rests_right rfl fun cd A outer s H hg hr hnd =>
  (SS.cons (S1.set 1 hnd rfl (by walk_at "loc") (by walk_at "loc") (SE.call (ok_l_rest T) hg (hr.mono (by omega)) rfl (SAr.cons (SE.var 0 rfl (by walk_at "vis")) SAr.nil)))
  (SS.cons (S1.set 2 hnd rfl (by walk_at "loc") (by walk_at "loc") (SE.call (ok_l_rest_near T) hg (hr.mono (by omega)) rfl (SAr.cons (SE.var 0 rfl (by walk_at "vis")) (SAr.cons (SE.var 1 rfl (by walk_at "vis")) SAr.nil))))
  (SS.cons (S1.par 3 4 rfl hnd rfl rfl (by decide) rfl rfl (SAr.cons (SE.lst (SAr.cons (SE.call (ok_l_number T) hg (hr.mono (by omega)) rfl (SAr.cons (SE.var 0 rfl (by walk_at "vis")) SAr.nil)) (SAr.cons SE.int (SAr.cons SE.int SAr.nil)))) (SAr.cons SE.bl SAr.nil)))
  (SS.cons (S1.for_ PassesOwn.never rfl (SI.seq (SE.tup (SAr.cons (SE.var 1 rfl (by walk_at "vis")) (SAr.cons (SE.var 2 rfl (by walk_at "vis")) SAr.nil)))) (SG.name 5 hnd rfl (by walk_at "loc") (by walk_at "loc"))
  (SS.cons (S1.ifS (ST.cmp rfl hr.units (SE.var 5 rfl (by walk_at "vis")) (SE.tup SAr.nil))
  (SS.cons (S1.set 3 hnd rfl (by walk_at "loc") (by walk_at "loc") (SE.add (SE.var 3 rfl (by walk_at "vis")) (SE.lst (SAr.cons (SE.ix (SE.var 5 rfl (by walk_at "vis")) SE.int) (SAr.cons (SE.add (SE.ix (SE.var 5 rfl (by walk_at "vis")) SE.int) (SE.ix (SE.var 5 rfl (by walk_at "vis")) SE.int)) (SAr.cons (SE.sub (SE.ix (SE.var 5 rfl (by walk_at "vis")) SE.int) (SE.ix (SE.var 5 rfl (by walk_at "vis")) SE.int)) (SAr.cons (SE.add (SE.ix (SE.var 5 rfl (by walk_at "vis")) SE.int) SE.int) (SAr.cons (SE.add (SE.ix (SE.var 5 rfl (by walk_at "vis")) SE.int) SE.int) SAr.nil))))))))
  SS.nil)
  SS.nil)
  SS.nil))
  (SS.cons (S1.for_ PassesOwn.never rfl (SI.seq (SE.var 3 rfl (by walk_at "vis"))) (SG.name 6 hnd rfl (by walk_at "loc") (by walk_at "loc"))
  (SS.cons (S1.set 7 hnd rfl (by walk_at "loc") (by walk_at "loc") (SE.tup (SAr.cons (SE.call (ok_l_rest_has T) hg (hr.mono (by omega)) rfl (SAr.cons (SE.var 1 rfl (by walk_at "vis")) (SAr.cons (SE.var 6 rfl (by walk_at "vis")) SAr.nil))) (SAr.cons (SE.call (ok_l_rest_has T) hg (hr.mono (by omega)) rfl (SAr.cons (SE.var 2 rfl (by walk_at "vis")) (SAr.cons (SE.var 6 rfl (by walk_at "vis")) SAr.nil))) (SAr.cons (SE.call (ok_l_rest_has T) hg (hr.mono (by omega)) rfl (SAr.cons (SE.var 1 rfl (by walk_at "vis")) (SAr.cons (SE.var 6 rfl (by walk_at "vis")) SAr.nil))) SAr.nil)))))
  (SS.cons (S1.set 8 hnd rfl (by walk_at "loc") (by walk_at "loc") (SE.tup (SAr.cons (SE.call (ok_rest_holds T) hg (hr.mono (by omega)) rfl (SAr.cons (SE.var 1 rfl (by walk_at "vis")) (SAr.cons (SE.var 6 rfl (by walk_at "vis")) SAr.nil))) (SAr.cons (SE.call (ok_rest_holds T) hg (hr.mono (by omega)) rfl (SAr.cons (SE.var 2 rfl (by walk_at "vis")) (SAr.cons (SE.var 6 rfl (by walk_at "vis")) SAr.nil))) (SAr.cons (SE.callW (okW_rest_holds_number_rest T) hg (hr.mono (by omega)) rfl rfl (SK.cons (SE.var 6 rfl (by walk_at "vis")) (SK.cons (SE.var 1 rfl (by walk_at "vis")) SK.nil))) SAr.nil)))))
  (SS.cons (S1.ifS (ST.not (ST.val (SE.call (ok_l_same T 8) hg (hr.mono (by omega)) rfl (SAr.cons (SE.var 8 rfl (by walk_at "vis")) (SAr.cons (SE.var 7 rfl (by walk_at "vis")) SAr.nil)))))
  (SS.cons (S1.ret SE.bl)
  SS.nil)
  SS.nil)
  (SS.cons (S1.set 4 hnd rfl (by walk_at "loc") (by walk_at "loc") (SE.or (SE.var 4 rfl (by walk_at "vis")) (SE.one (SE.cmp rfl hr.units (SE.ix (SE.var 8 rfl (by walk_at "vis")) SE.int) (SE.ix (SE.var 8 rfl (by walk_at "vis")) SE.int)))))
  SS.nil)))))
  (SS.cons (S1.ret (SE.cmp rfl hr.units (SE.var 4 rfl (by walk_at "vis")) (SE.cmp rfl hr.units (SE.var 1 rfl (by walk_at "vis")) (SE.var 2 rfl (by walk_at "vis")))))
  SS.nil))))))
theorem ok_l_rests_right (T : Fx K mg) : Fn P w K mg base "_law_rests_right" 15 (CtrOf V_l_rests_right) := by
  obtain ⟨fd, F⟩ := T.d_l_rests_right
  exact ⟨_, _, _, okG_l_rests_right T F, T.g_l_rests_right, F.kp, F.bindsN fun _ _ _ _ _ _ us hl => match us, hl with | [_], _ => rfl⟩
theorem okG_l_right (T : Fx K mg) {fd : FuncData} (F : FunD K dl_right.name dl_right.qual dl_right.params dl_right.body dl_right.scope (dl_right.dvs K) (dl_right.kws K) (He.fAd K dl_right.at_) fd) : FnG P w K mg base 19 (He.fAd K dl_right.at_) fd ["_law_source_here"] (SpD K (CtrOf V_l_right)) :=
  FnG.den (k := 18) F scl_right rfl fun cd A outer s H hg hr hnd =>
  (SS.cons (S1.ret (SE.and (SE.call (ok_l_values_right T) hg (hr.mono (by omega)) rfl (SAr.cons (SE.var 0 rfl (by walk_at "vis")) SAr.nil)) (SE.and (SE.call (ok_l_stretches_right T) hg (hr.mono (by omega)) rfl (SAr.cons (SE.var 0 rfl (by walk_at "vis")) SAr.nil)) (SE.one (SE.call (ok_l_rests_right T) hg (hr.mono (by omega)) rfl (SAr.cons (SE.var 0 rfl (by walk_at "vis")) SAr.nil))))))
  SS.nil)
theorem ok_l_right (T : Fx K mg) : Fn P w K mg base "_law_right" 19 (CtrOf V_l_right) := by
  obtain ⟨fd, F⟩ := T.d_l_right
  exact ⟨_, _, _, okG_l_right T F, T.g_l_right, F.kp, F.bindsN fun _ _ _ _ _ _ us hl => match us, hl with | [_], _ => rfl⟩
theorem okG_l_law (T : Fx K mg) {fd : FuncData} (F : FunD K dl_law.name dl_law.qual dl_law.params dl_law.body dl_law.scope (dl_law.dvs K) (dl_law.kws K) (He.fAd K dl_law.at_) fd) : FnG P w K mg base 20 (He.fAd K dl_law.at_) fd ["_law_script"] (SpD K (CtrOf V_l_law)) :=
  FnG.den (k := 19) F scl_law rfl fun cd A outer s H hg hr hnd =>
  (SS.cons (S1.ret (SE.all rfl rfl T.n_all (SAr.cons (SE.lc 1 rfl hnd rfl (blkOk_by (by kernel_rfl)) (fun _ _ _ _ _ => ⟨by walk_at "loc", by walk_at "loc"⟩) (SI.range1 rfl T.n_range (SAr.cons (SE.max2 rfl rfl T.n_max (SAr.cons SE.int (SAr.cons (SE.min2 rfl rfl T.n_min (SAr.cons (SE.len rfl T.n_len (SAr.cons (SE.var 0 rfl (by walk_at "vis")) SAr.nil)) (SAr.cons SE.int SAr.nil))) SAr.nil))) SAr.nil)) (fun _ _ _ _ _ => (SE.cut (SE.call (ok_l_right T) hg (hr.mono (by omega)) rfl (SAr.cons (SE.call (ok_l_source T) hg (hr.mono (by omega)) rfl (SAr.cons (SE.var 0 rfl (by walk_at "vis")) (SAr.cons (SE.var 1 rfl (by walk_at "vis")) SAr.nil))) SAr.nil))))) SAr.nil)))
  SS.nil)
end
end Lw

namespace Lw
open PySem PySem.Spec L2 Eg
local macro_rules | `(tactic| walk_at "ex") => `(tactic| simp [eFn, startD, esCons, sRet, esIf, sNil, sSet, sAsg, sExp, sPar2, sPar3, dVar, dC, dOp2, dCall, dBlt, dTup, dLst, dLstM, eIf, eAnd, eOr, eNot, eNeg, dIsi, eChain, aCons, aNil, gTu, gAnd, gNm, gSb, gEnd, dSl, runP, sFor, forL_nil, forL_cons, iSeq, iRange1, iRange2, oDiv_ok, oMod_ok, oPow_ok, oSub, oLt, oLe, oGt, oGe, oEq, oNe, oIs, oIsnt, xIx_t, xIx_l, xIx_m, xIx_s, oLen, oInt, oAbs, oMM, oTuple, oDivmod, oInN, flatL, DV.flat, dCallW, permI, oAll, blsD, oMax1, oMin1, maxI, minI, intsD, inV1, inV2, eqV, DV.isN, eqvD, eqvL, shD, shL, xItems_t, xItems_l, xItems_m, xLen_t, xLen_l, xLen_m, xLen_s, atI, ixN, DV.ty, kitT, sl_eq, *])
/-! ### the lesser and the greater one -/
@[simp] theorem ite_mn (a b : Int) : (if b < a then b else a) = min a b := by omega
@[simp] theorem ite_mx (a b : Int) : (if a < b then b else a) = max a b := by omega
@[simp] theorem dec_nlt (a b : Int) : (!decide (a < b)) = decide (b ≤ a) := by
  by_cases h : a < b
  · rw [decide_eq_true h, decide_eq_false (by omega)]; rfl
  · rw [decide_eq_false h, decide_eq_true (by omega)]; rfl
@[simp] theorem dec_nle (a b : Int) : (!decide (a ≤ b)) = decide (b < a) := by
  by_cases h : a ≤ b
  · rw [decide_eq_true h, decide_eq_false (by omega)]; rfl
  · rw [decide_eq_false h, decide_eq_true (by omega)]; rfl
@[simp] theorem ite_bl_and {c : Prop} [Decidable c] (b : Bool) (μ : List MO) : (if c then some (DV.bl b, μ) else some (DV.bl false, μ)) = some (.bl (decide c && b), μ) := by
  by_cases h : c <;> simp [h]
@[simp] theorem ite_bl_or {c : Prop} [Decidable c] (b : Bool) (μ : List MO) : (if c then some (DV.bl true, μ) else some (DV.bl b, μ)) = some (.bl (decide c || b), μ) := by
  by_cases h : c <;> simp [h]
/-! ### stretches -/
def oi : Option Int → DV
  | none => .non
  | some i => .int i
abbrev Sp := Option (Option Int × Option Int)
def eS : Sp → DV
  | none => .tup []
  | some (l, h) => .tup [oi l, oi h]
theorem ite_eS {c : Prop} [Decidable c] {d d' : DV} {s s' : Sp} {μ : List MO} (h : d = eS s) (h' : d' = eS s') : (if c then some (d, μ) else some (d', μ)) = some (eS (if c then s else s'), μ) := by
  subst h h'
  split <;> rfl
def wS : Sp → Prop
  | some (some l, some h) => l ≤ h
  | _ => True
def loI (l : Option Int) (x : Int) : Bool := match l with
  | none => true
  | some l => decide (l ≤ x)
def hiI (h : Option Int) (x : Int) : Bool := match h with
  | none => true
  | some h => decide (x ≤ h)
def holds (s : Sp) (x : Int) : Bool := match s with
  | none => false
  | some (l, h) => loI l x && hiI h x
/-- one low end is below another one -/
def lowB : Option Int → Option Int → Bool
  | _, none => false
  | none, some _ => true
  | some a, some b => decide (a < b)
def highB : Option Int → Option Int → Bool
  | _, none => false
  | none, some _ => true
  | some a, some b => decide (b < a)
def within (s t : Sp) : Bool := match s, t with
  | none, _ => true
  | some _, none => false
  | some (a, b), some (c, d) => !lowB a c && !highB b d
def minL : Option Int → Option Int → Option Int
  | some a, some b => some (min a b)
  | _, _ => none
def maxH : Option Int → Option Int → Option Int
  | some a, some b => some (max a b)
  | _, _ => none
def maxL : Option Int → Option Int → Option Int
  | some a, some b => some (max a b)
  | some a, none => some a
  | none, b => b
def minH : Option Int → Option Int → Option Int
  | some a, some b => some (min a b)
  | some a, none => some a
  | none, b => b
def join (s t : Sp) : Sp := match s, t with
  | none, t => t
  | s, none => s
  | some (a, b), some (c, d) => some (minL a c, maxH b d)
def fromE (l h : Option Int) : Sp := match l, h with
  | some l, some h => if h < l then none else some (some l, some h)
  | l, h => some (l, h)
def meet (s t : Sp) : Sp := match s, t with
  | some (a, b), some (c, d) => fromE (maxL a c) (minH b d)
  | _, _ => none
variable {μ : List MO}
@[simp] theorem is_whole_i (i : Int) : V_is_whole [.int i] μ = some (.bl true, μ) := by
  unfold V_is_whole D_is_whole; walk_at "ex"
@[simp] theorem is_end_oi (o : Option Int) : V_is_end [oi o] μ = some (.bl true, μ) := by
  unfold V_is_end D_is_end; cases o <;> (simp only [oi]; walk_at "ex")
@[simp] theorem span_holds_ok (s : Sp) (x : Int) : V_span_holds [eS s, .int x] μ = some (.bl (holds s x), μ) := by
  unfold V_span_holds D_span_holds
  match s with
  | none => simp only [eS]; walk_at "ex"; rfl
  | some (none, none) => simp only [eS, oi]; walk_at "ex"; rfl
  | some (some l, none) => simp only [eS, oi]; walk_at "ex"; simp [holds, loI, hiI]
  | some (none, some h) => simp only [eS, oi]; walk_at "ex"; simp [holds, loI, hiI]
  | some (some l, some h) => simp only [eS, oi]; walk_at "ex"; simp [holds, loI, hiI]
@[simp] theorem low_ok (a b : Option Int) : V_is_lesser_low [oi a, oi b] μ = some (.bl (lowB a b), μ) := by
  unfold V_is_lesser_low D_is_lesser_low
  cases a <;> cases b <;> (simp only [oi]; walk_at "ex"; rfl)
@[simp] theorem high_ok (a b : Option Int) : V_is_greater_high [oi a, oi b] μ = some (.bl (highB a b), μ) := by
  unfold V_is_greater_high D_is_greater_high
  cases a <;> cases b <;> (simp only [oi]; walk_at "ex"; rfl)
@[simp] theorem sh_oi (n : Nat) (o : Option Int) : shD n (oi o) = true := by cases n <;> cases o <;> rfl
@[simp] theorem eqv_empty (s : Sp) : eqvD (eS s) (.tup []) = s.isNone := by
  match s with
  | none => rfl
  | some (l, h) => rfl
@[simp] theorem sh_eS (n : Nat) (s : Sp) : shD (n + 1) (eS s) = true := by
  match s with
  | none => rfl
  | some (l, h) => simp [eS, shD, shL]
@[simp] theorem span_within_ok (s t : Sp) : V_span_within [eS s, eS t] μ = some (.bl (within s t), μ) := by
  unfold V_span_within D_span_within
  match s, t with
  | none, none => simp only [eS]; walk_at "ex"; rfl
  | none, some (c, d) => simp only [eS]; walk_at "ex"; rfl
  | some (a, b), none => simp only [eS]; walk_at "ex"; rfl
  | some (a, b), some (c, d) =>
    simp only [eS]; walk_at "ex"; simp [within]
@[simp] theorem span_joined_ok (s t : Sp) : V_span_joined [eS s, eS t] μ = some (eS (join s t), μ) := by
  unfold V_span_joined D_span_joined
  match s, t with
  | none, t => simp only [eS]; walk_at "ex"; rfl
  | some (a, b), none => simp only [eS]; walk_at "ex"; rfl
  | some (a, b), some (c, d) =>
    simp only [eS]; walk_at "ex"
    cases a <;> cases b <;> cases c <;> cases d <;> simp [lowB, highB, minL, maxH, oi, join, eS] <;> (repeat' split) <;> simp <;> omega
@[simp] theorem span_from_ok (l h : Option Int) : V_span_from [oi l, oi h] μ = some (eS (fromE l h), μ) := by
  unfold V_span_from D_span_from
  cases l <;> cases h <;> (simp only [oi]; walk_at "ex") <;> simp [fromE, eS, oi]
  split <;> simp [eS, oi]
theorem maxL_if (a c : Option Int) : maxL a c = if lowB a c = true then c else a := by
  cases a <;> cases c <;> simp [lowB, maxL] <;> (try split) <;> simp <;> omega
theorem minH_if (a c : Option Int) : minH a c = if highB a c = true then c else a := by
  cases a <;> cases c <;> simp [highB, minH] <;> (try split) <;> simp <;> omega
@[simp] theorem span_met_ok (s t : Sp) : V_span_met [eS s, eS t] μ = some (eS (meet s t), μ) := by
  match s, t with
  | none, t => unfold V_span_met D_span_met; simp only [eS]; walk_at "ex"; rfl
  | some (a, b), none => unfold V_span_met D_span_met; simp only [eS]; walk_at "ex"; rfl
  | some (a, b), some (c, d) =>
    show V_span_met [.tup [oi a, oi b], .tup [oi c, oi d]] μ = _
    unfold V_span_met D_span_met; walk_at "ex"
    simp only [meet, maxL_if, minH_if]
    cases lowB a c <;> cases highB b d <;> simp
theorem is_end_ds : ∀ (ds : List DV), (∀ d ∈ ds, ∃ o, d = oi o) → ∀ d ∈ ds, ∃ ρ', bd1 1 d [some (.tup ds), none] = some ρ' ∧ ∀ μ' : List MO, dCall V_is_end (aCons (dVar 1) aNil) ρ' μ' = some (.bl true, μ') := by
  intro ds h d hd
  obtain ⟨o, rfl⟩ := h d hd
  exact ⟨_, rfl, fun μ' => by walk_at "ex"⟩
@[simp] theorem all_true_map (ds : List DV) : blsD (ds.map fun _ => DV.bl true) = some (ds.map fun _ => true) := by
  induction ds with
  | nil => rfl
  | cons d ds ih => simp [blsD, ih]
@[simp] theorem is_span_ok (s : Sp) (h : wS s) : V_is_span [eS s] μ = some (.bl true, μ) := by
  have key : ∀ ds : List DV, ds.length ≤ 2 → (∀ d ∈ ds, ∃ o, d = oi o) → dLc (iSeq (dVar 0)) (bd1 1) dT (dCall V_is_end (aCons (dVar 1) aNil)) [some (.tup ds), none] μ = some (.lst (ds.map fun _ => DV.bl true), μ) := by
    intro ds hl h
    exact dLc_map (ds := ds) (by simp [iSeq, dVar]) (by omega) (is_end_ds ds h) fun _ _ => rfl
  unfold V_is_span D_is_span
  match s, h with
  | none, _ =>
    have k := key [] (by simp) (by simp)
    simp only [eS]; walk_at "ex"
  | some (l, u), h =>
    have k := key [oi l, oi u] (by simp) (by simp; exact ⟨⟨_, rfl⟩, ⟨_, rfl⟩⟩)
    simp only [eS]
    cases l <;> cases u <;> simp only [oi] at k ⊢ <;> walk_at "ex"
    exact h
@[simp] theorem refuse_wrong_stretch_ok (s : Sp) (h : wS s) : V_refuse_wrong_stretch [eS s] μ = some (.non, μ) := by
  unfold V_refuse_wrong_stretch D_refuse_wrong_stretch; walk_at "ex"
@[simp] theorem refuse_wrong_number_ok (n : Int) : V_refuse_wrong_number [.int n] μ = some (.non, μ) := by
  unfold V_refuse_wrong_number D_refuse_wrong_number; walk_at "ex"
@[simp] theorem refuse_wrong_stretches_ok (s t : Sp) (h : wS s) (h2 : wS t) : V_refuse_wrong_stretches [eS s, eS t] μ = some (.non, μ) := by
  unfold V_refuse_wrong_stretches D_refuse_wrong_stretches; walk_at "ex"
@[simp] theorem stretch_holds_ok (s : Sp) (n : Int) (h : wS s) : V_stretch_holds [eS s, .int n] μ = some (.bl (holds s n), μ) := by
  unfold V_stretch_holds D_stretch_holds; walk_at "ex"
@[simp] theorem stretch_within_ok (s t : Sp) (h : wS s) (h2 : wS t) : V_stretch_within [eS s, eS t] μ = some (.bl (within s t), μ) := by
  unfold V_stretch_within D_stretch_within; walk_at "ex"
@[simp] theorem stretch_met_ok (s t : Sp) (h : wS s) (h2 : wS t) : V_stretch_met [eS s, eS t] μ = some (eS (meet s t), μ) := by
  unfold V_stretch_met D_stretch_met; walk_at "ex"
theorem wS_join (s t : Sp) (h : wS s) (h2 : wS t) : wS (join s t) := by
  match s, t with
  | none, t => exact h2
  | some (a, b), none => exact h
  | some (a, b), some (c, d) =>
    cases a <;> cases b <;> cases c <;> cases d <;> simp_all [wS, join, minL, maxH] <;> omega
theorem wS_from (l h : Option Int) : wS (fromE l h) := by
  match l, h with
  | none, none => trivial
  | none, some _ => trivial
  | some _, none => trivial
  | some l, some h =>
    unfold fromE
    dsimp only
    by_cases c : h < l
    · rw [if_pos c]; trivial
    · rw [if_neg c]; exact (by omega : l ≤ h)
theorem wS_meet (s t : Sp) : wS (meet s t) := by
  match s, t with
  | none, t => trivial
  | some (a, b), none => trivial
  | some (a, b), some (c, d) => exact wS_from _ _
/-! ### the law's own -/
@[simp] theorem l_has_ok (s : Sp) (x : Int) : V_l_has [eS s, .int x] μ = some (.bl (holds s x), μ) := by
  unfold V_l_has D_l_has
  match s with
  | none => simp only [eS]; walk_at "ex"; rfl
  | some (l, h) =>
    cases l <;> cases h <;> simp only [eS, oi] <;> walk_at "ex" <;> simp [holds, loI, hiI]
@[simp] theorem l_inside_ok (s t : Sp) : V_l_inside [eS s, eS t] μ = some (.bl (within s t), μ) := by
  unfold V_l_inside D_l_inside
  match s, t with
  | none, none => simp only [eS]; walk_at "ex"; rfl
  | none, some (c, d) => simp only [eS]; walk_at "ex"; rfl
  | some (a, b), none => simp only [eS]; walk_at "ex"; rfl
  | some (a, b), some (c, d) =>
    cases a <;> cases b <;> cases c <;> cases d <;> simp only [eS, oi] <;> walk_at "ex" <;> simp [within, lowB, highB]
@[simp] theorem l_join_ok (s t : Sp) : V_l_join [eS s, eS t] μ = some (eS (join s t), μ) := by
  unfold V_l_join D_l_join
  match s, t with
  | none, none => simp only [eS]; walk_at "ex"; rfl
  | none, some (c, d) => simp only [eS]; walk_at "ex"; rfl
  | some (a, b), none => simp only [eS]; walk_at "ex"; rfl
  | some (a, b), some (c, d) =>
    cases a <;> cases b <;> cases c <;> cases d <;> simp only [eS, oi] <;> walk_at "ex" <;> simp [join, minL, maxH]
theorem bel_oi (n : Nat) (o : Option Int) : DV.bel n (oi o) = true := by cases o <;> rfl
@[simp] theorem bel_eS (n : Nat) (s : Sp) : DV.bel n (eS s) = true := by
  match s with
  | none => rfl
  | some (l, h) => simp [eS, DV.bel, DV.belL, bel_oi]
/-- ends that are told -/
def told2 (a c : Option Int) : List Int := (match a with | none => [] | some a => [a]) ++ (match c with | none => [] | some c => [c])
theorem told_lc {ρ : RO} {i : Nat} {fs : DenA} (a c : Option Int) (hi : i < ρ.length) (hf : iSeq (dTup fs) ρ μ = some ([oi a, oi c], μ)) :
    dLc (iSeq (dTup fs)) (bd1 i) (dOp2 oIsnt (dVar i) (dC .non)) (dVar i) ρ μ = some (.lst ((told2 a c).map DV.int), μ) := by
  have := dLc_pure (bd := bd1 i) (c := dOp2 oIsnt (dVar i) (dC .non)) (elt := dVar i) (p := fun d => !DV.isN d) (g := id) hf (by simp) (fun d hd => ⟨_, rfl, fun μ' => ⟨by
    simp [dOp2, dVar, dC, oIsnt, List.getElem?_set_self hi], fun _ => by simp [dVar, List.getElem?_set_self hi]⟩⟩) (fun d hd _ => by
      simp at hd
      rcases hd with rfl | rfl <;> exact bel_oi _ _)
  rw [this]
  cases a <;> cases c <;> simp [oi, DV.isN, told2]
@[simp] theorem l_meet_ok (s t : Sp) : V_l_meet [eS s, eS t] μ = some (eS (meet s t), μ) := by
  match s, t with
  | none, none => unfold V_l_meet D_l_meet; simp only [eS]; walk_at "ex"; rfl
  | none, some (c, d) => unfold V_l_meet D_l_meet; simp only [eS]; walk_at "ex"; rfl
  | some (a, b), none => unfold V_l_meet D_l_meet; simp only [eS]; walk_at "ex"; rfl
  | some (a, b), some (c, d) =>
    show V_l_meet [.tup [oi a, oi b], .tup [oi c, oi d]] μ = _
    unfold V_l_meet D_l_meet; walk_at "ex"
    rw [told_lc a c (i := 4)]
    case hi => simp
    case hf => simp [iSeq]; walk_at "ex"
    walk_at "ex"
    rw [told_lc b d (i := 4)]
    case hi => simp
    case hf => simp [iSeq]; walk_at "ex"
    cases a <;> cases b <;> cases c <;> cases d <;> simp only [told2, List.nil_append, List.append_nil, List.cons_append, List.map, oi] <;> walk_at "ex" <;> simp only [meet, maxL, minH, fromE] <;> (first | rfl | (refine ite_eS ?_ ?_ <;> rfl))

end Lw

namespace Lw
open PySem PySem.Spec L2 Eg
local macro_rules | `(tactic| walk_at "ex") => `(tactic| simp [eFn, startD, esCons, sRet, esIf, sNil, sSet, sAsg, sExp, sPar2, sPar3, dVar, dC, dOp2, dCall, dBlt, dTup, dLst, dLstM, eIf, eAnd, eOr, eNot, eNeg, dIsi, eChain, aCons, aNil, gTu, gAnd, gNm, gSb, gEnd, dSl, runP, sFor, forL_nil, forL_cons, iSeq, iRange1, iRange2, oDiv_ok, oMod_ok, oPow_ok, oSub, oLt, oLe, oGt, oGe, oEq, oNe, oIs, oIsnt, xIx_t, xIx_l, xIx_m, xIx_s, oLen, oInt, oAbs, oMM, oTuple, oDivmod, oInN, flatL, DV.flat, dCallW, permI, oAll, blsD, oMax1, oMin1, maxI, minI, intsD, inV1, inV2, eqV, DV.isN, eqvD, eqvL, shD, shL, xItems_t, xItems_l, xItems_m, xLen_t, xLen_l, xLen_m, xLen_s, atI, ixN, DV.ty, kitT, sl_eq, *])
variable {μ : List MO}
/-! ### draws -/
def Sr (k : Nat) (μ0 : List MO) (n : Nat) (μ : List MO) : Prop := k < μ0.length ∧ ∃ a b c : Int, μ = μ0.set k (.lst [.int a, .int b, .int c]) ∧ 0 ≤ a ∧ 0 ≤ b ∧ b < 2147483629 ∧ 0 ≤ c ∧ c ≤ n
theorem Sr.mono {k : Nat} {μ0 : List MO} {n m : Nat} (w : Sr k μ0 n μ) (h : n ≤ m) : Sr k μ0 m μ := by
  obtain ⟨hk, a, b, c, e, h1, h2, h3, h4, h5⟩ := w
  exact ⟨hk, a, b, c, e, h1, h2, h3, h4, by omega⟩
theorem Sr.len {k : Nat} {μ0 : List MO} {n : Nat} (w : Sr k μ0 n μ) : μ.length = μ0.length := by
  obtain ⟨hk, a, b, c, rfl, _⟩ := w
  simp
theorem take_ok {k : Nat} {μ0 : List MO} {n : Nat} (w : Sr k μ0 n μ) (hn : n < 1152921504606846976) {m : Int} (h0 : 0 < m) (h1 : m < 1073741824) :
    ∃ r μ', V_l_take [.mu k, .int m] μ = some (.int r, μ') ∧ 0 ≤ r ∧ r < m ∧ Sr k μ0 (n + 1) μ' := by
  obtain ⟨hk, a, b, c, rfl, ha, hb, hb2, hc, hc2⟩ := w
  have p1 : ∀ μ : List MO, oMul (.int 40093) (.int (c + 1)) μ = some (.int (40093 * (c + 1)), μ) := fun μ => oMul_ok (by omega) (by omega) (by omega) (by omega)
  have p2 : ∀ μ : List MO, oMul (.int 17) (.int (c + 1)) μ = some (.int (17 * (c + 1)), μ) := fun μ => oMul_ok (by omega) (by omega) (by omega) (by omega)
  have p3 : ∀ (x : Int) (μ : List MO), oMul (.int (x % 2147483629)) (.int (x % 2147483629 % 4001 + 30029)) μ = some (.int (x % 2147483629 * (x % 2147483629 % 4001 + 30029)), μ) := fun x μ => oMul_ok (by omega) (by omega) (by omega) (by omega)
  by_cases h : 0 < a
  · refine ⟨a % m, μ0.set k (.lst [.int (a / m), .int b, .int c]), ?_, Int.emod_nonneg _ (by omega), Int.emod_lt_of_pos _ h0, hk, _, _, _, rfl, Int.ediv_nonneg ha (by omega), hb, hb2, hc, by omega⟩
    unfold V_l_take D_l_take
    walk_at "ex"
    all_goals omega
  · have e : a = 0 := by omega
    subst e
    refine ⟨_, _, by
      unfold V_l_take D_l_take
      walk_at "ex"
      exact ⟨rfl, rfl⟩, Int.emod_nonneg _ (by omega), Int.emod_lt_of_pos _ h0, hk, _, _, _, rfl, by omega, Int.emod_nonneg _ (by omega), Int.emod_lt_of_pos _ (by omega), by omega, by omega⟩
theorem pick_ok {k : Nat} {μ0 : List MO} {n : Nat} (w : Sr k μ0 n μ) (hn : n < 1152921504606846976) {ds : List DV} (h0 : 0 < ds.length) (h1 : ds.length < 1073741824) :
    ∃ d μ', V_l_pick [.mu k, .lst ds] μ = some (d, μ') ∧ d ∈ ds ∧ Sr k μ0 (n + 1) μ' := by
  obtain ⟨r, μ1, e1, r0, r1, w1⟩ := take_ok w hn (m := ds.length) (by omega) (by omega)
  have hr : r.toNat < ds.length := by omega
  refine ⟨ds[r.toNat], μ1, ?_, List.getElem_mem hr, w1⟩
  have hl : μ1.length = μ.length := by rw [w1.len, w.len]
  unfold V_l_pick D_l_pick
  walk_at "ex"
  rw [cutd_len hl]
theorem great_ok {k : Nat} {μ0 : List MO} {n : Nat} (w : Sr k μ0 n μ) (hn : n < 1152921504606840000) :
    ∃ r μ', V_l_great [.mu k] μ = some (.int r, μ') ∧ 0 ≤ r ∧ r < 1267650600228229401496703205376 ∧ Sr k μ0 (n + 5) μ' := by
  obtain ⟨r1, μ1, e1, a1, b1, w1⟩ := take_ok w (by omega) (m := 1000003) (by omega) (by omega)
  obtain ⟨r2, μ2, e2, a2, b2, w2⟩ := take_ok w1 (by omega) (m := 1000003) (by omega) (by omega)
  obtain ⟨r3, μ3, e3, a3, b3, w3⟩ := take_ok w2 (by omega) (m := 1000003) (by omega) (by omega)
  obtain ⟨r4, μ4, e4, a4, b4, w4⟩ := take_ok w3 (by omega) (m := 1000003) (by omega) (by omega)
  obtain ⟨r5, μ5, e5, a5, b5, w5⟩ := take_ok w4 (by omega) (m := 1000003) (by omega) (by omega)
  have hl : μ5.length = μ.length := by rw [w5.len, w.len]
  have rg : rgD 0 5 = [.int 0, .int 1, .int 2, .int 3, .int 4] := rfl
  have m1 : ∀ μ : List MO, oMul (.int 0) (.int 1000003) μ = some (.int (0 * 1000003), μ) := fun μ => oMul_ok (by omega) (by omega) (by omega) (by omega)
  have m2 : ∀ μ : List MO, oMul (.int r1) (.int 1000003) μ = some (.int (r1 * 1000003), μ) := fun μ => oMul_ok (by omega) (by omega) (by omega) (by omega)
  have m3 : ∀ μ : List MO, oMul (.int (r1 * 1000003 + r2)) (.int 1000003) μ = some (.int ((r1 * 1000003 + r2) * 1000003), μ) := fun μ => oMul_ok (by omega) (by omega) (by omega) (by omega)
  have m4 : ∀ μ : List MO, oMul (.int ((r1 * 1000003 + r2) * 1000003 + r3)) (.int 1000003) μ = some (.int (((r1 * 1000003 + r2) * 1000003 + r3) * 1000003), μ) := fun μ => oMul_ok (by omega) (by omega) (by omega) (by omega)
  have m5 : ∀ μ : List MO, oMul (.int (((r1 * 1000003 + r2) * 1000003 + r3) * 1000003 + r4)) (.int 1000003) μ = some (.int ((((r1 * 1000003 + r2) * 1000003 + r3) * 1000003 + r4) * 1000003), μ) := fun μ => oMul_ok (by omega) (by omega) (by omega) (by omega)
  refine ⟨(((r1 * 1000003 + r2) * 1000003 + r3) * 1000003 + r4) * 1000003 + r5, μ5, ?_, by omega, by omega, w5⟩
  unfold V_l_great D_l_great
  walk_at "ex"
  rw [cutd_len hl]
/-- what the draws of numbers keep to -/
def bigN (r : Int) : Prop := -1267650600228229401496703205376 < r ∧ r < 1267650600228229401496703205376
theorem number_ok {k : Nat} {μ0 : List MO} {n : Nat} (w : Sr k μ0 n μ) (hn : n < 1152921504606830000) :
    ∃ r μ', V_l_number [.mu k] μ = some (.int r, μ') ∧ bigN r ∧ Sr k μ0 (n + 7) μ' := by
  obtain ⟨r1, μ1, e1, a1, b1, w1⟩ := take_ok w (by omega) (m := 16) (by omega) (by omega)
  unfold V_l_number D_l_number
  by_cases h8 : r1 < 8
  · obtain ⟨r2, μ2, e2, a2, b2, w2⟩ := take_ok w1 (by omega) (m := 13) (by omega) (by omega)
    have hl : μ2.length = μ.length := by rw [w2.len, w.len]
    refine ⟨r2 - 6, μ2, ?_, ⟨by omega, by omega⟩, w2.mono (by omega)⟩
    walk_at "ex"
    rw [cutd_len hl]
  by_cases h13 : r1 < 13
  · obtain ⟨r2, μ2, e2, a2, b2, w2⟩ := take_ok w1 (by omega) (m := 121) (by omega) (by omega)
    have hl : μ2.length = μ.length := by rw [w2.len, w.len]
    refine ⟨r2 - 60, μ2, ?_, ⟨by omega, by omega⟩, w2.mono (by omega)⟩
    walk_at "ex"
    rw [cutd_len hl]
  by_cases h15 : r1 < 15
  · obtain ⟨r2, μ2, e2, a2, b2, w2⟩ := take_ok w1 (by omega) (m := 200003) (by omega) (by omega)
    have hl : μ2.length = μ.length := by rw [w2.len, w.len]
    refine ⟨r2 - 100001, μ2, ?_, ⟨by omega, by omega⟩, w2.mono (by omega)⟩
    walk_at "ex"
    rw [cutd_len hl]
  obtain ⟨r2, μ2, e2, a2, b2, w2⟩ := great_ok w1 (by omega)
  obtain ⟨r3, μ3, e3, a3, b3, w3⟩ := take_ok w2 (by omega) (m := 2) (by omega) (by omega)
  have hl : μ3.length = μ.length := by rw [w3.len, w.len]
  have hb : bigN (if r3 = 0 then r2 else 0 - r2) := by
    by_cases z : r3 = 0
    · rw [if_pos z]; exact ⟨by omega, by omega⟩
    · rw [if_neg z]; exact ⟨by omega, by omega⟩
  refine ⟨if r3 = 0 then r2 else 0 - r2, μ3, ?_, hb, w3⟩
  walk_at "ex"
  rw [cutd_len hl, cutd_len hl]
  split <;> simp
/-- ends that are not too great -/
def bE (B : Int) : Option Int → Prop
  | none => True
  | some x => -1267650600228229401496703205376 - B < x ∧ x < 1267650600228229401496703205376 + B
def bS (B : Int) : Sp → Prop
  | none => True
  | some (l, h) => bE B l ∧ bE B h
theorem bE.mono {B B' : Int} {o : Option Int} (h : bE B o) (l : B ≤ B') : bE B' o := by
  cases o with
  | none => trivial
  | some x => exact ⟨by have := h.1; omega, by have := h.2; omega⟩
theorem bS.mono {B B' : Int} {s : Sp} (h : bS B s) (l : B ≤ B') : bS B' s := by
  match s, h with
  | none, _ => trivial
  | some (a, b), h => exact ⟨h.1.mono l, h.2.mono l⟩
theorem stretch_ok {k : Nat} {μ0 : List MO} {n : Nat} (w : Sr k μ0 n μ) (hn : n < 1152921504606820000) :
    ∃ s μ', V_l_stretch [.mu k] μ = some (eS s, μ') ∧ wS s ∧ bS 100003 s ∧ Sr k μ0 (n + 9) μ' := by
  obtain ⟨r1, μ1, e1, a1, b1, w1⟩ := take_ok w (by omega) (m := 14) (by omega) (by omega)
  have l1 : μ1.length = μ.length := by rw [w1.len, w.len]
  unfold V_l_stretch D_l_stretch
  by_cases h2 : r1 < 2
  · refine ⟨if r1 = 0 then none else some (none, none), μ1, ?_, by split <;> trivial, by split <;> simp [bS, bE], w1.mono (by omega)⟩
    walk_at "ex"
    rw [cutd_len l1, cutd_len l1]
    split <;> rfl
  obtain ⟨x, μ2, e2, ⟨a2, b2⟩, w2⟩ := number_ok w1 (by omega)
  have l2 : μ2.length = μ.length := by rw [w2.len, w.len]
  by_cases h6 : r1 < 6
  · refine ⟨if r1 < 4 then some (none, some x) else some (some x, none), μ2, ?_, by split <;> trivial, by split <;> simp [bS, bE] <;> omega, w2.mono (by omega)⟩
    walk_at "ex"
    rw [cutd_len l2, cutd_len l2]
    split <;> rfl
  by_cases h7 : r1 = 6
  · refine ⟨some (some x, some x), μ2, ?_, Int.le_refl _, by simp [bS, bE]; omega, w2.mono (by omega)⟩
    subst h7
    walk_at "ex"
    rw [cutd_len l2]
    rfl
  by_cases h12 : r1 < 12
  · obtain ⟨y, μ3, e3, a3, b3, w3⟩ := take_ok w2 (by omega) (m := 12) (by omega) (by omega)
    have l3 : μ3.length = μ.length := by rw [w3.len, w.len]
    refine ⟨some (some x, some (x + y)), μ3, ?_, (by omega : x ≤ x + y), by simp [bS, bE]; omega, w3.mono (by omega)⟩
    walk_at "ex"
    rw [cutd_len l3]
    rfl
  · obtain ⟨y, μ3, e3, a3, b3, w3⟩ := take_ok w2 (by omega) (m := 100003) (by omega) (by omega)
    have l3 : μ3.length = μ.length := by rw [w3.len, w.len]
    refine ⟨some (some x, some (x + y)), μ3, ?_, (by omega : x ≤ x + y), by simp [bS, bE]; omega, w3.mono (by omega)⟩
    walk_at "ex"
    rw [cutd_len l3]
    rfl
/-! ### ends that are told -/
theorem told_ok {ρ : RO} {i : Nat} {fa : Den} (ends : List (Option Int)) (hl : ends.length ≤ 1000) (hi : i < ρ.length) (hf : fa ρ μ = some (.tup (ends.map oi), μ)) :
    dLc (iSeq fa) (bd1 i) (dOp2 oIsnt (dVar i) (dC .non)) (dVar i) ρ μ = some (.lst ((ends.filterMap id).map DV.int), μ) := by
  have := dLc_pure (fi := iSeq fa) (bd := bd1 i) (c := dOp2 oIsnt (dVar i) (dC .non)) (elt := dVar i) (p := fun d => !DV.isN d) (g := id) (ds := ends.map oi) (ρ := ρ) (μ := μ) (by simp [iSeq, hf]) (by simp; omega) (fun d hd => ⟨_, rfl, fun μ' => ⟨by
    simp [dOp2, dVar, dC, oIsnt, List.getElem?_set_self hi], fun _ => by simp [dVar, List.getElem?_set_self hi]⟩⟩) (fun d hd _ => by
      obtain ⟨o, _, rfl⟩ := List.mem_map.mp hd
      exact bel_oi _ _)
  rw [this]
  have e : ∀ l : List (Option Int), List.map id (List.filter (fun d => !DV.isN d) (List.map oi l)) = (l.filterMap id).map DV.int := by
    intro l
    induction l with
    | nil => rfl
    | cons o l ih => cases o <;> simp_all [oi, DV.isN]
  rw [e]
@[simp] theorem sh_ints (ns : List Int) (n : Nat) : shL n (ns.map DV.int) = true := by
  induction ns with
  | nil => rfl
  | cons x ns ih => cases n <;> simp [shL, shD, ih]
@[simp] theorem sh_intsD (ns : List Int) : shD 60 (.lst (ns.map DV.int)) = true := by
  show shL 59 _ = true
  simp
@[simp] theorem eqv_ints (ns : List Int) : eqvD (.lst (ns.map DV.int)) (.lst []) = ns.isEmpty := by cases ns <;> rfl
/-- numbers within bounds -/
def bN (B : Int) (ns : List Int) : Prop := ∀ x ∈ ns, -1267650600228229401496703205376 - B < x ∧ x < 1267650600228229401496703205376 + B
theorem near_ok {k : Nat} {μ0 : List MO} {n : Nat} (w : Sr k μ0 n μ) (hn : n < 1152921504606810000) (ends : List (Option Int)) (hl : ends.length ≤ 1000) {B : Int} (hB0 : 100003 ≤ B) (hB : ∀ o ∈ ends, bE B o) :
    ∃ s μ', V_l_near [.mu k, .tup (ends.map oi)] μ = some (eS s, μ') ∧ wS s ∧ bS (B + 2) s ∧ Sr k μ0 (n + 10) μ' := by
  have hlots : (ends.filterMap id).length ≤ 1000 := Nat.le_trans (List.length_filterMap_le _ _) hl
  have hbn : ∀ x ∈ ends.filterMap id, -1267650600228229401496703205376 - B < x ∧ x < 1267650600228229401496703205376 + B := by
    intro x hx
    obtain ⟨o, ho, he⟩ := List.mem_filterMap.mp hx
    cases he
    exact hB _ ho
  have k1 := told_ok (μ := μ) (ρ := [some (.mu k), some (.tup (ends.map oi)), none, none, none, none, none]) (i := 6) (fa := dVar 1) ends hl (by simp) rfl
  generalize hL : ends.filterMap id = lots at *
  unfold V_l_near D_l_near
  by_cases he : lots = []
  · obtain ⟨s, μ1, e1, h1, h2, w1⟩ := stretch_ok w (by omega)
    have l1 : μ1.length = μ.length := by rw [w1.len, w.len]
    refine ⟨s, μ1, ?_, h1, h2.mono (by omega), w1.mono (by omega)⟩
    subst he
    walk_at "ex"
    rw [cutd_len l1]
  have hne : lots.isEmpty = false := by cases lots <;> simp_all
  have hlen : 0 < (lots.map DV.int).length := by cases lots <;> simp_all
  obtain ⟨r1, μ1, e1, a1, b1, w1⟩ := take_ok w (by omega) (m := 4) (by omega) (by omega)
  by_cases h0 : r1 = 0
  · obtain ⟨s, μ2, e2, h1, h2, w2⟩ := stretch_ok w1 (by omega)
    have l2 : μ2.length = μ.length := by rw [w2.len, w.len]
    refine ⟨s, μ2, ?_, h1, h2.mono (by omega), w2⟩
    subst h0
    walk_at "ex"
    rw [cutd_len l2]
  obtain ⟨d, μ2, e2, hd, w2⟩ := pick_ok w1 (by omega) (ds := lots.map DV.int) hlen (by simp; omega)
  obtain ⟨x, hx, rfl⟩ := List.mem_map.mp hd
  obtain ⟨x1, x2⟩ := hbn x hx
  obtain ⟨r3, μ3, e3, a3, b3, w3⟩ := take_ok w2 (by omega) (m := 5) (by omega) (by omega)
  obtain ⟨r4, μ4, e4, a4, b4, w4⟩ := take_ok w3 (by omega) (m := 7) (by omega) (by omega)
  have l4 : μ4.length = μ.length := by rw [w4.len, w.len]
  by_cases h2 : r4 < 2
  · refine ⟨if r4 = 0 then some (none, some (x + r3 - 2)) else some (some (x + r3 - 2), none), μ4, ?_, by split <;> trivial, by split <;> simp [bS, bE] <;> omega, w4.mono (by omega)⟩
    walk_at "ex"
    rw [cutd_len l4, cutd_len l4]
    split <;> rfl
  by_cases h6 : r4 < 6
  · obtain ⟨d, μ5, e5, hd, w5⟩ := pick_ok w4 (by omega) (ds := lots.map DV.int) hlen (by simp; omega)
    obtain ⟨y, hy, rfl⟩ := List.mem_map.mp hd
    obtain ⟨y1, y2⟩ := hbn y hy
    obtain ⟨r6, μ6, e6, a6, b6, w6⟩ := take_ok w5 (by omega) (m := 5) (by omega) (by omega)
    have l6 : μ6.length = μ.length := by rw [w6.len, w.len]
    refine ⟨some (some (min (x + r3 - 2) (y + r6 - 2)), some (max (x + r3 - 2) (y + r6 - 2))), μ6, ?_, by show min _ _ ≤ max _ _; omega, by simp only [bS, bE]; omega, w6.mono (by omega)⟩
    have q1 : (if y + r6 < x + r3 then y + r6 - 2 else x + r3 - 2) = min (x + r3 - 2) (y + r6 - 2) := by omega
    have q2 : (if x + r3 < y + r6 then y + r6 - 2 else x + r3 - 2) = max (x + r3 - 2) (y + r6 - 2) := by omega
    walk_at "ex"
    rw [cutd_len l6]
    try rw [q1, q2]
    rfl
  · refine ⟨some (some (x + r3 - 2), some (x + r3 - 2)), μ4, ?_, Int.le_refl _, by simp only [bS, bE]; omega, w4.mono (by omega)⟩
    walk_at "ex"
    rw [cutd_len l4]
    rfl

end Lw

namespace Lw
open PySem PySem.Spec L2 Eg
local macro_rules | `(tactic| walk_at "ex") => `(tactic| simp [eFn, startD, esCons, sRet, esIf, sNil, sSet, sAsg, sExp, sPar2, sPar3, dVar, dC, dOp2, dCall, dBlt, dTup, dLst, dLstM, eIf, eAnd, eOr, eNot, eNeg, dIsi, eChain, aCons, aNil, gTu, gAnd, gNm, gSb, gEnd, dSl, runP, sFor, forL_nil, forL_cons, iSeq, iRange1, iRange2, oDiv_ok, oMod_ok, oPow_ok, oSub, oLt, oLe, oGt, oGe, oEq, oNe, oIs, oIsnt, xIx_t, xIx_l, xIx_m, xIx_s, oLen, oInt, oAbs, oMM, oTuple, oDivmod, oInN, flatL, DV.flat, dCallW, permI, oAll, blsD, oMax1, oMin1, maxI, minI, intsD, inV1, inV2, eqV, DV.isN, eqvD, eqvL, shD, shL, xItems_t, xItems_l, xItems_m, xLen_t, xLen_l, xLen_m, xLen_s, atI, ixN, DV.ty, kitT, sl_eq, *])
variable {μ : List MO}
/-! ### stretches: what holds of them -/
theorem within_join (s t u : Sp) : within (join s t) u = (within s u && within t u) := by
  match s, t, u with
  | none, t, u => simp [join, within]
  | some (a, b), none, u => cases u <;> simp [join, within]
  | some (a, b), some (c, d), none => simp [join, within]
  | some (a, b), some (c, d), some (e, f) =>
    have h1 : lowB (minL a c) e = (lowB a e || lowB c e) := by
      cases a <;> cases c <;> cases e <;> simp [minL, lowB] <;> (rw [Bool.eq_iff_iff]; simp; omega)
    have h2 : highB (maxH b d) f = (highB b f || highB d f) := by
      cases b <;> cases d <;> cases f <;> simp [maxH, highB] <;> (rw [Bool.eq_iff_iff]; simp; omega)
    simp only [join, within, h1, h2]
    cases lowB a e <;> cases lowB c e <;> cases highB b f <;> cases highB d f <;> rfl
theorem within_meet (s t u : Sp) (hu : wS u) : within u (meet s t) = (within u s && within u t) := by
  match u, s, t with
  | none, s, t => simp [within]
  | some (a, b), none, t => simp [meet, within]
  | some (a, b), some (c, d), none => simp [meet, within]
  | some (a, b), some (c, d), some (e, f) =>
    have h1 : lowB a (maxL c e) = (lowB a c || lowB a e) := by
      cases a <;> cases c <;> cases e <;> simp [maxL, lowB] <;> (rw [Bool.eq_iff_iff]; simp; omega)
    have h2 : highB b (minH d f) = (highB b d || highB b f) := by
      cases b <;> cases d <;> cases f <;> simp [minH, highB] <;> (rw [Bool.eq_iff_iff]; simp; omega)
    have h3 : within (some (a, b)) (fromE (maxL c e) (minH d f)) = (!lowB a (maxL c e) && !highB b (minH d f)) := by
      cases hl : maxL c e with
      | none => simp [fromE, within]
      | some l =>
        cases hh : minH d f with
        | none => simp [fromE, within]
        | some h =>
          simp only [fromE]
          by_cases hc : h < l
          · rw [if_pos hc]
            cases a <;> cases b <;> simp [within, lowB, highB]
            have : _ ≤ _ := hu
            omega
          · rw [if_neg hc]
            rfl
    show within (some (a, b)) (fromE (maxL c e) (minH d f)) = _
    rw [h3, h1, h2]
    simp only [within]
    cases lowB a c <;> cases lowB a e <;> cases highB b d <;> cases highB b f <;> rfl
theorem meet_join (s t : Sp) (hs : wS s) : meet s (join s t) = s := by
  match s, t, hs with
  | none, t, _ => rfl
  | some (a, b), none, h =>
    cases a <;> cases b <;> simp [join, meet, maxL, minH, fromE]
    exact h
  | some (a, b), some (c, d), h =>
    have h1 : maxL a (minL a c) = a := by cases a <;> cases c <;> simp [maxL, minL] <;> omega
    have h2 : minH b (maxH b d) = b := by cases b <;> cases d <;> simp [minH, maxH] <;> omega
    simp only [join, meet, h1, h2]
    cases a <;> cases b <;> simp [fromE]
    exact h
theorem join_meet (s t : Sp) (hs : wS s) : join s (meet s t) = s := by
  match s, t, hs with
  | none, t, _ => rfl
  | some (a, b), none, h => rfl
  | some (a, b), some (c, d), h =>
    have h1 : minL a (maxL a c) = a := by cases a <;> cases c <;> simp [maxL, minL] <;> omega
    have h2 : maxH b (minH b d) = b := by cases b <;> cases d <;> simp [minH, maxH] <;> omega
    simp only [meet]
    cases hl : maxL a c with
    | none => rw [hl] at h1; cases hh : minH b d with
      | none => rw [hh] at h2; simp [fromE, join, h1, h2]
      | some h => rw [hh] at h2; simp [fromE, join, h1, h2]
    | some l =>
      rw [hl] at h1
      cases hh : minH b d with
      | none => rw [hh] at h2; simp [fromE, join, h1, h2]
      | some h =>
        rw [hh] at h2
        simp only [fromE]
        split
        · rfl
        · simp [join, h1, h2]
theorem join_assoc (s t u : Sp) : join (join s t) u = join s (join t u) := by
  match s, t, u with
  | none, t, u => rfl
  | some (a, b), none, u => rfl
  | some (a, b), some (c, d), none => rfl
  | some (a, b), some (c, d), some (e, f) =>
    have h1 : minL (minL a c) e = minL a (minL c e) := by cases a <;> cases c <;> cases e <;> simp [minL] <;> omega
    have h2 : maxH (maxH b d) f = maxH b (maxH d f) := by cases b <;> cases d <;> cases f <;> simp [maxH] <;> omega
    simp only [join, h1, h2]
theorem holds_meet (s t : Sp) (x : Int) : holds (meet s t) x = (holds s x && holds t x) := by
  match s, t with
  | none, t => rfl
  | some (a, b), none => simp [meet, holds]
  | some (a, b), some (c, d) =>
    have h1 : loI (maxL a c) x = (loI a x && loI c x) := by cases a <;> cases c <;> simp [maxL, loI] <;> (rw [Bool.eq_iff_iff]; simp; omega)
    have h2 : hiI (minH b d) x = (hiI b x && hiI d x) := by cases b <;> cases d <;> simp [minH, hiI] <;> (rw [Bool.eq_iff_iff]; simp; omega)
    have h3 : holds (fromE (maxL a c) (minH b d)) x = (loI (maxL a c) x && hiI (minH b d) x) := by
      cases hl : maxL a c with
      | none => rfl
      | some l =>
        cases hh : minH b d with
        | none => rfl
        | some h =>
          simp only [fromE]
          by_cases hc : h < l
          · rw [if_pos hc]
            simp [holds, loI, hiI]
            omega
          · rw [if_neg hc]
            rfl
    show holds (fromE (maxL a c) (minH b d)) x = _
    rw [h3, h1, h2]
    simp only [holds]
    cases loI a x <;> cases loI c x <;> cases hiI b x <;> cases hiI d x <;> rfl
/-- what ends hold tells the stretch -/
theorem holds_join (s t : Sp) (x : Int) (h : (holds s x || holds t x) = true) : holds (join s t) x = true := by
  match s, t with
  | none, t => simpa [holds, join] using h
  | some (a, b), none => simpa [holds, join] using h
  | some (a, b), some (c, d) =>
    have h1 : loI (minL a c) x = (loI a x || loI c x) := by cases a <;> cases c <;> simp [minL, loI] <;> (rw [Bool.eq_iff_iff]; simp; omega)
    have h2 : hiI (maxH b d) x = (hiI b x || hiI d x) := by cases b <;> cases d <;> simp [maxH, hiI] <;> (rw [Bool.eq_iff_iff]; simp; omega)
    simp only [join, holds, h1, h2] at h ⊢
    revert h
    cases loI a x <;> cases loI c x <;> cases hiI b x <;> cases hiI d x <;> simp
theorem within_anti (s t : Sp) (hs : wS s) (ht : wS t) (h1 : within s t = true) (h2 : within t s = true) : s = t := by
  match s, t with
  | none, none => rfl
  | none, some (c, d) => simp [within] at h2
  | some (a, b), none => simp [within] at h1
  | some (a, b), some (c, d) =>
    cases a <;> cases b <;> cases c <;> cases d <;> simp [within, lowB, highB] at h1 h2 ⊢ <;> omega
theorem meet_assoc (s t u : Sp) (hs : wS s) (ht : wS t) (hu : wS u) : meet (meet s t) u = meet s (meet t u) := by
  have w1 := wS_meet (meet s t) u
  have w2 := wS_meet s (meet t u)
  have r1 : ∀ v, wS v → within v v = true := by
    intro v hv
    match v with
    | none => rfl
    | some (a, b) => cases a <;> cases b <;> simp [within, lowB, highB]
  have e : ∀ v, wS v → within v (meet (meet s t) u) = within v (meet s (meet t u)) := by
    intro v hv
    rw [within_meet _ _ _ hv, within_meet _ _ _ hv, within_meet _ _ _ hv, within_meet _ _ _ hv]
    cases within v s <;> cases within v t <;> cases within v u <;> rfl
  refine within_anti _ _ w1 w2 ?_ ?_
  · rw [← e _ w1]; exact r1 _ w1
  · rw [e _ w2]; exact r1 _ w2
/-! ### alike -/
mutual
def sm : Nat → DV → Bool
  | _, .non => true
  | _, .bl _ => true
  | _, .int _ => true
  | n + 1, .tup ds => smL n ds
  | _, _ => false
def smL : Nat → List DV → Bool
  | _, [] => true
  | n, d :: ds => sm n d && smL n ds
end
theorem smL_mem {n : Nat} : ∀ {ds : List DV}, smL n ds = true → ∀ d ∈ ds, sm n d = true
  | [], _, _, h => by cases h
  | x :: ds, h, d, hd => by
    have h' : (sm n x && smL n ds) = true := by simpa [smL] using h
    rcases List.mem_cons.mp hd with rfl | hd
    · exact (Bool.and_eq_true_iff.mp h').1
    · exact smL_mem (Bool.and_eq_true_iff.mp h').2 d hd
theorem zipD_self (ds : List DV) : zipD ds ds = ds.map fun d => DV.tup [d, d] := by
  unfold zipD
  induction ds with
  | nil => rfl
  | cons d ds ih => simp [ih]
mutual
/-- few elements everywhere -/
def fewD : DV → Bool
  | .tup ds => decide (ds.length ≤ 1000) && fewL ds
  | _ => true
def fewL : List DV → Bool
  | [] => true
  | d :: ds => fewD d && fewL ds
end
theorem fewL_mem : ∀ {ds : List DV}, fewL ds = true → ∀ d ∈ ds, fewD d = true
  | [], _, _, h => by cases h
  | x :: ds, h, d, hd => by
    have h' : (fewD x && fewL ds) = true := by simpa [fewL] using h
    rcases List.mem_cons.mp hd with rfl | hd
    · exact (Bool.and_eq_true_iff.mp h').1
    · exact fewL_mem (Bool.and_eq_true_iff.mp h').2 d hd
@[simp] theorem l_is_whole_i (i : Int) : V_l_is_whole [.int i] μ = some (.bl true, μ) := by
  unfold V_l_is_whole D_l_is_whole; walk_at "ex"
theorem l_same_ok : ∀ (n : Nat) (d : DV) (μ : List MO), sm n d = true → fewD d = true → V_l_same (n + 1) [d, d] μ = some (.bl true, μ) := by
  intro n
  induction n with
  | zero =>
    intro d μ h _
    unfold V_l_same D_l_same
    cases d <;> simp [sm] at h <;> walk_at "ex"
  | succ n ih =>
    intro d μ h hf
    cases d with
    | tup ds =>
      have h' : smL n ds = true := by simpa [sm] using h
      have hf' : (decide (ds.length ≤ 1000) && fewL ds) = true := by simpa [fewD] using hf
      have f1 : ds.length ≤ 1000 := of_decide_eq_true (Bool.and_eq_true_iff.mp hf').1
      have key : dLc (iZip (aCons (dVar 0) (aCons (dVar 1) aNil))) (bd2 2 3) dT (dCall (V_l_same (n + 1)) (aCons (dVar 2) (aCons (dVar 3) aNil))) [some (.tup ds), some (.tup ds), none, none] μ = some (.lst ((ds.map fun d => DV.tup [d, d]).map fun _ => DV.bl true), μ) := by
        refine dLc_map (by simp [Eg.iZip, aCons, aNil, dVar, zipD_self]) (by simp; omega) ?_ fun _ _ => rfl
        intro d hd
        obtain ⟨x, hx, rfl⟩ := List.mem_map.mp hd
        refine ⟨_, rfl, fun μ' => ?_⟩
        simp [dCall, aCons, aNil, dVar, ih x μ' (smL_mem h' x hx) (fewL_mem (Bool.and_eq_true_iff.mp hf').2 x hx)]
      have key2 : dLc (Eg.iZip (aCons (dVar 0) (aCons (dVar 1) aNil))) (bd2 2 3) dT (dCall (V_l_same (n + 1)) (aCons (dVar 2) (aCons (dVar 3) aNil))) [some (.tup ds), some (.tup ds), none, none] μ = some (.lst (ds.map fun _ => DV.bl true), μ) := by
        rw [key, List.map_map]
        rfl
      clear key
      unfold V_l_same D_l_same
      walk_at "ex"
    | _ => 
      unfold V_l_same D_l_same
      simp [sm] at h <;> walk_at "ex"
@[simp] theorem l_same8 (d : DV) (h : sm 7 d = true) (h2 : fewD d = true) : V_l_same 8 [d, d] μ = some (.bl true, μ) := l_same_ok 7 d μ h h2
@[simp] theorem sm_oi (n : Nat) (o : Option Int) : sm n (oi o) = true := by cases n <;> cases o <;> rfl
@[simp] theorem sm_eS (n : Nat) (s : Sp) : sm (n + 1) (eS s) = true := by
  match s with
  | none => rfl
  | some (l, h) => simp [eS, sm, smL]
@[simp] theorem few_oi (o : Option Int) : fewD (oi o) = true := by cases o <;> rfl
@[simp] theorem few_eS (s : Sp) : fewD (eS s) = true := by
  match s with
  | none => rfl
  | some (l, h) => simp [eS, fewD, fewL]
@[simp] theorem sm_bl (n : Nat) (b : Bool) : sm n (.bl b) = true := by cases n <;> rfl
@[simp] theorem sm_int (n : Nat) (b : Int) : sm n (.int b) = true := by cases n <;> rfl
@[simp] theorem sm_non (n : Nat) : sm n .non = true := by cases n <;> rfl
@[simp] theorem sm_tup (n : Nat) (ds : List DV) : sm (n + 1) (.tup ds) = smL n ds := rfl
@[simp] theorem smL_nil (n : Nat) : smL n [] = true := by cases n <;> rfl
@[simp] theorem smL_cons (n : Nat) (d : DV) (ds : List DV) : smL n (d :: ds) = (sm n d && smL n ds) := by cases n <;> rfl
@[simp] theorem few_bl (b : Bool) : fewD (.bl b) = true := rfl
@[simp] theorem few_int (b : Int) : fewD (.int b) = true := rfl
@[simp] theorem few_non : fewD .non = true := rfl
@[simp] theorem few_tup (ds : List DV) : fewD (.tup ds) = (decide (ds.length ≤ 1000) && fewL ds) := rfl
@[simp] theorem few_nil : fewL [] = true := rfl
@[simp] theorem few_cons (d : DV) (ds : List DV) : fewL (d :: ds) = (fewD d && fewL ds) := rfl
@[simp] theorem l_same8_bl (b : Bool) : V_l_same 8 [.bl b, .bl b] μ = some (.bl true, μ) := l_same8 _ (by simp) (by simp)
@[simp] theorem l_same8_int (b : Int) : V_l_same 8 [.int b, .int b] μ = some (.bl true, μ) := l_same8 _ (by simp) (by simp)
@[simp] theorem l_same8_eS (s : Sp) : V_l_same 8 [eS s, eS s] μ = some (.bl true, μ) := l_same8 _ (by simp) (by simp)

end Lw

namespace Lw
open PySem PySem.Spec L2 Eg
local macro_rules | `(tactic| walk_at "ex") => `(tactic| simp [eFn, startD, esCons, sRet, esIf, sNil, sSet, sAsg, sExp, sPar2, sPar3, dVar, dC, dOp2, dCall, dBlt, dTup, dLst, dLstM, eIf, eAnd, eOr, eNot, eNeg, dIsi, eChain, aCons, aNil, gTu, gAnd, gNm, gSb, gEnd, dSl, runP, sFor, forL_nil, forL_cons, iSeq, iRange1, iRange2, oDiv_ok, oMod_ok, oPow_ok, oSub, oLt, oLe, oGt, oGe, oEq, oNe, oIs, oIsnt, xIx_t, xIx_l, xIx_m, xIx_s, oLen, oInt, oAbs, oMM, oTuple, oDivmod, oInN, flatL, DV.flat, dCallW, permI, oAll, blsD, oMax1, oMin1, maxI, minI, intsD, inV1, inV2, eqV, DV.isN, eqvD, eqvL, shD, shL, xItems_t, xItems_l, xItems_m, xLen_t, xLen_l, xLen_m, xLen_s, atI, ixN, DV.ty, kitT, sl_eq, *])
variable {μ : List MO}
/-! ### steps, one form each -/
theorem op2_at {o : DV → DV → List MO → RE} {fa fb : Den} {ρ : RO} {a b r : DV} {μ1 μ2 μ3 : List MO} (ha : fa ρ μ = some (a, μ1)) (hb : fb ρ μ1 = some (b, μ2)) (h : o a b μ2 = some (r, μ3)) : dOp2 o fa fb ρ μ = some (r, μ3) := by
  rw [dOp2, ha, bnd_some, hb, bnd_some, h]
theorem call1_at {F : FD} {fa : Den} {ρ : RO} {a r : DV} {μ1 μ3 : List MO} (ha : fa ρ μ = some (a, μ1)) (h : F [a] μ1 = some (r, μ3)) : dCall F (aCons fa aNil) ρ μ = some (r, μ3) := by
  simp only [dCall, aCons, aNil, ha, bnd_some, h]
theorem call2_at {F : FD} {fa fb : Den} {ρ : RO} {a b r : DV} {μ1 μ2 μ3 : List MO} (ha : fa ρ μ = some (a, μ1)) (hb : fb ρ μ1 = some (b, μ2)) (h : F [a, b] μ2 = some (r, μ3)) : dCall F (aCons fa (aCons fb aNil)) ρ μ = some (r, μ3) := by
  simp only [dCall, aCons, aNil, ha, hb, bnd_some, h]
theorem call3_at {F : FD} {fa fb fc : Den} {ρ : RO} {a b c r : DV} {μ1 μ2 μ3 μ4 : List MO} (ha : fa ρ μ = some (a, μ1)) (hb : fb ρ μ1 = some (b, μ2)) (hc : fc ρ μ2 = some (c, μ3)) (h : F [a, b, c] μ3 = some (r, μ4)) : dCall F (aCons fa (aCons fb (aCons fc aNil))) ρ μ = some (r, μ4) := by
  simp only [dCall, aCons, aNil, ha, hb, hc, bnd_some, h]
theorem set_at {i : Nat} {f : Den} {ρ : RO} {d : DV} {μ1 : List MO} (h : f ρ μ = some (d, μ1)) : sSet i f ρ μ = some (.nx (ρ.set i (some d)) μ1) := by
  rw [sSet, h, bnd_some]
theorem and_at {fa fb : Den} {ρ : RO} {a b : Bool} (ha : fa ρ μ = some (.bl a, μ)) (hb : fb ρ μ = some (.bl b, μ)) : dAnd fa fb ρ μ = some (.bl (a && b), μ) := by
  rw [eAnd, ha, bnd_some]
  cases a
  · rfl
  · simp only [ifB]
    rw [hb]
    rfl
theorem or_at {fa fb : Den} {ρ : RO} {a b : Bool} (ha : fa ρ μ = some (.bl a, μ)) (hb : fb ρ μ = some (.bl b, μ)) : dOr fa fb ρ μ = some (.bl (a || b), μ) := by
  rw [eOr, ha, bnd_some]
  cases a
  · exact hb
  · rfl
theorem not_at {f : Den} {ρ : RO} {b : Bool} {μ1 : List MO} (h : f ρ μ = some (.bl b, μ1)) : dNot f ρ μ = some (.bl (!b), μ1) := by
  simp [eNot, h]
theorem tup2_at {fa fb : Den} {ρ : RO} {a b : DV} {μ1 μ2 : List MO} (ha : fa ρ μ = some (a, μ1)) (hb : fb ρ μ1 = some (b, μ2)) : dTup (aCons fa (aCons fb aNil)) ρ μ = some (.tup [a, b], μ2) := by
  simp only [dTup, aCons, aNil, ha, hb, bnd_some]
  rfl
theorem tup3_at {fa fb fc : Den} {ρ : RO} {a b c : DV} {μ1 μ2 μ3 : List MO} (ha : fa ρ μ = some (a, μ1)) (hb : fb ρ μ1 = some (b, μ2)) (hc : fc ρ μ2 = some (c, μ3)) : dTup (aCons fa (aCons fb (aCons fc aNil))) ρ μ = some (.tup [a, b, c], μ3) := by
  simp only [dTup, aCons, aNil, ha, hb, hc, bnd_some]
  rfl
theorem par_at {i j : Nat} {fa fb : Den} {ρ : RO} {a b : DV} {μ1 μ2 : List MO} (ha : fa ρ μ = some (a, μ1)) (hb : fb ρ μ1 = some (b, μ2)) : sPar2 i j (aCons fa (aCons fb aNil)) ρ μ = some (.nx ((ρ.set i (some a)).set j (some b)) μ2) := by
  simp only [sPar2, aCons, aNil, ha, hb, bnd_some]
theorem ret_at {f : Den} {ρ : RO} {d : DV} {μ1 : List MO} {k : DenS} (h : f ρ μ = some (d, μ1)) : sCons (sRet f) k ρ μ = some (.rt d μ1) := by
  rw [esCons, sRet, h, bnd_some]
  rfl
theorem iff_at {c : Den} {a b k : DenS} {ρ : RO} {μ1 : List MO} (h : c ρ μ = some (.bl false, μ1)) : sCons (sIf c a b) k ρ μ = sqO (b ρ μ1) k := by
  rw [esCons, esIf, h, bnd_some]
  rfl
theorem ift_at {c : Den} {a b k : DenS} {ρ : RO} {μ1 : List MO} (h : c ρ μ = some (.bl true, μ1)) : sCons (sIf c a b) k ρ μ = sqO (a ρ μ1) k := by
  rw [esCons, esIf, h, bnd_some]
  rfl
theorem ifn_at {c : Den} {a k : DenS} {ρ : RO} {μ1 : List MO} (h : c ρ μ = some (.bl false, μ1)) : sCons (sIf c a sNil) k ρ μ = k ρ μ1 := by
  rw [iff_at h]
  rfl
/-! ### opposites -/
def ngE (o : Option Int) : Option Int := o.map fun x => -x
def ngS : Sp → Sp
  | none => none
  | some (l, h) => some (ngE h, ngE l)
@[simp] theorem opposite_ok (o : Option Int) : V_opposite [oi o] μ = some (oi (ngE o), μ) := by
  cases o <;> (unfold V_opposite D_opposite; simp only [oi, ngE, Option.map]; walk_at "ex"; try simp [eNeg])
@[simp] theorem span_back_ok (s : Sp) : V_span_back [eS s] μ = some (eS (ngS s), μ) := by
  match s with
  | none => unfold V_span_back D_span_back; simp only [eS, ngS]; walk_at "ex"
  | some (l, h) => unfold V_span_back D_span_back; simp only [eS, ngS]; walk_at "ex"
@[simp] theorem l_turn_ok (s : Sp) : V_l_turn [eS s] μ = some (eS (ngS s), μ) := by
  match s with
  | none => unfold V_l_turn D_l_turn; simp only [eS, ngS]; walk_at "ex"
  | some (l, h) => cases l <;> cases h <;> (unfold V_l_turn D_l_turn; simp only [eS, ngS, oi, ngE, Option.map]; walk_at "ex")
theorem wS_ng (s : Sp) (h : wS s) : wS (ngS s) := by
  match s, h with
  | none, _ => exact trivial
  | some (none, none), _ => exact trivial
  | some (none, some x), _ => exact trivial
  | some (some x, none), _ => exact trivial
  | some (some x, some y), h =>
    have h : x ≤ y := h
    show -y ≤ -x
    omega
theorem holds_ng (s : Sp) (x : Int) : holds (ngS s) (-x) = holds s x := by
  match s with
  | none => rfl
  | some (l, u) =>
    cases l <;> cases u <;> simp [holds, loI, hiI, ngS, ngE, Bool.and_comm]
theorem ng_ng (s : Sp) : ngS (ngS s) = s := by
  match s with
  | none => rfl
  | some (l, u) => cases l <;> cases u <;> simp [ngS, ngE]
theorem ng_isNone (s : Sp) : (ngS s).isNone = s.isNone := by
  match s with
  | none => rfl
  | some (l, u) => rfl
def oneS : Sp := some (some 1, none)
theorem meet_neg (s : Sp) : ngS (meet s (some (none, some (-1)))) = meet (ngS s) oneS := by
  match s with
  | none => rfl
  | some (none, none) => rfl
  | some (none, some y) =>
    have e : -min y (-1) = max (-y) 1 := by omega
    simp [meet, ngS, ngE, oneS, maxL, minH, fromE, e]
  | some (some x, none) =>
    by_cases h : -1 < x
    · have h2 : -x < 1 := by omega
      simp [meet, ngS, ngE, oneS, maxL, minH, fromE, h, h2]
    · have h2 : ¬ -x < 1 := by omega
      simp [meet, ngS, ngE, oneS, maxL, minH, fromE, h, h2]
  | some (some x, some y) =>
    have e : -min y (-1) = max (-y) 1 := by omega
    by_cases h : min y (-1) < x
    · have h2 : -x < max (-y) 1 := by omega
      simp [meet, ngS, ngE, oneS, maxL, minH, fromE, h, h2]
    · have h2 : ¬ -x < max (-y) 1 := by omega
      simp [meet, ngS, ngE, oneS, maxL, minH, fromE, h, h2, e]
/-- what is met with all from 1 on -/
theorem meet_one (s : Sp) (h : wS s) : meet s oneS = none ∨ ∃ (a : Int) (b : Option Int), meet s oneS = some (some a, b) ∧ 1 ≤ a ∧ (∀ y, b = some y → a ≤ y) := by
  match s, h with
  | none, _ => exact .inl rfl
  | some (l, u), h =>
    cases l <;> cases u <;> simp only [meet, oneS, maxL, minH, fromE]
    · exact .inr ⟨1, none, rfl, by omega, fun _ e => nomatch e⟩
    · split
      · exact .inl rfl
      · exact .inr ⟨1, _, rfl, by omega, fun _ e => by cases e; omega⟩
    · exact .inr ⟨_, none, rfl, by omega, fun _ e => nomatch e⟩
    · split
      · exact .inl rfl
      · exact .inr ⟨_, _, rfl, by omega, fun _ e => by cases e; omega⟩
theorem oDiv_ok2 {i j : Int} (h1 : 0 < j) (h2 : j < 2 ^ 400) : oDiv (.int i) (.int j) μ = some (.int (i / j), μ) := by
  have b := log_lt (n := 400) (i := j) (by omega) h2
  unfold oDiv
  dsimp only
  rw [if_pos ⟨h1, by omega⟩]
theorem sh_S60 (s : Sp) : shD 60 (eS s) = true := sh_eS 59 s
/-! ### lists of numbers: the least and the greatest -/
theorem minI_some : ∀ {ns : List Int}, ns ≠ [] → ∃ m, minI ns = some m
  | [], h => absurd rfl h
  | n :: ns, _ => by
    cases h : minI (n :: ns) with
    | some m => exact ⟨m, rfl⟩
    | none =>
      unfold minI at h
      split at h <;> cases h
theorem maxI_some : ∀ {ns : List Int}, ns ≠ [] → ∃ m, maxI ns = some m
  | [], h => absurd rfl h
  | n :: ns, _ => by
    cases h : maxI (n :: ns) with
    | some m => exact ⟨m, rfl⟩
    | none =>
      unfold maxI at h
      split at h <;> cases h
theorem minI_is {xs : List Int} {m : Int} (h1 : m ∈ xs) (h2 : ∀ y ∈ xs, m ≤ y) : minI xs = some m := by
  obtain ⟨q, hq⟩ := minI_some (List.ne_nil_of_mem h1)
  rw [hq, minI_eq hq h1 h2]
theorem maxI_is {xs : List Int} {m : Int} (h1 : m ∈ xs) (h2 : ∀ y ∈ xs, y ≤ m) : maxI xs = some m := by
  obtain ⟨q, hq⟩ := maxI_some (List.ne_nil_of_mem h1)
  rw [hq, maxI_eq hq h1 h2]
theorem fmod_pos {x c : Int} (h : 0 < c) : Int.fmod x c = x % c := Int.fmod_eq_emod_of_nonneg _ (by omega)
theorem fmod_neg {x c : Int} (h : 0 < c) : Int.fmod x (-c) = -((-x) % c) := by
  rw [Int.fmod_eq_emod, Int.emod_neg]
  by_cases d : c ∣ x
  · rw [if_pos (.inr (Int.neg_dvd.mpr d)), Int.emod_eq_zero_of_dvd d, Int.emod_eq_zero_of_dvd (Int.dvd_neg.mpr d)]
    rfl
  · rw [if_neg (by
      rintro (z | z)
      · omega
      · exact d (Int.neg_dvd.mp z))]
    have h0 : x % c ≠ 0 := fun z => d (Int.dvd_of_emod_eq_zero z)
    have h1 := Int.emod_nonneg x (show c ≠ 0 by omega)
    have h2 := Int.emod_lt_of_pos x h
    have h3 := Int.mul_ediv_add_emod x c
    have e : -x = (c - x % c) + c * (-(x / c) - 1) := by
      rw [Int.mul_sub, Int.mul_neg]
      omega
    have e2 : (-x) % c = c - x % c := by
      rw [e, Int.add_mul_emod_self_left]
      exact Int.emod_eq_of_lt (by omega) (by omega)
    omega

end Lw

namespace Lw
open PySem PySem.Spec L2 Eg
local macro_rules | `(tactic| walk_at "ex") => `(tactic| simp [eFn, startD, esCons, sRet, esIf, sNil, sSet, sAsg, sExp, sPar2, sPar3, dVar, dC, dOp2, dCall, dBlt, dTup, dLst, dLstM, eIf, eAnd, eOr, eNot, eNeg, dIsi, eChain, aCons, aNil, gTu, gAnd, gNm, gSb, gEnd, dSl, runP, sFor, forL_nil, forL_cons, iSeq, iRange1, iRange2, oDiv_ok, oMod_ok, oPow_ok, oSub, oLt, oLe, oGt, oGe, oEq, oNe, oIs, oIsnt, xIx_t, xIx_l, xIx_m, xIx_s, oLen, oInt, oAbs, oMM, oTuple, oDivmod, oInN, flatL, DV.flat, dCallW, permI, oAll, blsD, oMax1, oMin1, maxI, minI, intsD, inV1, inV2, eqV, DV.isN, eqvD, eqvL, shD, shL, xItems_t, xItems_l, xItems_m, xLen_t, xLen_l, xLen_m, xLen_s, atI, ixN, DV.ty, kitT, sl_eq, *])
variable {μ : List MO}
/-! ### rests -/
abbrev Rs := Option (Int × Int)
def eR : Rs → DV
  | none => .tup []
  | some (n, d) => .tup [.int n, .int d]
def wR : Rs → Prop
  | none => True
  | some (n, d) => d = 0 ∨ (0 < d ∧ d ∣ 20160 ∧ 0 ≤ n ∧ n < d)
def rholds : Rs → Int → Bool
  | none, _ => false
  | some (n, d), x => if d = 0 then decide (n = x) else decide (x % d = n)
def rwith : Rs → Rs → Bool
  | none, _ => true
  | some _, none => false
  | some (n, d), some (m, e) => if e = 0 then decide (n = m ∧ d = e) else decide (d % e = 0) && rholds (some (m, e)) n
theorem emod_n {n d : Int} (hd : 0 < d) (h0 : 0 ≤ n) (h1 : n < d) : n % d = n := Int.emod_eq_of_lt h0 h1
@[simp] theorem eqv_R0 (r : Rs) : eqvD (eR r) (.tup []) = r.isNone := by
  match r with
  | none => rfl
  | some (n, d) => rfl
@[simp] theorem sh_eR (n : Nat) (r : Rs) : shD (n + 1) (eR r) = true := by
  match r with
  | none => rfl
  | some (a, b) => cases n <;> simp [eR, shD, shL]
@[simp] theorem eqv_RR (n d m e : Int) : eqvD (.tup [.int n, .int d]) (.tup [.int m, .int e]) = decide (n = m ∧ d = e) := by
  simp [eqvD, eqvL]
@[simp] theorem sm_eR (n : Nat) (r : Rs) : sm (n + 1) (eR r) = true := by
  match r with
  | none => rfl
  | some (a, b) => simp [eR]
@[simp] theorem few_eR (r : Rs) : fewD (eR r) = true := by
  match r with
  | none => rfl
  | some (a, b) => simp [eR]
@[simp] theorem bel_eR (n : Nat) (r : Rs) : DV.bel n (eR r) = true := by
  match r with
  | none => rfl
  | some (a, b) => simp [eR, DV.bel, DV.belL]
@[simp] theorem is_residue_ok (r : Rs) (h : wR r) : V_is_residue [eR r] μ = some (.bl true, μ) := by
  have key : ∀ ns : List Int, ns.length ≤ 2 → dLc (iSeq (dVar 0)) (bd1 1) dT (dCall V_is_whole (aCons (dVar 1) aNil)) [some (.tup (ns.map DV.int)), none, none] μ = some (.lst ((ns.map DV.int).map fun _ => DV.bl true), μ) := by
    intro ns hl
    refine dLc_map (ds := ns.map DV.int) (by simp [iSeq, dVar]) (by simp; omega) ?_ fun _ _ => rfl
    intro d hd
    obtain ⟨x, _, rfl⟩ := List.mem_map.mp hd
    exact ⟨_, rfl, fun μ' => by walk_at "ex"⟩
  unfold V_is_residue D_is_residue
  match r, h with
  | none, _ =>
    have k := key [] (by simp)
    simp only [List.map] at k
    simp only [eR]
    walk_at "ex"
  | some (n, d), .inl e =>
    have k := key [n, d] (by simp)
    simp only [List.map] at k
    subst e
    simp only [eR]
    walk_at "ex"
  | some (n, d), .inr ⟨hd, hv, h0, h1⟩ =>
    have k := key [n, d] (by simp)
    simp only [List.map] at k
    have z : (20160 : Int) % d = 0 := Int.emod_eq_zero_of_dvd hv
    have nz : d ≠ 0 := by omega
    have om : ∀ μ : List MO, oMod (.int 20160) (.int d) μ = some (.int 0, μ) := fun μ => by rw [oMod_ok hd, z]
    simp only [eR]
    walk_at "ex"
@[simp] theorem refuse_rest_ok (r : Rs) (h : wR r) : V_refuse_wrong_rest [eR r] μ = some (.non, μ) := by
  unfold V_refuse_wrong_rest D_refuse_wrong_rest; walk_at "ex"
@[simp] theorem refuse_rests_ok (r t : Rs) (h : wR r) (h2 : wR t) : V_refuse_wrong_rests [eR r, eR t] μ = some (.non, μ) := by
  unfold V_refuse_wrong_rests D_refuse_wrong_rests; walk_at "ex"
theorem residue_of_ok (x d : Int) (h : d = 0 ∨ 0 < d) : V_residue_of [.int x, .int d] μ = some (.tup [.int (if d = 0 then x else x % d), .int d], μ) := by
  unfold V_residue_of D_residue_of
  rcases h with rfl | h
  · walk_at "ex"
  · have nz : d ≠ 0 := by omega
    walk_at "ex"
@[simp] theorem residue_holds_ok (r : Rs) (x : Int) (h : wR r) : V_residue_holds [eR r, .int x] μ = some (.bl (rholds r x), μ) := by
  unfold V_residue_holds D_residue_holds
  match r, h with
  | none, _ => simp only [eR]; walk_at "ex"; rfl
  | some (n, d), h =>
    have e := fun μ => residue_of_ok (μ := μ) x d (by rcases h with h | h <;> omega)
    simp only [eR]
    walk_at "ex"
    unfold rholds
    by_cases z : d = 0
    · simp only [if_pos z]
      exact decide_eq_decide.mpr ⟨Eq.symm, Eq.symm⟩
    · simp only [if_neg z]
@[simp] theorem rest_holds_ok (r : Rs) (x : Int) (h : wR r) : V_rest_holds [eR r, .int x] μ = some (.bl (rholds r x), μ) := by
  unfold V_rest_holds D_rest_holds; walk_at "ex"
@[simp] theorem residue_within_ok (r t : Rs) (h : wR r) (h2 : wR t) : V_residue_within [eR r, eR t] μ = some (.bl (rwith r t), μ) := by
  unfold V_residue_within D_residue_within
  match r, t, h, h2 with
  | none, none, _, _ => simp only [eR]; walk_at "ex"; rfl
  | none, some (m, e), _, _ => simp only [eR]; walk_at "ex"; rfl
  | some (n, d), none, _, _ => simp only [eR]; walk_at "ex"; rfl
  | some (n, d), some (m, e), h, h2 =>
    have rh := fun μ => residue_holds_ok (μ := μ) (some (m, e)) n h2
    by_cases z : e = 0
    · subst z
      simp only [eR] at rh ⊢
      walk_at "ex"
      simp [rwith]
    · have e0 : 0 < e := by rcases h2 with h2 | h2 <;> omega
      simp only [eR] at rh ⊢
      walk_at "ex"
      simp only [rwith, if_neg z]
@[simp] theorem rest_within_ok (r t : Rs) (h : wR r) (h2 : wR t) : V_rest_within [eR r, eR t] μ = some (.bl (rwith r t), μ) := by
  unfold V_rest_within D_rest_within; walk_at "ex"
@[simp] theorem l_rest_has_ok (r : Rs) (x : Int) (h : wR r) : V_l_rest_has [eR r, .int x] μ = some (.bl (rholds r x), μ) := by
  unfold V_l_rest_has D_l_rest_has
  match r, h with
  | none, _ => simp only [eR]; walk_at "ex"; rfl
  | some (n, d), h =>
    by_cases z : d = 0
    · subst z
      simp only [eR]
      walk_at "ex"
      simp [rholds]
    · have hd : 0 < d := by rcases h with h | h <;> omega
      simp only [eR]
      walk_at "ex"
      simp [rholds, z]
/-! ### the greatest common divisor -/
theorem common_ok (a b : Int) (hb : b.natAbs < 2 ^ 200) : V_l_common [.int a, .int b] μ = some (.int (Int.gcd a b : Nat), μ) := by
  have step : ∀ (n x y : Nat), 0 < y → whL (dOp2 oNe (dVar 1) (dC (.int 0))) (sCons (sPar2 0 1 (aCons (dVar 1) (aCons (dOp2 oMod (dBlt oInt (aCons (dVar 0) aNil)) (dVar 1)) aNil))) sNil) (n + 1) [some (.int (x : Int)), some (.int (y : Int))] μ = whL (dOp2 oNe (dVar 1) (dC (.int 0))) (sCons (sPar2 0 1 (aCons (dVar 1) (aCons (dOp2 oMod (dBlt oInt (aCons (dVar 0) aNil)) (dVar 1)) aNil))) sNil) n [some (.int (y : Int)), some (.int ((x % y : Nat) : Int))] μ := by
    intro n x y hy
    have om : ∀ μ : List MO, oMod (.int (x : Int)) (.int (y : Int)) μ = some (.int ((x % y : Nat) : Int), μ) := fun μ => by
      rw [oMod_ok (by omega)]
      rfl
    have z : ¬ y = 0 := by omega
    have z' : ¬ (y : Int) = 0 := by omega
    rw [whL_succ]
    generalize hW : whL _ _ n = W
    simp [dOp2, dVar, dC, oNe, shD, eqvD, z', z, esCons, sPar2, aCons, aNil, dBlt, oInt, om, sNil]
  have stop : ∀ (n x : Nat), whL (dOp2 oNe (dVar 1) (dC (.int 0))) (sCons (sPar2 0 1 (aCons (dVar 1) (aCons (dOp2 oMod (dBlt oInt (aCons (dVar 0) aNil)) (dVar 1)) aNil))) sNil) (n + 1) [some (.int (x : Int)), some (.int ((0 : Nat) : Int))] μ = some (.nx [some (.int (x : Int)), some (.int ((0 : Nat) : Int))] μ) := by
    intro n x
    rw [whL_succ]
    simp [dOp2, dVar, dC, oNe, shD, eqvD]
  have key : ∀ (f n x y : Nat), y < 2 ^ f → 2 * f < n → whL (dOp2 oNe (dVar 1) (dC (.int 0))) (sCons (sPar2 0 1 (aCons (dVar 1) (aCons (dOp2 oMod (dBlt oInt (aCons (dVar 0) aNil)) (dVar 1)) aNil))) sNil) n [some (.int (x : Int)), some (.int (y : Int))] μ = some (.nx [some (.int (Nat.gcd x y : Nat)), some (.int ((0 : Nat) : Int))] μ) := by
    intro f
    induction f with
    | zero =>
      intro n x y h1 h2
      have : y = 0 := by omega
      subst this
      obtain ⟨m, rfl⟩ : ∃ m, n = m + 1 := ⟨n - 1, by omega⟩
      rw [stop, Nat.gcd_zero_right]
    | succ f ih =>
      intro n x y h1 h2
      obtain ⟨m, rfl⟩ : ∃ m, n = m + 1 + 1 := ⟨n - 2, by omega⟩
      by_cases z : y = 0
      · subst z
        rw [stop, Nat.gcd_zero_right]
      · have hy : 0 < y := by omega
        rw [step _ _ _ hy]
        have g1 : Nat.gcd x y = Nat.gcd y (x % y) := by rw [Nat.gcd_comm x y, Nat.gcd_rec y x, Nat.gcd_comm]
        have lt : x % y < y := Nat.mod_lt _ hy
        rw [g1]
        generalize x % y = r at *
        by_cases zr : r = 0
        · subst zr
          rw [stop, Nat.gcd_zero_right]
        · have hr : 0 < r := by omega
          rw [step _ _ _ hr]
          have g2 : Nat.gcd y r = Nat.gcd r (y % r) := by rw [Nat.gcd_comm y r, Nat.gcd_rec r y, Nat.gcd_comm]
          rw [g2]
          refine ih m r (y % r) ?_ (by omega)
          have l2 : y % r < r := Nat.mod_lt _ hr
          have l3 : r * (y / r) + y % r = y := Nat.div_add_mod y r
          have l4 : 1 ≤ y / r := Nat.div_pos (by omega) hr
          have l5 : r * 1 ≤ r * (y / r) := Nat.mul_le_mul_left _ l4
          have l6 : 2 ^ (f + 1) = 2 * 2 ^ f := by rw [Nat.pow_succ]; omega
          omega
  have k := key 200 Wn a.natAbs b.natAbs hb (by show _ < 1099511627776; omega)
  have a1 : ∀ (x : Int) (μ : List MO), oAbs [.int x] μ = some (.int (x.natAbs : Int), μ) := fun x μ => by
    simp [oAbs]
    split <;> omega
  unfold V_l_common D_l_common
  simp only [eFn, startD]
  simp [esCons, sPar2, aCons, aNil, dBlt, dVar, a1]
  rw [k]
  simp [esCons, sRet, dVar, Int.gcd]
/-! ### the least rest of some numbers -/
theorem least_ok (x0 : Int) (ys : List Int) (hl : ys.length ≤ 1000) (hb : ∀ x ∈ x0 :: ys, (x - x0).natAbs < 2 ^ 200) : ∃ by_ : Nat, V_l_least [.lst ((x0 :: ys).map DV.int)] μ = some (eR (if by_ = 0 then some (x0, 0) else some (x0 % (Nat.gcd by_ 20160 : Nat), (Nat.gcd by_ 20160 : Nat))), μ) ∧
    (∀ x ∈ x0 :: ys, (by_ : Int) ∣ x - x0) ∧ ∀ D : Int, (∀ x ∈ x0 :: ys, D ∣ x - x0) → D ∣ by_ := by
  have i0 : ∀ μ : List MO, oIx (.lst ((x0 :: ys).map DV.int)) (.int 0) μ = some (.int x0, μ) := fun μ => by
    have hat : atI ((x0 :: ys).map DV.int) ((0 : Nat) : Int) = some (.int x0) := atI_nat rfl
    rw [xIx_l, show (0 : Int) = ((0 : Nat) : Int) from rfl, hat]
    rfl
  have hne : ∀ μ : List MO, oEq (.lst ((x0 :: ys).map DV.int)) (.lst []) μ = some (.bl false, μ) := fun μ => by
    unfold oEq
    rw [sh_intsD, eqv_ints]
    rfl
  have hseq : ∀ μ : List MO, iSeq (dVar 0) [some (.lst ((x0 :: ys).map DV.int)), some (.int 0), none] μ = some ((x0 :: ys).map DV.int, μ) := fun μ => by
    simp [iSeq, dVar]
  generalize hX : x0 :: ys = xs at *
  have hx0 : x0 ∈ xs := by rw [← hX]; simp
  generalize hF0 : (DV.lst (xs.map DV.int)) = LL at *
  unfold V_l_least D_l_least
  simp [eFn, startD, esCons, esIf, sNil, dOp2, dVar, dLst, aNil, hne, sSet, dC]
  unfold sFor
  have hseq' := hseq μ
  simp only [hseq', bnd_some]
  generalize hF : forL _ _ _ _ _ = o
  obtain ⟨ρ2, μ2, rfl, by_, c2, rfl, rfl, p1, p2⟩ := forL_at hF (fun i ρ' μ' => ∃ (by_ : Nat) (c2 : Option DV), ρ' = [some LL, some (.int by_), c2] ∧ μ' = μ ∧ (∀ (k : Nat) (x : Int), k < i → xs[k]? = some x → (by_ : Int) ∣ x - x0) ∧ ∀ D : Int, (∀ x ∈ xs, D ∣ x - x0) → D ∣ by_)
    ⟨0, none, rfl, rfl, fun k x h => absurd h (by omega), fun D _ => Int.dvd_zero D⟩ (by
      rintro i dd ρ' μ' hd ⟨by_, c2, rfl, rfl, p1, p2⟩
      rw [List.getElem?_map] at hd
      obtain ⟨x, hx, rfl⟩ := Option.map_eq_some_iff.mp hd
      have xm : x ∈ xs := List.mem_of_getElem? hx
      have co := fun μ => common_ok (μ := μ) (by_ : Int) (x - x0) (by have := hb x xm; omega)
      refine ⟨_, _, _, _, rfl, ?_, Int.gcd by_ (x - x0), some (.int x), rfl, rfl, ?_, ?_⟩
      · simp [esCons, sSet, dCall, aCons, aNil, dOp2, dVar, dC, i0, oSub, co, sNil]
      · intro k y hk hy
        by_cases e : k = i
        · subst e
          rw [hx] at hy
          cases hy
          exact Int.gcd_dvd_right ..
        · exact Int.dvd_trans (Int.gcd_dvd_left ..) (p1 k y (by omega) hy)
      · intro D hD
        exact Int.dvd_coe_gcd (p2 D hD) (hD x xm))
  refine ⟨by_, ?_, ?_, p2⟩
  · by_cases z : by_ = 0
    · subst z
      simp [esCons, esIf, dOp2, dVar, dC, oEq, shD, eqvD, sRet, dTup, aCons, aNil, i0, sNil, eR]
    · have zi : ¬ (by_ : Int) = 0 := by omega
      have co := fun μ => common_ok (μ := μ) (by_ : Int) 20160 (by decide)
      have gg : Int.gcd (by_ : Int) 20160 = Nat.gcd by_ 20160 := rfl
      have gp : 0 < Nat.gcd by_ 20160 := Nat.gcd_pos_of_pos_right _ (by decide)
      rw [gg] at co
      generalize Nat.gcd by_ 20160 = G at *
      have om : ∀ μ : List MO, oMod (.int x0) (.int (G : Int)) μ = some (.int (x0 % (G : Int)), μ) := fun μ => oMod_ok (by omega)
      simp [esCons, esIf, dOp2, dVar, dC, oEq, shD, eqvD, sRet, dTup, aCons, aNil, i0, sNil, eR, z, zi, sSet, dCall, co, dBlt, oInt, om]
  · intro x hx
    obtain ⟨k, hk, e⟩ := List.mem_iff_getElem.mp hx
    exact p1 k x (by rw [List.length_map]; exact hk) (by rw [List.getElem?_eq_getElem hk, e])
theorem pickT_ok {k : Nat} {μ0 : List MO} {n : Nat} (w : Sr k μ0 n μ) (hn : n < 1152921504606846976) {ds : List DV} (h0 : 0 < ds.length) (h1 : ds.length < 1073741824) :
    ∃ d μ', V_l_pick [.mu k, .tup ds] μ = some (d, μ') ∧ d ∈ ds ∧ Sr k μ0 (n + 1) μ' := by
  obtain ⟨r, μ1, e1, r0, r1, w1⟩ := take_ok w hn (m := ds.length) (by omega) (by omega)
  have hr : r.toNat < ds.length := by omega
  refine ⟨ds[r.toNat], μ1, ?_, List.getElem_mem hr, w1⟩
  have hl : μ1.length = μ.length := by rw [w1.len, w.len]
  unfold V_l_pick D_l_pick
  walk_at "ex"
  rw [cutd_len hl]
theorem part_ok {k : Nat} {μ0 : List MO} {n : Nat} (w : Sr k μ0 n μ) (hn : n < 1152921504606800000) : ∃ d μ', V_l_part [.mu k] μ = some (.int d, μ') ∧ 0 < d ∧ d ≤ 20160 ∧ d ∣ 20160 ∧ Sr k μ0 (n + 4) μ' := by
  obtain ⟨d1, μ1, e1, h1, w1⟩ := pickT_ok w (by omega) (ds := [.int 1, .int 1, .int 2, .int 2, .int 4, .int 4, .int 8, .int 16, .int 32, .int 64]) (by simp) (by simp)
  obtain ⟨d2, μ2, e2, h2, w2⟩ := pickT_ok w1 (by omega) (ds := [.int 1, .int 1, .int 3, .int 9]) (by simp) (by simp)
  obtain ⟨d3, μ3, e3, h3, w3⟩ := pickT_ok w2 (by omega) (ds := [.int 1, .int 1, .int 1, .int 5]) (by simp) (by simp)
  obtain ⟨d4, μ4, e4, h4, w4⟩ := pickT_ok w3 (by omega) (ds := [.int 1, .int 1, .int 1, .int 7]) (by simp) (by simp)
  obtain ⟨a, rfl, a0, a1⟩ : ∃ a : Int, d1 = .int a ∧ 0 < a ∧ a ∣ 64 := by
    simp at h1
    rcases h1 with rfl | rfl | rfl | rfl | rfl | rfl | rfl <;> exact ⟨_, rfl, by decide, by decide⟩
  obtain ⟨b, rfl, b0, b1⟩ : ∃ a : Int, d2 = .int a ∧ 0 < a ∧ a ∣ 9 := by
    simp at h2
    rcases h2 with rfl | rfl | rfl <;> exact ⟨_, rfl, by decide, by decide⟩
  obtain ⟨c, rfl, c0, c1⟩ : ∃ a : Int, d3 = .int a ∧ 0 < a ∧ a ∣ 5 := by
    simp at h3
    rcases h3 with rfl | rfl <;> exact ⟨_, rfl, by decide, by decide⟩
  obtain ⟨d, rfl, dd0, dd1⟩ : ∃ a : Int, d4 = .int a ∧ 0 < a ∧ a ∣ 7 := by
    simp at h4
    rcases h4 with rfl | rfl <;> exact ⟨_, rfl, by decide, by decide⟩
  have hv : a * b * c * d ∣ 20160 := Int.mul_dvd_mul (Int.mul_dvd_mul (Int.mul_dvd_mul a1 b1) c1) dd1
  have hp : 0 < a * b * c * d := Int.mul_pos (Int.mul_pos (Int.mul_pos a0 b0) c0) dd0
  have hv1 : a * b ∣ 576 := Int.mul_dvd_mul a1 b1
  have hv2 : a * b * c ∣ 2880 := Int.mul_dvd_mul hv1 c1
  have l0 := Int.le_of_dvd (by decide) a1
  have l1 := Int.le_of_dvd (by decide) b1
  have l2 := Int.le_of_dvd (by decide) c1
  have l3 := Int.le_of_dvd (by decide) dd1
  have l4 := Int.le_of_dvd (by decide) hv1
  have l5 := Int.le_of_dvd (by decide) hv2
  have l6 := Int.le_of_dvd (by decide) hv
  have p4 := Int.mul_pos a0 b0
  have p5 := Int.mul_pos p4 c0
  have o1 : ∀ μ : List MO, oMul (.int a) (.int b) μ = some (.int (a * b), μ) := fun μ => oMul_ok (by omega) (by omega) (by omega) (by omega)
  have o2 : ∀ μ : List MO, oMul (.int (a * b)) (.int c) μ = some (.int (a * b * c), μ) := fun μ => oMul_ok (by omega) (by omega) (by omega) (by omega)
  have o3 : ∀ μ : List MO, oMul (.int (a * b * c)) (.int d) μ = some (.int (a * b * c * d), μ) := fun μ => oMul_ok (by omega) (by omega) (by omega) (by omega)
  have hl : μ4.length = μ.length := by rw [w4.len, w.len]
  refine ⟨a * b * c * d, μ4, ?_, hp, l6, hv, w4⟩
  unfold V_l_part D_l_part
  simp [eFn, startD, esCons, sSet, dCall, aCons, aNil, dVar, dTup, dC, e1, e2, sRet, dOp2, o1, e3, o2, e4, o3, cutd_len hl]
theorem rest_ok {k : Nat} {μ0 : List MO} {n : Nat} (w : Sr k μ0 n μ) (hn : n < 1152921504606790000) : ∃ r μ', V_l_rest [.mu k] μ = some (eR r, μ') ∧ wR r ∧ Sr k μ0 (n + 9) μ' := by
  obtain ⟨b, μ1, e1, b0, b1, w1⟩ := take_ok w (by omega) (m := 9) (by omega) (by omega)
  have l1 : μ1.length = μ.length := by rw [w1.len, w.len]
  unfold V_l_rest D_l_rest
  by_cases h3 : b < 3
  · by_cases z : b = 0
    · refine ⟨none, μ1, ?_, trivial, w1.mono (by omega)⟩
      subst z
      walk_at "ex"
      rw [cutd_len l1]
      rfl
    · obtain ⟨x, μ2, e2, _, w2⟩ := number_ok w1 (by omega)
      have l2 : μ2.length = μ.length := by rw [w2.len, w.len]
      refine ⟨some (x, 0), μ2, ?_, .inl rfl, w2.mono (by omega)⟩
      walk_at "ex"
      rw [cutd_len l2]
      rfl
  · obtain ⟨d, μ2, e2, d0, d1, d2, w2⟩ := part_ok w1 (by omega)
    obtain ⟨x, μ3, e3, x0, x1, w3⟩ := take_ok w2 (by omega) (m := d) d0 (by omega)
    have l3 : μ3.length = μ.length := by rw [w3.len, w.len]
    refine ⟨some (x, d), μ3, ?_, .inr ⟨d0, d2, x0, x1⟩, w3.mono (by omega)⟩
    walk_at "ex"
    rw [cutd_len l3]
    rfl

end Lw

namespace Lw
open PySem PySem.Spec L2 Eg
local macro_rules | `(tactic| walk_at "ex") => `(tactic| simp [eFn, startD, esCons, sRet, esIf, sNil, sSet, sAsg, sExp, sPar2, sPar3, dVar, dC, dOp2, dCall, dBlt, dTup, dLst, dLstM, eIf, eAnd, eOr, eNot, eNeg, dIsi, eChain, aCons, aNil, gTu, gAnd, gNm, gSb, gEnd, dSl, runP, sFor, forL_nil, forL_cons, iSeq, iRange1, iRange2, oDiv_ok, oMod_ok, oPow_ok, oSub, oLt, oLe, oGt, oGe, oEq, oNe, oIs, oIsnt, xIx_t, xIx_l, xIx_m, xIx_s, oLen, oInt, oAbs, oMM, oTuple, oDivmod, oInN, flatL, DV.flat, dCallW, permI, oAll, blsD, oMax1, oMin1, maxI, minI, intsD, inV1, inV2, eqV, DV.isN, eqvD, eqvL, shD, shL, xItems_t, xItems_l, xItems_m, xLen_t, xLen_l, xLen_m, xLen_s, atI, ixN, DV.ty, kitT, sl_eq, *])
variable {μ : List MO}
/-! ### joined rests -/
def rjoin (r s : Rs) : Rs := match r, s with
  | none, s => s
  | r, none => r
  | some (n, d), some (m, e) => if n = m ∧ d = e then some (n, d) else some (n % (gcdL [d, e, n - m, 20160] : Nat), (gcdL [d, e, n - m, 20160] : Nat))
@[simp] theorem rjoin_l (s : Rs) : rjoin none s = s := by cases s <;> rfl
@[simp] theorem rjoin_r (r : Rs) : rjoin r none = r := by
  match r with
  | none => rfl
  | some (n, d) => rfl
theorem gcdL_dvd {d e f c : Int} : ((gcdL [d, e, f, c] : Nat) : Int) ∣ d ∧ ((gcdL [d, e, f, c] : Nat) : Int) ∣ e ∧ ((gcdL [d, e, f, c] : Nat) : Int) ∣ f ∧ ((gcdL [d, e, f, c] : Nat) : Int) ∣ c := by
  have h : gcdL [d, e, f, c] = (((Nat.gcd 0 d.natAbs).gcd e.natAbs).gcd f.natAbs).gcd c.natAbs := rfl
  rw [h, Nat.gcd_zero_left]
  have a1 := Nat.gcd_dvd_left ((d.natAbs.gcd e.natAbs).gcd f.natAbs) c.natAbs
  have a2 := Nat.gcd_dvd_left (d.natAbs.gcd e.natAbs) f.natAbs
  refine ⟨Int.ofNat_dvd_left.mpr (Nat.dvd_trans a1 (Nat.dvd_trans a2 (Nat.gcd_dvd_left _ _))), Int.ofNat_dvd_left.mpr (Nat.dvd_trans a1 (Nat.dvd_trans a2 (Nat.gcd_dvd_right _ _))), Int.ofNat_dvd_left.mpr (Nat.dvd_trans a1 (Nat.gcd_dvd_right _ _)), Int.ofNat_dvd_left.mpr (Nat.gcd_dvd_right _ _)⟩
theorem dvd_gcdL {d e f c : Int} {g : Nat} (h1 : (g : Int) ∣ d) (h2 : (g : Int) ∣ e) (h3 : (g : Int) ∣ f) (h4 : (g : Int) ∣ c) : g ∣ gcdL [d, e, f, c] := by
  have h : gcdL [d, e, f, c] = (((Nat.gcd 0 d.natAbs).gcd e.natAbs).gcd f.natAbs).gcd c.natAbs := rfl
  rw [h, Nat.gcd_zero_left]
  exact Nat.dvd_gcd (Nat.dvd_gcd (Nat.dvd_gcd (Int.ofNat_dvd_left.mp h1) (Int.ofNat_dvd_left.mp h2)) (Int.ofNat_dvd_left.mp h3)) (Int.ofNat_dvd_left.mp h4)
theorem gcdL_pos (d e f : Int) : 0 < gcdL [d, e, f, 20160] := by
  have h : gcdL [d, e, f, 20160] = (((Nat.gcd 0 d.natAbs).gcd e.natAbs).gcd f.natAbs).gcd 20160 := rfl
  rw [h]
  exact Nat.gcd_pos_of_pos_right _ (by decide)
theorem wR_rjoin (r s : Rs) (w1 : wR r) (w2 : wR s) : wR (rjoin r s) := by
  match r, s with
  | none, s => simpa using w2
  | some (n, d), none => exact w1
  | some (n, d), some (m, e) =>
    unfold rjoin
    dsimp only
    by_cases c : n = m ∧ d = e
    · rw [if_pos c]; exact w1
    · rw [if_neg c]
      have p := gcdL_pos d e (n - m)
      have v := (gcdL_dvd (d := d) (e := e) (f := n - m) (c := 20160)).2.2.2
      exact .inr ⟨by omega, v, Int.emod_nonneg _ (by omega), Int.emod_lt_of_pos _ (by omega)⟩
@[simp] theorem residue_joined_ok (r s : Rs) (w1 : wR r) (w2 : wR s) : V_residue_joined [eR r, eR s] μ = some (eR (rjoin r s), μ) := by
  unfold V_residue_joined D_residue_joined
  match r, s with
  | none, s => walk_at "ex"
  | some (n, d), none => walk_at "ex"
  | some (n, d), some (m, e) =>
    have q0 : ∀ μ : List MO, oIx (eR (some (n, d))) (.int 0) μ = some (.int n, μ) := fun _ => rfl
    have q1 : ∀ μ : List MO, oIx (eR (some (n, d))) (.int 1) μ = some (.int d, μ) := fun _ => rfl
    have q2 : ∀ μ : List MO, oIx (eR (some (m, e))) (.int 0) μ = some (.int m, μ) := fun _ => rfl
    have q3 : ∀ μ : List MO, oIx (eR (some (m, e))) (.int 1) μ = some (.int e, μ) := fun _ => rfl
    have eq1 : ∀ μ : List MO, oEq (eR (some (n, d))) (eR (some (m, e))) μ = some (.bl (decide (n = m ∧ d = e)), μ) := fun μ => by
      unfold oEq
      rw [show eqvD (eR (some (n, d))) (eR (some (m, e))) = decide (n = m ∧ d = e) from eqv_RR n d m e]
      simp
    have eq2 : ∀ μ : List MO, oEq (eR (some (n, d))) (.tup []) μ = some (.bl false, μ) := fun _ => rfl
    have eq3 : ∀ μ : List MO, oEq (eR (some (m, e))) (.tup []) μ = some (.bl false, μ) := fun _ => rfl
    have gc : ∀ μ : List MO, oGcd [.int d, .int e, .int (n - m), .int 20160] μ = some (.int (gcdL [d, e, n - m, 20160] : Nat), μ) := fun _ => rfl
    have p := gcdL_pos d e (n - m)
    have ro := fun μ => residue_of_ok (μ := μ) n ((gcdL [d, e, n - m, 20160] : Nat) : Int) (by omega)
    unfold rjoin
    dsimp only
    by_cases c : n = m ∧ d = e
    · rw [if_pos c]
      have c1 : decide (n = m ∧ d = e) = true := decide_eq_true c
      rw [c1] at eq1
      clear c c1
      simp [eFn, startD, esCons, esIf, dOp2, dVar, dTup, aNil, eq2, eq3, eOr, eq1, sRet, sNil]
    · rw [if_neg c]
      have nz : gcdL [d, e, n - m, 20160] ≠ 0 := by omega
      generalize gcdL [d, e, n - m, 20160] = G at *
      have c1 : decide (n = m ∧ d = e) = false := decide_eq_false c
      rw [c1] at eq1
      refine Eq.trans (b := some (.tup [.int (n % (G : Int)), .int (G : Int)], μ)) ?_ rfl
      simp [eFn, startD, esCons, esIf, dOp2, dVar, dTup, aNil, eq2, eq3, eOr, eq1, sRet, sNil, dCall, aCons, dC, q0, q1, q2, q3, oSub, dBlt, gc, ro, nz]
@[simp] theorem rest_joined_ok (r s : Rs) (w1 : wR r) (w2 : wR s) : V_rest_joined [eR r, eR s] μ = some (eR (rjoin r s), μ) := by
  unfold V_rest_joined D_rest_joined; walk_at "ex"
def twoOf : Rs → List Int
  | none => []
  | some (n, d) => [n, n + d]
@[simp] theorem two_of_ok (r : Rs) : V_l_two_of [eR r] μ = some (.lst ((twoOf r).map DV.int), μ) := by
  unfold V_l_two_of D_l_two_of
  match r with
  | none => simp only [eR]; walk_at "ex"; rfl
  | some (n, d) => simp only [eR]; walk_at "ex"; simp [twoOf]
@[simp] theorem least_nil : V_l_least [.lst []] μ = some (.tup [], μ) := by
  unfold V_l_least D_l_least
  walk_at "ex"
def bR (r : Rs) : Prop := match r with
  | none => True
  | some (n, d) => n.natAbs < 2 ^ 190 ∧ d.natAbs ≤ 20160
theorem least_join (r s : Rs) (w1 : wR r) (w2 : wR s) (b1 : bR r) (b2 : bR s) : V_l_least [.lst ((twoOf r ++ twoOf s).map DV.int)] μ = some (eR (rjoin r s), μ) := by
  have sole : ∀ n d : Int, wR (some (n, d)) → bR (some (n, d)) → V_l_least [.lst ([n, n + d].map DV.int)] μ = some (eR (some (n, d)), μ) := by
    intro n d w b
    obtain ⟨g, e1, e2, e3⟩ := least_ok (μ := μ) n [n + d] (by simp) (fun x hx => by
      simp at hx
      have := b.2
      rcases hx with rfl | rfl <;> omega)
    rw [e1]
    have v1 : (g : Int) ∣ d := by have := e2 (n + d) (by simp); rwa [show n + d - n = d by omega] at this
    have v2 : d ∣ g := e3 d fun x hx => by
      simp at hx
      rcases hx with rfl | rfl
      · simp
      · rw [show n + d - n = d by omega]; exact Int.dvd_refl d
    rcases w with rfl | ⟨hd, hv, h0, h1⟩
    · have : (g : Int) = 0 := Int.zero_dvd.mp v2
      have : g = 0 := by omega
      rw [if_pos this]
    · have ed : (g : Int) = d := Int.dvd_antisymm (by omega) (by omega) v1 v2
      have gg : Nat.gcd g 20160 = g := Nat.gcd_eq_left (by rw [← ed] at hv; exact Int.natCast_dvd_natCast.mp hv)
      rw [if_neg (by omega), gg, ed, emod_n hd h0 h1]
  match r, s with
  | none, none => exact least_nil
  | none, some (m, e) => exact sole m e w2 b2
  | some (n, d), none => exact sole n d w1 b1
  | some (n, d), some (m, e) =>
    obtain ⟨g, e1, e2, e3⟩ := least_ok (μ := μ) n [n + d, m, m + e] (by simp) (fun x hx => by
      have k1 := b1.1
      have k2 := b1.2
      have k3 := b2.1
      have k4 := b2.2
      simp at hx
      rcases hx with rfl | rfl | rfl | rfl <;> omega)
    show V_l_least [.lst ([n, n + d, m, m + e].map DV.int)] μ = _
    rw [e1]
    have v1 : (g : Int) ∣ d := by have := e2 (n + d) (by simp); rwa [show n + d - n = d by omega] at this
    have v2 : (g : Int) ∣ m - n := e2 m (by simp)
    have v3 : (g : Int) ∣ e := by
      have := Int.dvd_sub (e2 (m + e) (by simp)) v2
      rwa [show m + e - n - (m - n) = e by omega] at this
    have v4 : ∀ D : Int, D ∣ d → D ∣ m - n → D ∣ e → D ∣ g := fun D k1 k2 k3 => e3 D fun x hx => by
      simp at hx
      rcases hx with rfl | rfl | rfl | rfl
      · simp
      · rw [show n + d - n = d by omega]; exact k1
      · exact k2
      · rw [show m + e - n = m - n + e by omega]; exact Int.dvd_add k2 k3
    unfold rjoin
    dsimp only
    by_cases c : n = m ∧ d = e
    · rw [if_pos c]
      obtain ⟨rfl, rfl⟩ := c
      have v2' : d ∣ g := v4 d (Int.dvd_refl d) (by simp) (Int.dvd_refl d)
      rcases w1 with rfl | ⟨hd, hv, h0, h1⟩
      · have : (g : Int) = 0 := Int.zero_dvd.mp v2'
        have : g = 0 := by omega
        rw [if_pos this]
      · have ed : (g : Int) = d := Int.dvd_antisymm (by omega) (by omega) v1 v2'
        have gg : Nat.gcd g 20160 = g := Nat.gcd_eq_left (by rw [← ed] at hv; exact Int.natCast_dvd_natCast.mp hv)
        rw [if_neg (by omega), gg, ed, emod_n hd h0 h1]
    · rw [if_neg c]
      have nz : g ≠ 0 := by
        rintro rfl
        have z1 := Int.zero_dvd.mp v1
        have z2 := Int.zero_dvd.mp v2
        have z3 := Int.zero_dvd.mp v3
        exact c ⟨by omega, by omega⟩
      have eG : Nat.gcd g 20160 = gcdL [d, e, n - m, 20160] := by
        obtain ⟨k1, k2, k3, k4⟩ := gcdL_dvd (d := d) (e := e) (f := n - m) (c := 20160)
        apply Nat.dvd_antisymm
        · have l1 : ((Nat.gcd g 20160 : Nat) : Int) ∣ g := Int.natCast_dvd_natCast.mpr (Nat.gcd_dvd_left _ _)
          refine dvd_gcdL (Int.dvd_trans l1 v1) (Int.dvd_trans l1 v3) ?_ (Int.natCast_dvd_natCast.mpr (Nat.gcd_dvd_right _ _))
          have := Int.dvd_trans l1 v2
          rw [show n - m = -(m - n) by omega]
          exact Int.dvd_neg.mpr this
        · refine Nat.dvd_gcd (Int.natCast_dvd_natCast.mp (v4 _ k1 ?_ k2)) (Int.natCast_dvd_natCast.mp k4)
          rw [show m - n = -(n - m) by omega]
          exact Int.dvd_neg.mpr k3
      rw [if_neg nz, eG]
/-! ### within -/
theorem inside_ok (r s : Rs) (w1 : wR r) (w2 : wR s) : V_l_rest_inside [eR r, eR s] μ = some (.bl (rwith r s), μ) := by
  have key : ∀ (ρ : RO) (μ : List MO), ρ[0]? = some (some (eR r)) → ρ[1]? = some (some (eR s)) → ρ.length = 3 → dLc (iSeq (dCall V_l_two_of (aCons (dVar 0) aNil))) (bd1 2) dT (dCall V_l_rest_has (aCons (dVar 1) (aCons (dVar 2) aNil))) ρ μ = some (.lst ((twoOf r).map fun x => .bl (rholds s x)), μ) := by
    intro ρ μ h0 h1 h3
    have := dLc_map (fi := iSeq (dCall V_l_two_of (aCons (dVar 0) aNil))) (bd := bd1 2) (elt := dCall V_l_rest_has (aCons (dVar 1) (aCons (dVar 2) aNil))) (ds := (twoOf r).map DV.int) (g := fun d => match d with | .int x => .bl (rholds s x) | _ => .non) (ρ := ρ) (μ := μ) (by simp [iSeq, dCall, aCons, aNil, dVar, h0]) (by
        match r with
        | none => simp [twoOf]
        | some (n, d) => simp [twoOf]) (fun d hd => by
        obtain ⟨x, _, rfl⟩ := List.mem_map.mp hd
        refine ⟨_, rfl, fun μ' => ?_⟩
        have z1 : (ρ.set 2 (some (.int x)))[1]? = some (some (eR s)) := by rw [List.getElem?_set_ne (by decide)]; exact h1
        have z2 : (ρ.set 2 (some (.int x)))[2]? = some (some (.int x)) := List.getElem?_set_self (by omega)
        simp [dCall, aCons, aNil, dVar, z1, z2, w2]) (fun d hd => by
        obtain ⟨x, _, rfl⟩ := List.mem_map.mp hd
        rfl)
    rw [this, List.map_map]
    rfl
  have k := fun μ => key [some (eR r), some (eR s), none] μ rfl rfl rfl
  unfold V_l_rest_inside D_l_rest_inside
  match r, s, w1, w2 with
  | none, s, _, _ =>
    simp only [twoOf, List.map] at k
    have rt : rwith none s = true := by cases s <;> rfl
    rw [rt]
    simp [eFn, startD, esCons, sRet, dBlt, aCons, aNil, k, oAll, blsD]
  | some (n, d), none, _, _ =>
    simp only [twoOf, List.map] at k
    simp [eFn, startD, esCons, sRet, dBlt, aCons, aNil, k, oAll, blsD, rholds, rwith]
  | some (n, d), some (m, e), _, w2 =>
    simp only [twoOf, List.map] at k
    simp [eFn, startD, esCons, sRet, dBlt, aCons, aNil, k, oAll, blsD]
    rcases w2 with rfl | ⟨he, _, h0, h1⟩
    · simp only [rholds, rwith, if_pos]
      rw [Bool.eq_iff_iff]
      simp
      omega
    · have nz : e ≠ 0 := by omega
      simp only [rholds, rwith, if_neg nz]
      rw [Bool.eq_iff_iff]
      simp
      constructor
      · rintro ⟨a1, a2⟩
        refine ⟨?_, a1⟩
        have : (n + d - n) % e = 0 := by rw [Int.sub_emod, a2, a1]; simp
        rwa [show n + d - n = d by omega] at this
      · rintro ⟨a1, a2⟩
        refine ⟨a2, ?_⟩
        rw [Int.add_emod, a2, a1]
        simp
        exact emod_n he h0 h1

end Lw

namespace Lw
open PySem PySem.Spec L2 Eg
local macro_rules | `(tactic| walk_at "ex") => `(tactic| simp [eFn, startD, esCons, sRet, esIf, sNil, sSet, sAsg, sExp, sPar2, sPar3, dVar, dC, dOp2, dCall, dBlt, dTup, dLst, dLstM, eIf, eAnd, eOr, eNot, eNeg, dIsi, eChain, aCons, aNil, gTu, gAnd, gNm, gSb, gEnd, dSl, runP, sFor, forL_nil, forL_cons, iSeq, iRange1, iRange2, oDiv_ok, oMod_ok, oPow_ok, oSub, oLt, oLe, oGt, oGe, oEq, oNe, oIs, oIsnt, xIx_t, xIx_l, xIx_m, xIx_s, oLen, oInt, oAbs, oMM, oTuple, oDivmod, oInN, flatL, DV.flat, dCallW, permI, oAll, blsD, oMax1, oMin1, maxI, minI, intsD, inV1, inV2, eqV, DV.isN, eqvD, eqvL, shD, shL, xItems_t, xItems_l, xItems_m, xLen_t, xLen_l, xLen_m, xLen_s, atI, ixN, DV.ty, kitT, sl_eq, *])
variable {μ : List MO}
def bQ : Rs → Prop
  | none => True
  | some (n, d) => -2535301200456458802993406410752 < n ∧ n < 2535301200456458802993406410752 ∧ 0 ≤ d ∧ d ≤ 20160
theorem bQ.bR {r : Rs} (h : bQ r) : bR r := by
  match r, h with
  | none, _ => trivial
  | some (n, d), ⟨h1, h2, h3, h4⟩ => exact ⟨by show n.natAbs < 1569275433846670190958947355801916604025588861116008628224; omega, by omega⟩
theorem bR_of {n d : Int} (h1 : -1000000000000000000000000000000000000 < n) (h2 : n < 1000000000000000000000000000000000000) (h3 : 0 ≤ d) (h4 : d ≤ 20160) : bR (some (n, d)) :=
  ⟨by show n.natAbs < 1569275433846670190958947355801916604025588861116008628224; omega, by omega⟩
theorem restQ_ok {k : Nat} {μ0 : List MO} {n : Nat} (w : Sr k μ0 n μ) (hn : n < 1152921504606790000) : ∃ r μ', V_l_rest [.mu k] μ = some (eR r, μ') ∧ wR r ∧ bQ r ∧ Sr k μ0 (n + 9) μ' := by
  obtain ⟨b, μ1, e1, b0, b1, w1⟩ := take_ok w (by omega) (m := 9) (by omega) (by omega)
  have l1 : μ1.length = μ.length := by rw [w1.len, w.len]
  unfold V_l_rest D_l_rest
  by_cases h3 : b < 3
  · by_cases z : b = 0
    · refine ⟨none, μ1, ?_, trivial, trivial, w1.mono (by omega)⟩
      subst z
      walk_at "ex"
      rw [cutd_len l1]
      try rfl
    · obtain ⟨x, μ2, e2, ⟨q1, q2⟩, w2⟩ := number_ok w1 (by omega)
      have l2 : μ2.length = μ.length := by rw [w2.len, w.len]
      refine ⟨some (x, 0), μ2, ?_, .inl rfl, ⟨by omega, by omega, by omega, by omega⟩, w2.mono (by omega)⟩
      walk_at "ex"
      rw [cutd_len l2]
      try rfl
  · obtain ⟨d, μ2, e2, d0, d1, d2, w2⟩ := part_ok w1 (by omega)
    obtain ⟨x, μ3, e3, x0, x1, w3⟩ := take_ok w2 (by omega) (m := d) d0 (by omega)
    have l3 : μ3.length = μ.length := by rw [w3.len, w.len]
    refine ⟨some (x, d), μ3, ?_, .inr ⟨d0, d2, x0, x1⟩, ⟨by omega, by omega, by omega, by omega⟩, w3.mono (by omega)⟩
    walk_at "ex"
    rw [cutd_len l3]
    try rfl
def bT : Rs → Prop
  | none => True
  | some (n, d) => -1000000000000000000000000000000000000 < n ∧ n < 1000000000000000000000000000000000000 ∧ 0 ≤ d ∧ d ≤ 20160
theorem bT_of {n d : Int} (h1 : -1000000000000000000000000000000000000 < n) (h2 : n < 1000000000000000000000000000000000000) (h3 : 0 ≤ d) (h4 : d ≤ 20160) : bT (some (n, d)) := ⟨h1, h2, h3, h4⟩
theorem bQ.bT {r : Rs} (h : bQ r) : bT r := by
  match r, h with
  | none, _ => trivial
  | some (n, d), ⟨h1, h2, h3, h4⟩ => exact ⟨by omega, by omega, h3, h4⟩
theorem bT.bR {r : Rs} (h : bT r) : bR r := by
  match r, h with
  | none, _ => trivial
  | some (n, d), ⟨h1, h2, h3, h4⟩ => exact bR_of h1 h2 h3 h4
theorem rest_near_ok {k : Nat} {μ0 : List MO} {n : Nat} (w : Sr k μ0 n μ) (hn : n < 1152921504606700000) (r : Rs) (hw : wR r) (hb : bQ r) : ∃ s μ', V_l_rest_near [.mu k, eR r] μ = some (eR s, μ') ∧ wR s ∧ bT s ∧ Sr k μ0 (n + 20) μ' := by
  unfold V_l_rest_near D_l_rest_near
  match r, hb with
  | none, _ =>
    obtain ⟨r, μ1, e1, hr, hq, w1⟩ := restQ_ok w (by omega)
    have l1 : μ1.length = μ.length := by rw [w1.len, w.len]
    refine ⟨r, μ1, ?_, hr, hq.bT, w1.mono (by omega)⟩
    simp only [show eR none = DV.tup [] from rfl]
    walk_at "ex"
    rw [cutd_len l1]
  | some (a, d), ⟨p1, p2, p3, p4⟩ =>
    obtain ⟨b, μ1, e1, b0, b1, w1⟩ := take_ok w (by omega) (m := 4) (by omega) (by omega)
    by_cases z : b = 0
    · obtain ⟨r, μ2, e2, hr, hq, w2⟩ := restQ_ok w1 (by omega)
      have l2 : μ2.length = μ.length := by rw [w2.len, w.len]
      refine ⟨r, μ2, ?_, hr, hq.bT, w2.mono (by omega)⟩
      subst z
      simp only [eR]
      walk_at "ex"
      rw [cutd_len l2]
      try rfl
    · obtain ⟨t, μ2, e2, t0, t1, w2⟩ := take_ok w1 (by omega) (m := 7) (by omega) (by omega)
      obtain ⟨u, μ3, e3, hu, w3⟩ := pickT_ok w2 (by omega) (ds := [.int 0, .int 0, .int 0, .int 1, .int (d / 2)]) (by simp) (by simp)
      obtain ⟨y, rfl, y0, y1⟩ : ∃ y : Int, u = .int y ∧ 0 ≤ y ∧ y ≤ 20160 := by
        simp at hu
        rcases hu with rfl | rfl | rfl
        · exact ⟨_, rfl, by omega, by omega⟩
        · exact ⟨_, rfl, by omega, by omega⟩
        · exact ⟨_, rfl, by omega, by omega⟩
      obtain ⟨c, μ4, e4, c0, c1, w4⟩ := take_ok w3 (by omega) (m := 4) (by omega) (by omega)
      have l4 : μ4.length = μ.length := by rw [w4.len, w.len]
      have mu1 : ∀ μ : List MO, oMul (.int d) (.int (t - 3)) μ = some (.int (d * (t - 3)), μ) := fun μ => oMul_ok (by omega) (by omega) (by omega) (by omega)
      have bnd1 : -60480 ≤ d * (t - 3) ∧ d * (t - 3) ≤ 60480 := by
        have : t = 0 ∨ t = 1 ∨ t = 2 ∨ t = 3 ∨ t = 4 ∨ t = 5 ∨ t = 6 := by omega
        rcases this with rfl | rfl | rfl | rfl | rfl | rfl | rfl <;> omega
      generalize d * (t - 3) = P at *
      by_cases zc : c = 0
      · refine ⟨some (a + P + y, 0), μ4, ?_, .inl rfl, bT_of (by omega) (by omega) (by omega) (by omega), w4.mono (by omega)⟩
        subst zc
        simp only [eR]
        walk_at "ex"
        rw [cutd_len l4]
        try rfl
      · obtain ⟨e, μ5, e5, q0, q1, q2, w5⟩ := part_ok w4 (by omega)
        have l5 : μ5.length = μ.length := by rw [w5.len, w.len]
        have om : ∀ μ : List MO, oMod (.int (a + P + y)) (.int e) μ = some (.int ((a + P + y) % e), μ) := fun μ => oMod_ok q0
        have m0 := Int.emod_nonneg (a + P + y) (show e ≠ 0 by omega)
        have m1 := Int.emod_lt_of_pos (a + P + y) q0
        refine ⟨some ((a + P + y) % e, e), μ5, ?_, .inr ⟨q0, q2, m0, m1⟩, bT_of (by omega) (by omega) (by omega) (by omega), w5.mono (by omega)⟩
        simp only [eR]
        walk_at "ex"
        rw [cutd_len l5]
        try rfl
theorem join_in (r s : Rs) (w1 : wR r) (w2 : wR s) (h : rwith s r = true) : rjoin r s = r := by
  match r, s, w1, w2 with
  | none, none, _, _ => rfl
  | none, some (m, e), _, _ => simp [rwith] at h
  | some (n, d), none, _, _ => rfl
  | some (n, d), some (m, e), w1, w2 =>
    unfold rjoin
    dsimp only
    by_cases c : n = m ∧ d = e
    · rw [if_pos c]
    · rw [if_neg c]
      rcases w1 with rfl | ⟨hd, hv, h0, h1⟩
      · simp [rwith] at h
        exact absurd ⟨h.1.symm, h.2.symm⟩ c
      · have nz : d ≠ 0 := by omega
        simp only [rwith, if_neg nz, rholds, Bool.and_eq_true] at h
        obtain ⟨k1, k2⟩ := h
        have k1 : e % d = 0 := of_decide_eq_true k1
        have k2 : m % d = n := of_decide_eq_true k2
        obtain ⟨x, rfl⟩ : ∃ x : Nat, d = x := ⟨d.toNat, by omega⟩
        have v : (x : Int) ∣ n - m := Int.dvd_of_emod_eq_zero (by rw [Int.sub_emod, k2, emod_n hd h0 h1]; simp)
        have a := dvd_gcdL (g := x) (d := (x : Int)) (e := e) (f := n - m) (c := 20160) (Int.dvd_refl _) (Int.dvd_of_emod_eq_zero k1) v hv
        have b := Int.natCast_dvd_natCast.mp (gcdL_dvd (d := (x : Int)) (e := e) (f := n - m) (c := 20160)).1
        have g := Nat.dvd_antisymm b a
        rw [g, emod_n hd h0 h1]
theorem within_join1 (r s : Rs) (w1 : wR r) (w2 : wR s) : rwith r (rjoin r s) = true ∧ rwith s (rjoin r s) = true := by
  have self : ∀ r : Rs, wR r → rwith r r = true := by
    intro r w
    match r, w with
    | none, _ => rfl
    | some (n, d), .inl e => subst e; simp [rwith]
    | some (n, d), .inr ⟨hd, hv, h0, h1⟩ =>
      have nz : d ≠ 0 := by omega
      simp [rwith, nz, rholds, emod_n hd h0 h1]
  match r, s, w1, w2 with
  | none, s, _, w2 => rw [rjoin_l]; exact ⟨by cases s <;> rfl, self s w2⟩
  | some (n, d), none, w1, _ => exact ⟨self _ w1, rfl⟩
  | some (n, d), some (m, e), w1, w2 =>
    unfold rjoin
    dsimp only
    by_cases c : n = m ∧ d = e
    · rw [if_pos c]
      obtain ⟨rfl, rfl⟩ := c
      exact ⟨self _ w1, self _ w1⟩
    · rw [if_neg c]
      have gp := gcdL_pos d e (n - m)
      obtain ⟨g1, g2, g3, g4⟩ := gcdL_dvd (d := d) (e := e) (f := n - m) (c := 20160)
      generalize gcdL [d, e, n - m, 20160] = G at *
      have nz : (G : Int) ≠ 0 := by omega
      have k2 : m % (G : Int) = n % (G : Int) := by
        have := Int.emod_eq_zero_of_dvd g3
        have e1 : m = n - (n - m) := by omega
        rw [e1, Int.sub_emod, this]
        simp
      have nz0 : G ≠ 0 := by omega
      simp [rwith, nz, nz0, rholds, k2, Int.emod_eq_zero_of_dvd g1, Int.emod_eq_zero_of_dvd g2]
@[simp] theorem eqv_RRs (r s : Rs) : eqvD (eR r) (eR s) = decide (r = s) := by
  match r, s with
  | none, none => rfl
  | none, some (m, e) => rfl
  | some (n, d), none => rfl
  | some (n, d), some (m, e) => rw [show eqvD (eR (some (n, d))) (eR (some (m, e))) = decide (n = m ∧ d = e) from eqv_RR n d m e]; simp
theorem ne_R (r s : Rs) (μ : List MO) : oNe (eR r) (eR s) μ = some (.bl (!decide (r = s)), μ) := by
  unfold oNe
  rw [eqv_RRs]
  simp
theorem eq_R (r s : Rs) (μ : List MO) : oEq (eR r) (eR s) μ = some (.bl (decide (r = s)), μ) := by
  unfold oEq
  rw [eqv_RRs]
  simp

def bB (B : Int) : Rs → Prop
  | none => True
  | some (n, d) => -B < n ∧ n < B ∧ 0 ≤ d ∧ d ≤ 20160
theorem bQ.bB {r : Rs} (h : bQ r) {B : Int} (hB : 2535301200456458802993406410752 ≤ B) : bB B r := by
  match r, h with
  | none, _ => trivial
  | some (n, d), ⟨h1, h2, h3, h4⟩ => exact ⟨by omega, by omega, h3, h4⟩
theorem bB.mono {r : Rs} {B C : Int} (h : bB B r) (hB : B ≤ C) : bB C r := by
  match r, h with
  | none, _ => trivial
  | some (n, d), ⟨h1, h2, h3, h4⟩ => exact ⟨by omega, by omega, h3, h4⟩
theorem bB.bT {r : Rs} {B : Int} (h : bB B r) (hB : B ≤ 1000000000000000000000000000000000000) : bT r := by
  match r, h with
  | none, _ => trivial
  | some (n, d), ⟨h1, h2, h3, h4⟩ => exact ⟨by omega, by omega, h3, h4⟩
theorem rest_nearB_ok {k : Nat} {μ0 : List MO} {n : Nat} (w : Sr k μ0 n μ) (hn : n < 1152921504606700000) (r : Rs) (hw : wR r) {B : Int} (hB0 : 2535301200456458802993406410752 ≤ B) (hB1 : B ≤ 100000000000000000000000000000000000) (hb : bB B r) : ∃ s μ', V_l_rest_near [.mu k, eR r] μ = some (eR s, μ') ∧ wR s ∧ bB (B + 100000) s ∧ Sr k μ0 (n + 20) μ' := by
  unfold V_l_rest_near D_l_rest_near
  match r, hb with
  | none, _ =>
    obtain ⟨r, μ1, e1, hr, hq, w1⟩ := restQ_ok w (by omega)
    have l1 : μ1.length = μ.length := by rw [w1.len, w.len]
    refine ⟨r, μ1, ?_, hr, hq.bB (by omega), w1.mono (by omega)⟩
    simp only [show eR none = DV.tup [] from rfl]
    walk_at "ex"
    rw [cutd_len l1]
  | some (a, d), ⟨p1, p2, p3, p4⟩ =>
    obtain ⟨b, μ1, e1, b0, b1, w1⟩ := take_ok w (by omega) (m := 4) (by omega) (by omega)
    by_cases z : b = 0
    · obtain ⟨r, μ2, e2, hr, hq, w2⟩ := restQ_ok w1 (by omega)
      have l2 : μ2.length = μ.length := by rw [w2.len, w.len]
      refine ⟨r, μ2, ?_, hr, hq.bB (by omega), w2.mono (by omega)⟩
      subst z
      simp only [eR]
      walk_at "ex"
      rw [cutd_len l2]
      try rfl
    · obtain ⟨t, μ2, e2, t0, t1, w2⟩ := take_ok w1 (by omega) (m := 7) (by omega) (by omega)
      obtain ⟨u, μ3, e3, hu, w3⟩ := pickT_ok w2 (by omega) (ds := [.int 0, .int 0, .int 0, .int 1, .int (d / 2)]) (by simp) (by simp)
      obtain ⟨y, rfl, y0, y1⟩ : ∃ y : Int, u = .int y ∧ 0 ≤ y ∧ y ≤ 20160 := by
        simp at hu
        rcases hu with rfl | rfl | rfl
        · exact ⟨_, rfl, by omega, by omega⟩
        · exact ⟨_, rfl, by omega, by omega⟩
        · exact ⟨_, rfl, by omega, by omega⟩
      obtain ⟨c, μ4, e4, c0, c1, w4⟩ := take_ok w3 (by omega) (m := 4) (by omega) (by omega)
      have l4 : μ4.length = μ.length := by rw [w4.len, w.len]
      have mu1 : ∀ μ : List MO, oMul (.int d) (.int (t - 3)) μ = some (.int (d * (t - 3)), μ) := fun μ => oMul_ok (by omega) (by omega) (by omega) (by omega)
      have bnd1 : -60480 ≤ d * (t - 3) ∧ d * (t - 3) ≤ 60480 := by
        have : t = 0 ∨ t = 1 ∨ t = 2 ∨ t = 3 ∨ t = 4 ∨ t = 5 ∨ t = 6 := by omega
        rcases this with rfl | rfl | rfl | rfl | rfl | rfl | rfl <;> omega
      generalize d * (t - 3) = P at *
      by_cases zc : c = 0
      · refine ⟨some (a + P + y, 0), μ4, ?_, .inl rfl, ⟨by omega, by omega, by omega, by omega⟩, w4.mono (by omega)⟩
        subst zc
        simp only [eR]
        walk_at "ex"
        rw [cutd_len l4]
        try rfl
      · obtain ⟨e, μ5, e5, q0, q1, q2, w5⟩ := part_ok w4 (by omega)
        have l5 : μ5.length = μ.length := by rw [w5.len, w.len]
        have om : ∀ μ : List MO, oMod (.int (a + P + y)) (.int e) μ = some (.int ((a + P + y) % e), μ) := fun μ => oMod_ok q0
        have m0 := Int.emod_nonneg (a + P + y) (show e ≠ 0 by omega)
        have m1 := Int.emod_lt_of_pos (a + P + y) q0
        refine ⟨some ((a + P + y) % e, e), μ5, ?_, .inr ⟨q0, q2, m0, m1⟩, ⟨by omega, by omega, by omega, by omega⟩, w5.mono (by omega)⟩
        simp only [eR]
        walk_at "ex"
        rw [cutd_len l5]
        try rfl

end Lw

namespace Lw
open PySem PySem.Spec L2 Eg
local macro_rules | `(tactic| walk_at "ex") => `(tactic| simp [eFn, startD, esCons, sRet, esIf, sNil, sSet, sAsg, sExp, sPar2, sPar3, dVar, dC, dOp2, dCall, dBlt, dTup, dLst, dLstM, eIf, eAnd, eOr, eNot, eNeg, dIsi, eChain, aCons, aNil, gTu, gAnd, gNm, gSb, gEnd, dSl, runP, sFor, forL_nil, forL_cons, iSeq, iRange1, iRange2, oDiv_ok, oMod_ok, oPow_ok, oSub, oLt, oLe, oGt, oGe, oEq, oNe, oIs, oIsnt, xIx_t, xIx_l, xIx_m, xIx_s, oLen, oInt, oAbs, oMM, oTuple, oDivmod, oInN, flatL, DV.flat, dCallW, permI, oAll, blsD, oMax1, oMin1, maxI, minI, intsD, inV1, inV2, eqV, DV.isN, eqvD, eqvL, shD, shL, xItems_t, xItems_l, xItems_m, xLen_t, xLen_l, xLen_m, xLen_s, atI, ixN, DV.ty, kitT, sl_eq, *])
variable {μ : List MO}
theorem a1_at {f : Den} {ρ : RO} {d : DV} {μ1 : List MO} (h : f ρ μ = some (d, μ1)) : aCons f aNil ρ μ = some ([d], μ1) := by
  simp only [aCons, aNil, h, bnd_some]
theorem exp_at {f : Den} {ρ : RO} {d : DV} {μ1 : List MO} {k : DenS} (h : f ρ μ = some (d, μ1)) : sCons (sExp f) k ρ μ = k ρ μ1 := by
  rw [esCons, sExp, h, bnd_some, sqO_nx]
theorem sets_at {i : Nat} {f : Den} {ρ : RO} {d : DV} {μ1 : List MO} {k : DenS} (h : f ρ μ = some (d, μ1)) : sCons (sSet i f) k ρ μ = k (ρ.set i (some d)) μ1 := by
  rw [esCons, set_at h, sqO_nx]
theorem fn1_at {N : List Str} {body : DenS} {a r : DV} {μ1 : List MO} (h : endO μ (body (startD N [a]) μ) = some (r, μ1)) : mkFn 1 N body [a] μ = some (r, μ1) := by
  rw [eFn, if_pos (show [a].length = 1 from rfl)]
  exact h
theorem fn2_at {N : List Str} {body : DenS} {a b r : DV} {μ1 : List MO} (h : endO μ (body (startD N [a, b]) μ) = some (r, μ1)) : mkFn 2 N body [a, b] μ = some (r, μ1) := by
  rw [eFn, if_pos (show [a, b].length = 2 from rfl)]
  exact h
theorem rt_end {d : DV} {k : DenS} : endO μ (sqO (some (.rt d μ)) k) = some (d, μ) := by
  rw [sqO_rt, endO_rt]
  exact cutd_self
theorem rt_end1 {d : DV} : endO μ (some (.rt d μ)) = some (d, μ) := by
  rw [endO_rt]
  exact cutd_self
theorem ifr_at {c f : Den} {k : DenS} {ρ : RO} {t : Bool} {d r : DV} (h : c ρ μ = some (.bl t, μ)) (h1 : t = true → f ρ μ = some (r, μ) ∧ r = d) (h2 : t = false → endO μ (k ρ μ) = some (d, μ)) : endO μ (sCons (sIf c (sCons (sRet f) sNil) sNil) k ρ μ) = some (d, μ) := by
  cases t with
  | true =>
    obtain ⟨e, rfl⟩ := h1 rfl
    rw [ift_at h, ret_at e, rt_end]
  | false =>
    rw [ifn_at h]
    exact h2 rfl
theorem retd_at {f : Den} {ρ : RO} {d : DV} (h : f ρ μ = some (d, μ)) : endO μ (sCons (sRet f) sNil ρ μ) = some (d, μ) := by
  rw [ret_at h, rt_end1]
theorem ort_at {fa fb : Den} {ρ : RO} {μ1 : List MO} (h : fa ρ μ = some (.bl true, μ1)) : dOr fa fb ρ μ = some (.bl true, μ1) := by
  simp only [dOr, h, bnd_some]
theorem orf_at {fa fb : Den} {ρ : RO} {r : RE} {μ1 : List MO} (h : fa ρ μ = some (.bl false, μ1)) (k : fb ρ μ1 = r) : dOr fa fb ρ μ = r := by
  simp only [dOr, h, bnd_some, k]
theorem andf_at {fa fb : Den} {ρ : RO} {μ1 : List MO} (h : fa ρ μ = some (.bl false, μ1)) : dAnd fa fb ρ μ = some (.bl false, μ1) := by
  simp only [dAnd, h, bnd_some]
theorem andt_at {fa fb : Den} {ρ : RO} {r : RE} {μ1 : List MO} (h : fa ρ μ = some (.bl true, μ1)) (k : fb ρ μ1 = r) : dAnd fa fb ρ μ = r := by
  simp only [dAnd, h, bnd_some, k]
theorem var_at {ρ : RO} {i : Nat} {d : DV} (h : ρ[i]? = some (some d)) : dVar i ρ μ = some (d, μ) := by simp [dVar, h]
theorem len_at {ρ : RO} {v : Nat} {xs : List DV} (h : ρ[v]? = some (some (.tup xs))) : dBlt oLen (aCons (dVar v) aNil) ρ μ = some (.int (xs.length : Int), μ) := by
  rw [dBlt, a1_at (var_at h), bnd_some]
  rfl
theorem ifd_at {fc fa fb : Den} {ρ : RO} {t : Bool} {μ1 : List MO} (h : fc ρ μ = some (.bl t, μ1)) : dIf fc fa fb ρ μ = if t = true then fa ρ μ1 else fb ρ μ1 := by
  rw [eIf, h, bnd_some]
  cases t <;> rfl
theorem tup1_at {f : Den} {ρ : RO} {a : DV} {μ1 : List MO} (h : f ρ μ = some (a, μ1)) : dTup (aCons f aNil) ρ μ = some (.tup [a], μ1) := by
  simp only [dTup, aCons, aNil, h, bnd_some]
  rfl
theorem tup4_at {fa fb fc fd : Den} {ρ : RO} {a b c d : DV} (ha : fa ρ μ = some (a, μ)) (hb : fb ρ μ = some (b, μ)) (hc : fc ρ μ = some (c, μ)) (hd : fd ρ μ = some (d, μ)) : dTup (aCons fa (aCons fb (aCons fc (aCons fd aNil)))) ρ μ = some (.tup [a, b, c, d], μ) := by
  simp only [dTup, aCons, aNil, ha, hb, hc, hd, bnd_some]
  rfl
theorem addT {xs ys : List DV} (h : xs.length + ys.length ≤ 1000) : oAdd (.tup xs) (.tup ys) μ = some (.tup (xs ++ ys), μ) := by
  have l : xs.length + ys.length ≤ sizeLine := by rw [sl_eq]; omega
  show (if _ then _ else _) = _
  rw [if_pos l]
theorem addL {xs ys : List DV} (h : xs.length + ys.length ≤ 1000) : oAdd (.lst xs) (.lst ys) μ = some (.lst (xs ++ ys), μ) := by
  have l : xs.length + ys.length ≤ sizeLine := by rw [sl_eq]; omega
  show (if _ then _ else _) = _
  rw [if_pos l]
theorem atI_nat {ds : List DV} {i : Nat} {d : DV} (h : ds[i]? = some d) : atI ds (i : Int) = some d := by
  refine atI_of (by omega) ?_
  rw [Int.toNat_natCast]
  exact h
theorem oIx_tup {ds : List DV} {i : Int} {d : DV} (h : atI ds i = some d) : oIx (.tup ds) (.int i) μ = some (d, μ) := by
  simp only [xIx_t, h]
  rfl
theorem blsD_map {α : Type} (xs : List α) (p : α → Bool) : blsD (xs.map fun x => DV.bl (p x)) = some (xs.map p) := by
  induction xs with
  | nil => rfl
  | cons x xs ih => simp [blsD, ih]
theorem callw1_at {F : FD} {fa : Den} {ρ : RO} {a r : DV} {μ1 μ2 : List MO} (ha : fa ρ μ = some (a, μ1)) (h : F [a] μ1 = some (r, μ2)) : dCallW 1 [0] F (aCons fa aNil) ρ μ = some (r, μ2) := by
  simp [dCallW, permI, aCons, aNil, ha, h]
theorem callw2_at {F : FD} {fa fb : Den} {ρ : RO} {a b r : DV} {μ1 μ2 μ3 : List MO} (ha : fa ρ μ = some (a, μ1)) (hb : fb ρ μ1 = some (b, μ2)) (h : F [b, a] μ2 = some (r, μ3)) : dCallW 2 [1, 0] F (aCons fa (aCons fb aNil)) ρ μ = some (r, μ3) := by
  simp [dCallW, permI, aCons, aNil, ha, hb, h]
theorem cut_lo {xs : List DV} {j : Nat} (h : j ≤ xs.length) : cutD xs none (some (j : Int)) = xs.take j := by
  unfold cutD
  rw [HT.sIx_none, HT.sIx_nat, Nat.min_eq_left h]
  simp
theorem cut_hi {xs : List DV} {j : Nat} (h : j ≤ xs.length) : cutD xs (some (j : Int)) none = xs.drop j := by
  unfold cutD
  rw [HT.sIx_none, HT.sIx_nat, Nat.min_eq_left h]
  exact List.take_of_length_le (by simp)
theorem put_eq {α : Type} {xs : List α} {j : Nat} {x : α} (h : j < xs.length) : xs.take j ++ [x] ++ xs.drop (j + 1) = xs.set j x := by
  rw [List.set_eq_take_append_cons_drop, if_pos h]
  simp
/-- all([W(x) for x in xs]) -/
theorem alls_at {e : Den} {p : DV → Bool} {ρ : RO} {v b : Nat} {xs : List DV} (h : ρ[v]? = some (some (.tup xs))) (hz : xs.length ≤ 1000) (hW : ∀ x ∈ xs, ∀ μ' : List MO, e (ρ.set b (some x)) μ' = some (.bl (p x), μ')) :
    dBlt oAll (aCons (dLc (iSeq (dVar v)) (bd1 b) dT e) aNil) ρ μ = some (.bl (xs.all p), μ) := by
  have lc : dLc (iSeq (dVar v)) (bd1 b) dT e ρ μ = some (.lst (xs.map fun x => DV.bl (p x)), μ) :=
    dLc_map (ds := xs) (g := fun x => DV.bl (p x)) (by simp [iSeq, dVar, h]) (by omega) (fun x hx => ⟨_, rfl, fun μ' => hW x hx μ'⟩) fun _ _ => rfl
  rw [dBlt, a1_at lc, bnd_some]
  show (match blsD (xs.map fun x => DV.bl (p x)) with
    | some bs => some (DV.bl (bs.all id), μ)
    | none => none) = _
  rw [blsD_map]
  show some (DV.bl ((xs.map p).all id), μ) = _
  rw [List.all_map]
  rfl
/-! ### things of any kind, closed, so many deep -/
mutual
def tg (m B : Nat) : Nat → DV → Bool
  | _, .non => true
  | _, .bl _ => true
  | _, .int i => decide (i.natAbs ≤ B)
  | _, .str _ => true
  | k + 1, .tup xs => decide (xs.length ≤ m) && tgL m B k xs
  | k + 1, .lst xs => tgL m B k xs
  | _, .dic [] => true
  | _, _ => false
def tgL (m B : Nat) : Nat → List DV → Bool
  | _, [] => true
  | k, x :: xs => tg m B k x && tgL m B k xs
end
theorem tgL_iff {m B k : Nat} : ∀ {xs : List DV}, tgL m B k xs = true ↔ ∀ x ∈ xs, tg m B k x = true
  | [] => by simp [tgL]
  | x :: xs => by
    rw [tgL, Bool.and_eq_true, tgL_iff (xs := xs)]
    simp
theorem tg_tup {m B k : Nat} {xs : List DV} : tg m B (k + 1) (.tup xs) = true ↔ xs.length ≤ m ∧ ∀ x ∈ xs, tg m B k x = true := by
  rw [tg, Bool.and_eq_true, tgL_iff, decide_eq_true_eq]
theorem tg_lst {m B k : Nat} {xs : List DV} : tg m B (k + 1) (.lst xs) = true ↔ ∀ x ∈ xs, tg m B k x = true := by
  rw [tg, tgL_iff]
theorem tg_tup0 {m B k : Nat} {xs : List DV} (h : tg m B k (.tup xs) = true) : ∃ j, k = j + 1 ∧ xs.length ≤ m ∧ ∀ x ∈ xs, tg m B j x = true := by
  cases k with
  | zero => simp [tg] at h
  | succ j => exact ⟨j, rfl, tg_tup.mp h⟩
mutual
theorem tg_up {m m' B B' : Nat} (hm : m ≤ m') (hB : B ≤ B') : ∀ {k k' : Nat} {d : DV}, k ≤ k' → tg m B k d = true → tg m' B' k' d = true
  | _, _, .non, _, _ => by simp [tg]
  | _, _, .bl _, _, _ => by simp [tg]
  | _, _, .int i, _, h => by
    rw [tg, decide_eq_true_eq] at h ⊢
    omega
  | _, _, .str _, _, _ => by simp [tg]
  | 0, _, .tup _, _, h => by simp [tg] at h
  | k + 1, 0, .tup _, hk, _ => by omega
  | k + 1, k' + 1, .tup xs, hk, h => by
    rw [tg, Bool.and_eq_true, decide_eq_true_eq] at h ⊢
    exact ⟨by omega, tgL_up hm hB (by omega) h.2⟩
  | 0, _, .lst _, _, h => by simp [tg] at h
  | k + 1, 0, .lst _, hk, _ => by omega
  | k + 1, k' + 1, .lst xs, hk, h => by
    rw [tg] at h ⊢
    exact tgL_up hm hB (by omega) h
  | _, _, .dic [], _, _ => by simp [tg]
  | _, _, .dic (_ :: _), _, h => by simp [tg] at h
  | _, _, .exc _ _, _, h => by simp [tg] at h
  | _, _, .mu _, _, h => by simp [tg] at h
  | _, _, .rg _ _, _, h => by simp [tg] at h
  | _, _, .fn _, _, h => by simp [tg] at h
theorem tgL_up {m m' B B' : Nat} (hm : m ≤ m') (hB : B ≤ B') : ∀ {k k' : Nat} {xs : List DV}, k ≤ k' → tgL m B k xs = true → tgL m' B' k' xs = true
  | _, _, [], _, _ => by simp [tgL]
  | _, _, x :: xs, hk, h => by
    rw [tgL, Bool.and_eq_true] at h ⊢
    exact ⟨tg_up hm hB hk h.1, tgL_up hm hB hk h.2⟩
end
mutual
theorem tg_bel {m B n : Nat} : ∀ {k : Nat} {d : DV}, tg m B k d = true → DV.bel n d = true
  | _, .non, _ => rfl
  | _, .bl _, _ => rfl
  | _, .int _, _ => rfl
  | _, .str _, _ => rfl
  | 0, .tup _, h => by simp [tg] at h
  | k + 1, .tup xs, h => by
    rw [tg, Bool.and_eq_true] at h
    exact tgL_bel h.2
  | 0, .lst _, h => by simp [tg] at h
  | k + 1, .lst xs, h => by
    rw [tg] at h
    exact tgL_bel h
  | _, .dic [], _ => rfl
  | _, .dic (_ :: _), h => by simp [tg] at h
  | _, .exc _ _, h => by simp [tg] at h
  | _, .mu _, h => by simp [tg] at h
  | _, .rg _ _, h => by simp [tg] at h
  | _, .fn _, h => by simp [tg] at h
theorem tgL_bel {m B n : Nat} : ∀ {k : Nat} {xs : List DV}, tgL m B k xs = true → DV.belL n xs = true
  | _, [], _ => rfl
  | _, x :: xs, h => by
    rw [tgL, Bool.and_eq_true] at h
    rw [DV.belL, tg_bel h.1, tgL_bel h.2]
    rfl
end
theorem tg_any {m B k : Nat} {d : DV} (h : tg m B k d = true) : isAny d = true := by
  cases d <;> first | rfl | simp [tg] at h
/-- whether a thing is a whole number, is None -/
def isI : DV → Bool
  | .int _ => true
  | _ => false
def isT : DV → Bool
  | .tup _ => true
  | _ => false
def isIB : DV → Bool
  | .int _ => true
  | .bl _ => true
  | _ => false
theorem isi_tup {m B k : Nat} {d : DV} {f : Den} {ρ : RO} {μ1 : List MO} (h : tg m B k d = true) (e : f ρ μ = some (d, μ1)) : dIsi "tuple" f ρ μ = some (.bl (isT d), μ1) := by
  unfold dIsi
  rw [e, bnd_some]
  cases d <;> first | rfl | simp [tg] at h
theorem isi_int {m B k : Nat} {d : DV} {f : Den} {ρ : RO} {μ1 : List MO} (h : tg m B k d = true) (e : f ρ μ = some (d, μ1)) : dIsi "int" f ρ μ = some (.bl (isIB d), μ1) := by
  unfold dIsi
  rw [e, bnd_some]
  cases d <;> first | rfl | simp [tg] at h
theorem whole_any {m B k : Nat} {d : DV} (h : tg m B k d = true) : V_is_whole [d] μ = some (.bl (isI d), μ) := by
  unfold V_is_whole D_is_whole
  cases d <;> first | (simp [tg] at h; done) | (walk_at "ex"; try rfl)
theorem lwhole_any {m B k : Nat} {d : DV} (h : tg m B k d = true) : V_l_is_whole [d] μ = some (.bl (isI d), μ) := by
  unfold V_l_is_whole D_l_is_whole
  cases d <;> first | (simp [tg] at h; done) | (walk_at "ex"; try rfl)
def isNI (d : DV) : Bool := DV.isN d || isI d

end Lw

namespace Lw
open PySem PySem.Spec L2 Eg
local macro_rules | `(tactic| walk_at "ex") => `(tactic| simp [eFn, startD, esCons, sRet, esIf, sNil, sSet, sAsg, sExp, sPar2, sPar3, dVar, dC, dOp2, dCall, dBlt, dTup, dLst, dLstM, eIf, eAnd, eOr, eNot, eNeg, dIsi, eChain, aCons, aNil, gTu, gAnd, gNm, gSb, gEnd, dSl, runP, sFor, forL_nil, forL_cons, iSeq, iRange1, iRange2, oDiv_ok, oMod_ok, oPow_ok, oSub, oLt, oLe, oGt, oGe, oEq, oNe, oIs, oIsnt, xIx_t, xIx_l, xIx_m, xIx_s, oLen, oInt, oAbs, oMM, oTuple, oDivmod, oInN, flatL, DV.flat, dCallW, permI, oAll, blsD, oMax1, oMin1, maxI, minI, intsD, inV1, inV2, eqV, DV.isN, eqvD, eqvL, shD, shL, xItems_t, xItems_l, xItems_m, xLen_t, xLen_l, xLen_m, xLen_s, atI, ixN, DV.ty, kitT, sl_eq, *])
variable {μ : List MO}
/-! ### looks at things of any kind -/
def leI : DV → DV → Bool
  | .int x, .int y => decide (x ≤ y)
  | _, _ => false
/-- whether a thing is a stretch -/
def spanB : DV → Bool
  | .tup [] => true
  | .tup [a, b] => (isNI a && isNI b) && (DV.isN a || (DV.isN b || leI a b))
  | _ => false
/-- whether a thing is a rest -/
def residB : DV → Bool
  | .tup [] => true
  | .tup [.int n, .int d] => if d = 0 then true else decide (0 < d) && (decide (Int.fmod 20160 d = 0) && (decide (0 ≤ n) && decide (n < d)))
  | _ => false
theorem end_any {m B k : Nat} {d : DV} (h : tg m B k d = true) : V_is_end [d] μ = some (.bl (isNI d), μ) := by
  unfold V_is_end D_is_end
  refine fn1_at (retd_at ?_)
  show dOr _ _ [some d] μ = _
  have hi : dOp2 oIs (dVar 0) (dC .non) [some d] μ = some (.bl (DV.isN d), μ) := op2_at (a := d) (b := .non) rfl rfl rfl
  unfold isNI
  cases hn : DV.isN d with
  | true => rw [hn] at hi; exact ort_at hi
  | false =>
    rw [hn] at hi
    exact orf_at hi (call1_at (a := d) rfl (whole_any h))
theorem len3 {a b c : DV} {xs : List DV} : spanB (.tup (a :: b :: c :: xs)) = false := rfl
theorem isT_tup {d : DV} (h : isT d = true) : ∃ xs, d = .tup xs := by
  cases d <;> first | exact ⟨_, rfl⟩ | cases h
theorem isT_not {d : DV} (h : isT d = false) : spanB d = false ∧ residB d = false := by
  cases d <;> first | exact ⟨rfl, rfl⟩ | cases h
theorem oth_len {xs : List DV} (h : ¬ (xs.length = 0 ∨ xs.length = 2)) : spanB (.tup xs) = false ∧ residB (.tup xs) = false := by
  match xs, h with
  | [], h => simp at h
  | [_], _ => exact ⟨rfl, by simp [residB]⟩
  | [_, _], h => simp at h
  | _ :: _ :: _ :: _, _ => exact ⟨rfl, by simp [residB]⟩
theorem len0B {xs : List DV} (h : ¬ (xs.length : Int) = 2) : spanB (.tup xs) = decide ((xs.length : Int) = 0) ∧ residB (.tup xs) = decide ((xs.length : Int) = 0) := by
  by_cases l0 : xs.length = 0
  · have : xs = [] := List.length_eq_zero_iff.mp l0
    subst this
    exact ⟨rfl, by simp [residB]⟩
  · obtain ⟨a, b⟩ := oth_len (xs := xs) (by omega)
    rw [a, b, decide_eq_false (by omega)]
    exact ⟨rfl, rfl⟩
theorem isI_int {a : DV} (h : isI a = true) : ∃ i, a = .int i := by
  cases a <;> first | exact ⟨_, rfl⟩ | cases h
theorem of_nd {p : Prop} [Decidable p] (h : (!decide p) = false) : p := by
  by_cases q : p
  · exact q
  · rw [decide_eq_false q] at h
    cases h
theorem ni_int {a : DV} (h : isNI a = true) (hn : DV.isN a = false) : ∃ i, a = .int i := by
  cases a <;> first | exact ⟨_, rfl⟩ | (simp [isNI, isI, DV.isN] at h; done) | (simp [DV.isN] at hn; done)
theorem nin_at {n : Nat} : oNin (.int (n : Int)) (.tup [.int 0, .int 2]) μ = some (.bl (!decide (n = 0 ∨ n = 2)), μ) := by
  by_cases h0 : n = 0
  · subst h0
    rfl
  · by_cases h2 : n = 2
    · subst h2
      rfl
    · have a : ((0 : Int) == (n : Int)) = false := by simpa using (by omega : ¬ (0 : Int) = (n : Int))
      have b : ((2 : Int) == (n : Int)) = false := by simpa using (by omega : ¬ (2 : Int) = (n : Int))
      rw [decide_eq_false (not_or.mpr ⟨h0, h2⟩)]
      walk_at "ex"
theorem span_any {m B k : Nat} {d : DV} (h : tg m B k d = true) (hm : m ≤ 1000) : V_is_span [d] μ = some (.bl (spanB d), μ) := by
  have it := fun (c1 : Option DV) => isi_tup (μ1 := μ) (f := dVar 0) (ρ := [some d, c1]) (μ := μ) h rfl
  unfold V_is_span D_is_span
  refine fn1_at ?_
  show endO μ (sCons _ _ [some d, none] μ) = _
  by_cases ht : isT d = true
  · obtain ⟨xs, rfl⟩ := isT_tup ht
    obtain ⟨j, rfl, hl, hx⟩ := tg_tup0 h
    have c1 : dOp2 oNin (dBlt oLen (aCons (dVar 0) aNil)) (dTup (aCons (dC (.int 0)) (aCons (dC (.int 2)) aNil))) [some (.tup xs), none] μ = some (.bl (!decide (xs.length = 0 ∨ xs.length = 2)), μ) := op2_at (len_at rfl) (b := .tup [.int 0, .int 2]) rfl nin_at
    refine ifr_at (r := .bl false) (orf_at (not_at (it none)) c1) (fun e => ⟨rfl, ?_⟩) fun e => ?_
    · have : ¬ (xs.length = 0 ∨ xs.length = 2) := by simpa using e
      rw [(oth_len this).1]
    · have ln : xs.length = 0 ∨ xs.length = 2 := of_nd e
      have aw := alls_at (μ := μ) (e := dCall V_is_end (aCons (dVar 1) aNil)) (p := isNI) (ρ := [some (.tup xs), none]) (v := 0) (b := 1) rfl (by omega) fun x hxx μ' => call1_at (a := x) rfl (end_any (hx x hxx))
      refine ifr_at (r := .bl false) (not_at aw) (fun e => ⟨rfl, ?_⟩) fun e => ?_
      · have na : xs.all isNI = false := by simpa using e
        match xs, ln, na with
        | [], _, na => cases na
        | [a, b], _, na =>
          have : (isNI a && isNI b) = false := by simpa using na
          simp [spanB, this]
      · have ha : xs.all isNI = true := by simpa using e
        refine retd_at ?_
        match xs, ln, ha with
        | [], _, _ => exact ort_at (op2_at (len_at rfl) (b := .int 0) rfl rfl)
        | [a, b], _, ha =>
          have ha' : isNI a = true ∧ isNI b = true := by simpa using ha
          have z : dOp2 oEq (dBlt oLen (aCons (dVar 0) aNil)) (dC (.int 0)) [some (.tup [a, b]), none] μ = some (.bl false, μ) := op2_at (len_at rfl) (b := .int 0) rfl rfl
          have i0 : dOp2 oIx (dVar 0) (dC (.int 0)) [some (.tup [a, b]), none] μ = some (a, μ) := op2_at (a := .tup [a, b]) (b := .int 0) rfl rfl rfl
          have i1 : dOp2 oIx (dVar 0) (dC (.int 1)) [some (.tup [a, b]), none] μ = some (b, μ) := op2_at (a := .tup [a, b]) (b := .int 1) rfl rfl rfl
          have n0 := op2_at (o := oIs) i0 (fb := dC .non) (b := .non) rfl (r := .bl (DV.isN a)) rfl
          have n1 := op2_at (o := oIs) i1 (fb := dC .non) (b := .non) rfl (r := .bl (DV.isN b)) rfl
          refine orf_at z ?_
          simp only [spanB, ha'.1, ha'.2, Bool.and_self, Bool.true_and]
          cases hna : DV.isN a with
          | true => rw [hna] at n0; exact ort_at n0
          | false =>
            rw [hna] at n0
            refine orf_at n0 ?_
            cases hnb : DV.isN b with
            | true => rw [hnb] at n1; exact ort_at n1
            | false =>
              rw [hnb] at n1
              refine orf_at n1 (op2_at i0 i1 ?_)
              obtain ⟨i, rfl⟩ := ni_int ha'.1 hna
              obtain ⟨j, rfl⟩ := ni_int ha'.2 hnb
              rfl
  · have ht : isT d = false := by simpa using ht
    rw [ht] at it
    exact ifr_at (t := true) (r := .bl false) (ort_at (not_at (it none))) (fun _ => ⟨rfl, by rw [(isT_not ht).1]⟩) fun e => by cases e
theorem lspan_any {m B k : Nat} {d : DV} (h : tg m B k d = true) (hm : m ≤ 1000) : V_l_is_stretch [d] μ = some (.bl (spanB d), μ) := by
  have it := fun (c1 : Option DV) => isi_tup (μ1 := μ) (f := dVar 0) (ρ := [some d, c1]) (μ := μ) h rfl
  unfold V_l_is_stretch D_l_is_stretch
  refine fn1_at ?_
  show endO μ (sCons _ _ [some d, none] μ) = _
  by_cases ht : isT d = true
  · obtain ⟨xs, rfl⟩ := isT_tup ht
    obtain ⟨j, rfl, hl, hx⟩ := tg_tup0 h
    have c1 : dOp2 oNe (dBlt oLen (aCons (dVar 0) aNil)) (dC (.int 2)) [some (.tup xs), none] μ = some (.bl (!decide ((xs.length : Int) = 2)), μ) := op2_at (len_at rfl) (b := .int 2) rfl rfl
    have c0 : dOp2 oEq (dBlt oLen (aCons (dVar 0) aNil)) (dC (.int 0)) [some (.tup xs), none] μ = some (.bl (decide ((xs.length : Int) = 0)), μ) := op2_at (len_at rfl) (b := .int 0) rfl rfl
    refine ifr_at (r := .bl (true && decide ((xs.length : Int) = 0))) (orf_at (not_at (it none)) c1) (fun e => ⟨and_at (it none) c0, ?_⟩) fun e => ?_
    · have ln : ¬ (xs.length : Int) = 2 := by simpa using e
      rw [(len0B ln).1, Bool.true_and]
    · have ln : (xs.length : Int) = 2 := by simpa using e
      have aw := alls_at (μ := μ) (e := dOr (dOp2 oIs (dVar 1) (dC .non)) (dCall V_l_is_whole (aCons (dVar 1) aNil))) (p := isNI) (ρ := [some (.tup xs), none]) (v := 0) (b := 1) rfl (by omega) fun x hxx μ' => by
        have hi : dOp2 oIs (dVar 1) (dC .non) [some (.tup xs), some x] μ' = some (.bl (DV.isN x), μ') := op2_at (a := x) (b := .non) rfl rfl rfl
        show dOr _ _ [some (.tup xs), some x] μ' = _
        unfold isNI
        cases hn : DV.isN x with
        | true => rw [hn] at hi; exact ort_at hi
        | false =>
          rw [hn] at hi
          exact orf_at hi (call1_at (a := x) rfl (lwhole_any (hx x hxx)))
      refine ifr_at (r := .bl false) (not_at aw) (fun e => ⟨rfl, ?_⟩) fun e => ?_
      · have na : xs.all isNI = false := by simpa using e
        match xs, ln, na with
        | [a, b], _, na =>
          have : (isNI a && isNI b) = false := by simpa using na
          simp [spanB, this]
      · have ha : xs.all isNI = true := by simpa using e
        refine retd_at ?_
        match xs, ln, ha with
        | [a, b], _, ha =>
          have ha' : isNI a = true ∧ isNI b = true := by simpa using ha
          have i0 : dOp2 oIx (dVar 0) (dC (.int 0)) [some (.tup [a, b]), none] μ = some (a, μ) := op2_at (a := .tup [a, b]) (b := .int 0) rfl rfl rfl
          have i1 : dOp2 oIx (dVar 0) (dC (.int 1)) [some (.tup [a, b]), none] μ = some (b, μ) := op2_at (a := .tup [a, b]) (b := .int 1) rfl rfl rfl
          have n0 := op2_at (o := oIs) i0 (fb := dC .non) (b := .non) rfl (r := .bl (DV.isN a)) rfl
          have n1 := op2_at (o := oIs) i1 (fb := dC .non) (b := .non) rfl (r := .bl (DV.isN b)) rfl
          simp only [spanB, ha'.1, ha'.2, Bool.and_self, Bool.true_and]
          cases hna : DV.isN a with
          | true => rw [hna] at n0; exact ort_at n0
          | false =>
            rw [hna] at n0
            refine orf_at n0 ?_
            cases hnb : DV.isN b with
            | true => rw [hnb] at n1; exact ort_at n1
            | false =>
              rw [hnb] at n1
              refine orf_at n1 (op2_at i0 i1 ?_)
              obtain ⟨i, rfl⟩ := ni_int ha'.1 hna
              obtain ⟨j, rfl⟩ := ni_int ha'.2 hnb
              rfl
  · have ht : isT d = false := by simpa using ht
    rw [ht] at it
    exact ifr_at (t := true) (r := .bl false) (ort_at (not_at (it none))) (fun _ => ⟨andf_at (it none), by rw [(isT_not ht).1]⟩) fun e => by cases e
theorem two_ints {xs : List DV} (h : xs.all isI = true) (l : xs.length = 2) : ∃ n d, xs = [.int n, .int d] := by
  match xs, l, h with
  | [a, b], _, h =>
    have h' : isI a = true ∧ isI b = true := by simpa using h
    obtain ⟨n, rfl⟩ := isI_int h'.1
    obtain ⟨d, rfl⟩ := isI_int h'.2
    exact ⟨n, d, rfl⟩
theorem resid_no {xs : List DV} (h : xs.all isI = false) (l : xs.length = 0 ∨ xs.length = 2) : residB (.tup xs) = false := by
  match xs, l, h with
  | [a, b], _, h =>
    cases ha : isI a with
    | false => cases a <;> first | (cases ha; done) | simp [residB]
    | true =>
      obtain ⟨n, rfl⟩ := isI_int ha
      cases hb : isI b with
      | false => cases b <;> first | (cases hb; done) | simp [residB]
      | true =>
        obtain ⟨d, rfl⟩ := isI_int hb
        simp [isI] at h
theorem rest_fin {n d : Int} (hd : d ≠ 0) : dAnd (dOp2 oGt (dVar 2) (dC (.int 0))) (dAnd (dOp2 oEq (dOp2 oMod (dC (.int 20160)) (dVar 2)) (dC (.int 0))) (dChain oLe oLt (dC (.int 0)) (dVar 1) (dVar 2))) [some (.tup [.int n, .int d]), some (.int n), some (.int d)] μ = some (.bl (residB (.tup [.int n, .int d])), μ) := by
  have g : dOp2 oGt (dVar 2) (dC (.int 0)) [some (.tup [.int n, .int d]), some (.int n), some (.int d)] μ = some (.bl (decide (0 < d)), μ) := op2_at (a := .int d) (b := .int 0) rfl rfl rfl
  have md : oMod (.int 20160) (.int d) μ = some (.int (Int.fmod 20160 d), μ) := by
    show (if d ≠ 0 then _ else _) = _
    rw [if_pos hd]
  have e : dOp2 oEq (dOp2 oMod (dC (.int 20160)) (dVar 2)) (dC (.int 0)) [some (.tup [.int n, .int d]), some (.int n), some (.int d)] μ = some (.bl (decide (Int.fmod 20160 d = 0)), μ) := op2_at (op2_at (a := .int 20160) (b := .int d) rfl rfl md) (b := .int 0) rfl rfl
  have ch : dChain oLe oLt (dC (.int 0)) (dVar 1) (dVar 2) [some (.tup [.int n, .int d]), some (.int n), some (.int d)] μ = some (.bl (decide (0 ≤ n) && decide (n < d)), μ) := by
    by_cases hn : 0 ≤ n
    · simp [dChain, dC, dVar, oLe, oLt, hn]
    · simp [dChain, dC, dVar, oLe, oLt, hn]
  show _ = some (DV.bl (if d = 0 then true else _), μ)
  rw [if_neg hd]
  exact and_at g (and_at e ch)
theorem resid_any {m B k : Nat} {d : DV} (h : tg m B k d = true) (hm : m ≤ 1000) : V_is_residue [d] μ = some (.bl (residB d), μ) := by
  have it := fun (c1 c2 : Option DV) => isi_tup (μ1 := μ) (f := dVar 0) (ρ := [some d, c1, c2]) (μ := μ) h rfl
  unfold V_is_residue D_is_residue
  refine fn1_at ?_
  show endO μ (sCons _ _ [some d, none, none] μ) = _
  by_cases ht : isT d = true
  · obtain ⟨xs, rfl⟩ := isT_tup ht
    obtain ⟨j, rfl, hl, hx⟩ := tg_tup0 h
    have c1 : dOp2 oNin (dBlt oLen (aCons (dVar 0) aNil)) (dTup (aCons (dC (.int 0)) (aCons (dC (.int 2)) aNil))) [some (.tup xs), none, none] μ = some (.bl (!decide (xs.length = 0 ∨ xs.length = 2)), μ) := op2_at (len_at rfl) (b := .tup [.int 0, .int 2]) rfl nin_at
    refine ifr_at (r := .bl false) (orf_at (not_at (it none none)) c1) (fun e => ⟨rfl, ?_⟩) fun e => ?_
    · have : ¬ (xs.length = 0 ∨ xs.length = 2) := by simpa using e
      rw [(oth_len this).2]
    · have ln : xs.length = 0 ∨ xs.length = 2 := of_nd e
      have aw := alls_at (μ := μ) (e := dCall V_is_whole (aCons (dVar 1) aNil)) (p := isI) (ρ := [some (.tup xs), none, none]) (v := 0) (b := 1) rfl (by omega) fun x hxx μ' => call1_at (a := x) rfl (whole_any (hx x hxx))
      refine ifr_at (r := .bl false) (not_at aw) (fun e => ⟨rfl, ?_⟩) fun e => ?_
      · have na : xs.all isI = false := by simpa using e
        rw [resid_no na ln]
      · have ha : xs.all isI = true := by simpa using e
        by_cases l0 : xs.length = 0
        · have : xs = [] := List.length_eq_zero_iff.mp l0
          subst this
          exact ifr_at (t := true) (r := .bl true) (ort_at (op2_at (len_at rfl) (b := .int 0) rfl rfl)) (fun _ => ⟨rfl, rfl⟩) fun e => by cases e
        · obtain ⟨n, d, rfl⟩ := two_ints ha (by omega)
          have z : dOp2 oEq (dBlt oLen (aCons (dVar 0) aNil)) (dC (.int 0)) [some (.tup [.int n, .int d]), none, none] μ = some (.bl false, μ) := op2_at (len_at rfl) (b := .int 0) rfl rfl
          have i1 : dOp2 oIx (dVar 0) (dC (.int 1)) [some (.tup [.int n, .int d]), none, none] μ = some (.int d, μ) := op2_at (a := .tup [.int n, .int d]) (b := .int 1) rfl rfl rfl
          have e1 : dOp2 oEq (dOp2 oIx (dVar 0) (dC (.int 1))) (dC (.int 0)) [some (.tup [.int n, .int d]), none, none] μ = some (.bl (decide (d = 0)), μ) := op2_at i1 (b := .int 0) rfl rfl
          refine ifr_at (r := .bl true) (orf_at z e1) (fun e => ⟨rfl, ?_⟩) fun e => ?_
          · have : d = 0 := by simpa using e
            simp [residB, this]
          · have hd : d ≠ 0 := by simpa using e
            have as : sAsg (gTu 2 (gAnd (gNm 1) (gAnd (gNm 2) gEnd))) (dVar 0) [some (.tup [.int n, .int d]), none, none] μ = some (.nx [some (.tup [.int n, .int d]), some (.int n), some (.int d)] μ) := rfl
            rw [esCons, as, sqO_nx]
            exact retd_at (rest_fin hd)
  · have ht : isT d = false := by simpa using ht
    rw [ht] at it
    exact ifr_at (t := true) (r := .bl false) (ort_at (not_at (it none none))) (fun _ => ⟨rfl, by rw [(isT_not ht).2]⟩) fun e => by cases e
theorem lresid_any {m B k : Nat} {d : DV} (h : tg m B k d = true) (hm : m ≤ 1000) : V_l_is_rest [d] μ = some (.bl (residB d), μ) := by
  have it := fun (c1 : Option DV) => isi_tup (μ1 := μ) (f := dVar 0) (ρ := [some d, c1]) (μ := μ) h rfl
  unfold V_l_is_rest D_l_is_rest
  refine fn1_at ?_
  show endO μ (sCons _ _ [some d, none] μ) = _
  by_cases ht : isT d = true
  · obtain ⟨xs, rfl⟩ := isT_tup ht
    obtain ⟨j, rfl, hl, hx⟩ := tg_tup0 h
    have c1 : dOp2 oNe (dBlt oLen (aCons (dVar 0) aNil)) (dC (.int 2)) [some (.tup xs), none] μ = some (.bl (!decide ((xs.length : Int) = 2)), μ) := op2_at (len_at rfl) (b := .int 2) rfl rfl
    have c0 : dOp2 oEq (dBlt oLen (aCons (dVar 0) aNil)) (dC (.int 0)) [some (.tup xs), none] μ = some (.bl (decide ((xs.length : Int) = 0)), μ) := op2_at (len_at rfl) (b := .int 0) rfl rfl
    refine ifr_at (r := .bl (true && decide ((xs.length : Int) = 0))) (orf_at (not_at (it none)) c1) (fun e => ⟨and_at (it none) c0, ?_⟩) fun e => ?_
    · have ln : ¬ (xs.length : Int) = 2 := by simpa using e
      rw [(len0B ln).2, Bool.true_and]
    · have ln : (xs.length : Int) = 2 := by simpa using e
      have aw := alls_at (μ := μ) (e := dCall V_l_is_whole (aCons (dVar 1) aNil)) (p := isI) (ρ := [some (.tup xs), none]) (v := 0) (b := 1) rfl (by omega) fun x hxx μ' => call1_at (a := x) rfl (lwhole_any (hx x hxx))
      refine ifr_at (r := .bl false) (not_at aw) (fun e => ⟨rfl, ?_⟩) fun e => ?_
      · have na : xs.all isI = false := by simpa using e
        rw [resid_no na (by omega)]
      · have ha : xs.all isI = true := by simpa using e
        obtain ⟨n, d, rfl⟩ := two_ints ha (by omega)
        have i0 : dOp2 oIx (dVar 0) (dC (.int 0)) [some (.tup [.int n, .int d]), none] μ = some (.int n, μ) := op2_at (a := .tup [.int n, .int d]) (b := .int 0) rfl rfl rfl
        have i1 : dOp2 oIx (dVar 0) (dC (.int 1)) [some (.tup [.int n, .int d]), none] μ = some (.int d, μ) := op2_at (a := .tup [.int n, .int d]) (b := .int 1) rfl rfl rfl
        have e1 : dOp2 oLt (dOp2 oIx (dVar 0) (dC (.int 1))) (dC (.int 1)) [some (.tup [.int n, .int d]), none] μ = some (.bl (decide (d < 1)), μ) := op2_at i1 (b := .int 1) rfl rfl
        have e2 : dOp2 oEq (dOp2 oIx (dVar 0) (dC (.int 1))) (dC (.int 0)) [some (.tup [.int n, .int d]), none] μ = some (.bl (decide (d = 0)), μ) := op2_at i1 (b := .int 0) rfl rfl
        refine ifr_at (r := .bl (decide (d = 0))) e1 (fun e => ⟨e2, ?_⟩) fun e => ?_
        · have hd : d < 1 := by simpa using e
          by_cases h0 : d = 0
          · simp [residB, h0]
          · have : ¬ 0 < d := by omega
            simp [residB, h0, this]
        · have hd : ¬ d < 1 := by simpa using e
          have h0 : d ≠ 0 := by omega
          have md : oMod (.int 20160) (.int d) μ = some (.int (Int.fmod 20160 d), μ) := by
            show (if d ≠ 0 then _ else _) = _
            rw [if_pos h0]
          have f1 : dOp2 oEq (dOp2 oMod (dC (.int 20160)) (dOp2 oIx (dVar 0) (dC (.int 1)))) (dC (.int 0)) [some (.tup [.int n, .int d]), none] μ = some (.bl (decide (Int.fmod 20160 d = 0)), μ) := op2_at (op2_at (a := .int 20160) (b := .int d) rfl i1 md) (b := .int 0) rfl rfl
          have f2 : dChain oLe oLt (dC (.int 0)) (dOp2 oIx (dVar 0) (dC (.int 0))) (dOp2 oIx (dVar 0) (dC (.int 1))) [some (.tup [.int n, .int d]), none] μ = some (.bl (decide (0 ≤ n) && decide (n < d)), μ) := by
            by_cases hn : 0 ≤ n
            · simp [dChain, dC, oLe, oLt, hn, i0, i1]
            · simp [dChain, dC, oLe, oLt, hn, i0, i1]
          have : residB (.tup [.int n, .int d]) = (decide (Int.fmod 20160 d = 0) && (decide (0 ≤ n) && decide (n < d))) := by
            have : 0 < d := by omega
            simp [residB, h0, this]
          rw [this]
          exact retd_at (and_at f1 f2)
  · have ht : isT d = false := by simpa using ht
    rw [ht] at it
    exact ifr_at (t := true) (r := .bl false) (ort_at (not_at (it none))) (fun _ => ⟨andf_at (it none), by rw [(isT_not ht).2]⟩) fun e => by cases e

end Lw

namespace Lw
open PySem PySem.Spec L2 Eg
local macro_rules | `(tactic| walk_at "ex") => `(tactic| simp [eFn, startD, esCons, sRet, esIf, sNil, sSet, sAsg, sExp, sPar2, sPar3, dVar, dC, dOp2, dCall, dBlt, dTup, dLst, dLstM, eIf, eAnd, eOr, eNot, eNeg, dIsi, eChain, aCons, aNil, gTu, gAnd, gNm, gSb, gEnd, dSl, runP, sFor, forL_nil, forL_cons, iSeq, iRange1, iRange2, oDiv_ok, oMod_ok, oPow_ok, oSub, oLt, oLe, oGt, oGe, oEq, oNe, oIs, oIsnt, xIx_t, xIx_l, xIx_m, xIx_s, oLen, oInt, oAbs, oMM, oTuple, oDivmod, oInN, flatL, DV.flat, dCallW, permI, oAll, blsD, oMax1, oMin1, maxI, minI, intsD, inV1, inV2, eqV, DV.isN, eqvD, eqvL, shD, shL, xItems_t, xItems_l, xItems_m, xLen_t, xLen_l, xLen_m, xLen_s, atI, ixN, DV.ty, kitT, sl_eq, *])
variable {μ : List MO}
/-! ### a value of any kind, a thing bent -/
noncomputable def oddT : Den := (dTup (aCons (dC .non) (aCons (dC (.bl true)) (aCons (dC (.bl false)) (aCons (dC (.int 0)) (aCons (dC (.int 1)) (aCons (dNeg (dC (.int 3))) (aCons (dOp2 oPow (dC (.int 10)) (dC (.int 30))) (aCons (dC (.str "")) (aCons (dC (.str "<")) (aCons (dC (.str "01")) (aCons (dTup aNil) (aCons (dTup (aCons (dC (.int 0)) aNil)) (aCons (dTup (aCons (dC (.int 0)) (aCons (dC (.int 1)) aNil))) (aCons (dTup (aCons (dC (.int 1)) (aCons (dC (.int 0)) aNil))) (aCons (dTup (aCons (dC (.int 4)) (aCons (dC (.int 3)) aNil))) (aCons (dTup (aCons (dC (.int 3)) (aCons (dC (.int 4)) aNil))) (aCons (dTup (aCons (dC .non) (aCons (dC .non) aNil))) (aCons (dTup (aCons (dC .non) (aCons (dC (.int 2)) aNil))) (aCons (dTup (aCons (dC (.int 2)) (aCons (dC .non) aNil))) (aCons (dTup (aCons (dC (.bl true)) (aCons (dC (.int 2)) aNil))) (aCons (dTup (aCons (dC (.int 0)) (aCons (dC (.bl true)) aNil))) (aCons (dTup (aCons (dC (.bl false)) (aCons (dC (.int 0)) aNil))) (aCons (dTup (aCons (dC (.int 1)) (aCons (dC (.int 2)) (aCons (dC (.int 3)) aNil)))) (aCons (dTup (aCons (dC (.int 0)) (aCons (dC (.int 20160)) aNil))) (aCons (dTup (aCons (dC (.int 20160)) (aCons (dC (.int 20160)) aNil))) (aCons (dTup (aCons (dC (.int 0)) (aCons (dC (.int 11)) aNil))) (aCons (dTup (aCons (dC (.int 7)) (aCons (dC (.int 7)) aNil))) (aCons (dTup (aCons (dNeg (dC (.int 1))) (aCons (dC (.int 4)) aNil))) (aCons (dTup (aCons (dC (.int 0)) (aCons (dNeg (dC (.int 4))) aNil))) (aCons (dTup (aCons (dC .non) (aCons (dC (.str "2")) aNil))) (aCons (dTup (aCons (dC (.str "0")) (aCons (dC (.int 2)) aNil))) (aCons (dTup (aCons (dTup aNil) (aCons (dTup aNil) aNil))) (aCons (dTup (aCons (dC (.int 0)) (aCons (dTup aNil) aNil))) (aCons (dLst aNil) (aCons (dLst (aCons (dC (.int 0)) (aCons (dC (.int 1)) aNil))) (aCons (dLst (aCons (dC .non) (aCons (dC .non) aNil))) (aCons dDic0 (aCons (dTup (aCons (dTup (aCons (dC (.int 0)) (aCons (dC (.int 1)) aNil))) aNil)) aNil)))))))))))))))))))))))))))))))))))))))
def oddL : List DV := [.non, .bl true, .bl false, .int 0, .int 1, .int (-3), .int (10 ^ 30), .str "", .str "<", .str "01", .tup [], .tup [.int 0], .tup [.int 0, .int 1], .tup [.int 1, .int 0], .tup [.int 4, .int 3], .tup [.int 3, .int 4], .tup [.non, .non], .tup [.non, .int 2], .tup [.int 2, .non], .tup [.bl true, .int 2], .tup [.int 0, .bl true], .tup [.bl false, .int 0], .tup [.int 1, .int 2, .int 3], .tup [.int 0, .int 20160], .tup [.int 20160, .int 20160], .tup [.int 0, .int 11], .tup [.int 7, .int 7], .tup [.int (-1), .int 4], .tup [.int 0, .int (-4)], .tup [.non, .str "2"], .tup [.str "0", .int 2], .tup [.tup [], .tup []], .tup [.int 0, .tup []], .lst [], .lst [.int 0, .int 1], .lst [.non, .non], .dic [], .tup [.tup [.int 0, .int 1]]]
theorem odd_eq : D_l_odd = sCons (sRet (dCall V_l_pick (aCons (dVar 0) (aCons oddT aNil)))) sNil := rfl
theorem oddT_at {ρ : RO} : oddT ρ μ = some (.tup oddL, μ) := by
  rfl
theorem oddL_tg : ∀ d ∈ oddL, tg 3 1000000000000000000000000000000 2 d = true := List.all_eq_true.mp (by decide +kernel : oddL.all (tg 3 1000000000000000000000000000000 2) = true)
theorem odd_ok {k : Nat} {μ0 : List MO} {N : Nat} (w : Sr k μ0 N μ) (hN : N < 1152921504606846976) : ∃ d μ', V_l_odd [.mu k] μ = some (d, μ') ∧ tg 3 1000000000000000000000000000000 2 d = true ∧ Sr k μ0 (N + 1) μ' := by
  obtain ⟨d, μ2, e2, hd, w2⟩ := pickT_ok w hN (ds := oddL) (by decide) (by decide)
  refine ⟨d, μ2, ?_, oddL_tg d hd, w2⟩
  unfold V_l_odd
  rw [odd_eq]
  refine fn1_at ?_
  show endO μ (sCons _ _ [some (.mu k)] μ) = _
  rw [ret_at (call2_at (a := .mu k) (b := .tup oddL) rfl oddT_at e2), endO_rt]
  exact cutd_len (by rw [w2.len, w.len])
noncomputable def bT6 : Den := (dTup (aCons (dBlt oList (aCons (dVar 1) aNil)) (aCons (dSl (dVar 1) none (some (dNeg (dC (.int 1))))) (aCons (dOp2 oAdd (dVar 1) (dSl (dVar 1) (some (dNeg (dC (.int 1)))) none)) (aCons (dRevA (dVar 1)) (aCons (dSl (dVar 1) (some (dC (.int 1))) none) (aCons (dOp2 oAdd (dSl (dVar 1) none (some (dC (.int 1)))) (dVar 1)) aNil)))))))
noncomputable def bT5 : Den := (dTup (aCons (dOp2 oAddB (dVar 1) (dC (.int 1))) (aCons (dOp2 oSubB (dC (.int 0)) (dVar 1)) (aCons (dOp2 oMulB (dC (.int 2)) (dVar 1)) (aCons (dOp2 oSubB (dVar 1) (dC (.int 2))) (aCons (dOp2 oEq (dVar 1) (dC (.int 1))) (aCons (dBlt oStrV (aCons (dVar 1) aNil)) aNil)))))))
noncomputable def bC1 : Den := dAnd (dIsi "tuple" (dVar 1)) (dAnd (dOp2 oNeB (dVar 1) (dTup aNil)) (dOp2 oGt (dCall V_l_take (aCons (dVar 0) (aCons (dC (.int 4)) aNil))) (dC (.int 0))))
noncomputable def bPut (self : FD) : Den := dOp2 oAdd (dOp2 oAdd (dSl (dVar 1) none (some (dVar 2))) (dTup (aCons (dCall (self) (aCons (dVar 0) (aCons (dOp2 oIx (dVar 1) (dVar 2)) aNil))) aNil))) (dSl (dVar 1) (some (dOp2 oAddB (dVar 2) (dC (.int 1)))) none)
noncomputable def bRest : DenS := sCons (sSet 3 (dCall V_l_take (aCons (dVar 0) (aCons (dC (.int 9)) aNil))))
  (sCons (sIf (dAnd (dIsi "tuple" (dVar 1)) (dOp2 oLt (dVar 3) (dC (.int 6)))) (sCons (sRet (dOp2 oIx bT6 (dVar 3))) sNil) sNil)
  (sCons (sIf (dAnd (dIsi "int" (dVar 1)) (dOp2 oLt (dVar 3) (dC (.int 6)))) (sCons (sRet (dOp2 oIx bT5 (dVar 3))) sNil) sNil)
  (sCons (sRet (dCall V_l_odd (aCons (dVar 0) aNil))) sNil)))
theorem bent_eq (self : FD) : D_l_bent self = sCons (sIf bC1 (sCons (sSet 2 (dCall V_l_take (aCons (dVar 0) (aCons (dBlt oLen (aCons (dVar 1) aNil)) aNil)))) (sCons (sRet (bPut self)) sNil)) sNil) bRest := rfl
theorem mem_cut {xs : List DV} {l u : Option Int} {x : DV} (h : x ∈ cutD xs l u) : x ∈ xs := List.mem_of_mem_drop (List.mem_of_mem_take h)
theorem cut_le {xs : List DV} {l u : Option Int} : (cutD xs l u).length ≤ xs.length := by
  unfold cutD
  rw [List.length_take, List.length_drop]
  omega
theorem at_mem {ds : List DV} {i : Int} (h0 : 0 ≤ i) (h1 : i < ds.length) : ∃ d, d ∈ ds ∧ atI ds i = some d := by
  obtain ⟨n, rfl⟩ : ∃ n : Nat, i = n := ⟨i.toNat, by omega⟩
  have h : n < ds.length := by omega
  exact ⟨ds[n], List.getElem_mem h, atI_nat (List.getElem?_eq_getElem h)⟩
theorem bT6_at {ρ : RO} {xs : List DV} (h : ρ[1]? = some (some (.tup xs))) (hl : xs.length ≤ 400) : bT6 ρ μ = some (.tup [.lst xs, .tup (cutD xs none (some (-1))), .tup (xs ++ cutD xs (some (-1)) none), .tup xs.reverse, .tup (cutD xs (some 1) none), .tup (cutD xs none (some 1) ++ xs)], μ) := by
  have v := var_at (μ := μ) h
  have c := cut_le (xs := xs) (l := some (-1)) (u := none)
  have c' := cut_le (xs := xs) (l := none) (u := some 1)
  have a1 : oAdd (.tup xs) (.tup (cutD xs (some (-1)) none)) μ = some (.tup (xs ++ cutD xs (some (-1)) none), μ) := addT (by omega)
  have a2 : oAdd (.tup (cutD xs none (some 1))) (.tup xs) μ = some (.tup (cutD xs none (some 1) ++ xs), μ) := addT (by omega)
  have s1 : dSl (dVar 1) none (some (dNeg (dC (.int 1)))) ρ μ = some (.tup (cutD xs none (some (-1))), μ) := by simp [dSl, v, runP, dNeg, dC]
  have s2 : dSl (dVar 1) (some (dNeg (dC (.int 1)))) none ρ μ = some (.tup (cutD xs (some (-1)) none), μ) := by simp [dSl, v, runP, dNeg, dC]
  have s3 : dSl (dVar 1) (some (dC (.int 1))) none ρ μ = some (.tup (cutD xs (some 1) none), μ) := by simp [dSl, v, runP, dC]
  have s4 : dSl (dVar 1) none (some (dC (.int 1))) ρ μ = some (.tup (cutD xs none (some 1)), μ) := by simp [dSl, v, runP, dC]
  have e1 : dBlt oList (aCons (dVar 1) aNil) ρ μ = some (.lst xs, μ) := by
    rw [dBlt, a1_at v, bnd_some]
    rfl
  have e3 := op2_at v s2 a1
  have e4 : dRevA (dVar 1) ρ μ = some (.tup xs.reverse, μ) := by simp [dRevA, v]
  have e6 := op2_at s4 v a2
  unfold bT6
  simp only [dTup, aCons, aNil, e1, s1, e3, e4, s3, e6, bnd_some]
  rfl
theorem six_tg {m B j : Nat} {xs : List DV} (h : tg m B (j + 1) (.tup xs) = true) (hm : 1 ≤ m) : ∀ d ∈ ([.lst xs, .tup (cutD xs none (some (-1))), .tup (xs ++ cutD xs (some (-1)) none), .tup xs.reverse, .tup (cutD xs (some 1) none), .tup (cutD xs none (some 1) ++ xs)] : List DV), tg (2 * m) (2 * B + 2) (j + 3) d = true := by
  obtain ⟨hl, hx⟩ := tg_tup.mp h
  have c1 := cut_le (xs := xs) (l := some (-1)) (u := none)
  have c2 := cut_le (xs := xs) (l := none) (u := some (-1))
  have c3 := cut_le (xs := xs) (l := some 1) (u := none)
  have c4 := cut_le (xs := xs) (l := none) (u := some 1)
  have up : ∀ x ∈ xs, tg (2 * m) (2 * B + 2) j x = true := fun x hxx => tg_up (by omega) (by omega) (Nat.le_refl _) (hx x hxx)
  have fin : ∀ d, tg (2 * m) (2 * B + 2) (j + 1) d = true → tg (2 * m) (2 * B + 2) (j + 3) d = true := fun d hd => tg_up (Nat.le_refl _) (Nat.le_refl _) (by omega) hd
  intro d hd
  refine fin d ?_
  simp only [List.mem_cons, List.not_mem_nil, or_false] at hd
  rcases hd with rfl | rfl | rfl | rfl | rfl | rfl
  · exact tg_lst.mpr up
  · exact tg_tup.mpr ⟨by omega, fun x hxx => up x (mem_cut hxx)⟩
  · refine tg_tup.mpr ⟨by rw [List.length_append]; omega, fun x hxx => ?_⟩
    rcases List.mem_append.mp hxx with z | z
    · exact up x z
    · exact up x (mem_cut z)
  · exact tg_tup.mpr ⟨by rw [List.length_reverse]; omega, fun x hxx => up x (List.mem_reverse.mp hxx)⟩
  · exact tg_tup.mpr ⟨by omega, fun x hxx => up x (mem_cut hxx)⟩
  · refine tg_tup.mpr ⟨by rw [List.length_append]; omega, fun x hxx => ?_⟩
    rcases List.mem_append.mp hxx with z | z
    · exact up x (mem_cut z)
    · exact up x z
theorem log_lt {n : Nat} (h : n ≤ 10000000000000000000000000000000) : n.log2 < 1900 := by
  by_cases z : n = 0
  · subst z
    decide
  · exact (Nat.log2_lt z).mpr (Nat.lt_of_le_of_lt h (by decide +kernel : 10000000000000000000000000000000 < 2 ^ 1900))
theorem bT5_at {m B j : Nat} {ρ : RO} {d : DV} (h : ρ[1]? = some (some d)) (hd : isIB d = true) (ht : tg m B j d = true) (hB : B ≤ 10000000000000000000000000000000) : ∃ ds, bT5 ρ μ = some (.tup ds, μ) ∧ ds.length = 6 ∧ ∀ x ∈ ds, ∀ m' j', tg m' (2 * B + 2) j' x = true := by
  have v := var_at (μ := μ) h
  cases d with
  | int i =>
    have hi : i.natAbs ≤ B := by simpa [tg] using ht
    have lg := log_lt (Nat.le_trans hi hB)
    have l2 : (2 : Int).natAbs.log2 + i.natAbs.log2 < 1000000 := by
      have : (2 : Int).natAbs.log2 = 1 := by decide
      omega
    have mu : oMulB (.int 2) (.int i) μ = some (.int (2 * i), μ) := by
      show (if _ then _ else _) = _
      rw [if_pos l2]
    have st : oStrV [.int i] μ = some (.str (Str.ofString (toString i)), μ) := by
      show (if _ then _ else _) = _
      rw [if_pos (by omega)]
    refine ⟨[.int (i + 1), .int (0 - i), .int (2 * i), .int (i - 2), .bl (decide (i = 1)), .str (Str.ofString (toString i))], ?_, rfl, fun x hx m' j' => ?_⟩
    · unfold bT5
      simp [dTup, aCons, aNil, dOp2, dC, v, oAddB, oSubB, oEq, shD, eqvD, mu, dBlt, st]
    · simp only [List.mem_cons, List.not_mem_nil, or_false] at hx
      rcases hx with rfl | rfl | rfl | rfl | rfl | rfl <;> simp [tg] <;> omega
  | bl b =>
    have hb : 0 ≤ b2i b ∧ b2i b ≤ 1 := by cases b <;> decide
    refine ⟨[.int (b2i b + 1), .int (0 - b2i b), .int (2 * b2i b), .int (b2i b - 2), .bl (eqvD (.bl b) (.int 1)), .str (if b then "True" else "False")], ?_, rfl, fun x hx m' j' => ?_⟩
    · unfold bT5
      simp [dTup, aCons, aNil, dOp2, dC, v, oAddB, oSubB, oMulB, oEq, shD, dBlt, oStrV]
    · simp only [List.mem_cons, List.not_mem_nil, or_false] at hx
      rcases hx with rfl | rfl | rfl | rfl | rfl | rfl <;> simp [tg] <;> omega
  | _ => cases hd
theorem bRest_ok {k : Nat} {μ0 M M0 : List MO} {N m B j : Nat} {d : DV} {c2 c3 : Option DV} (w : Sr k μ0 N M) (hN : N < 10000000000000000) (hl : M0.length = M.length) (h : tg m B j d = true) (h1 : 2 ≤ m) (hm : m ≤ 400) (hB : B ≤ 10000000000000000000000000000000) (hB0 : 1000000000000000000000000000000 ≤ B) :
    ∃ d' M', endO M0 (bRest [some (.mu k), some d, c2, c3] M) = some (d', M') ∧ tg (2 * m) (2 * B + 2) (j + 2) d' = true ∧ Sr k μ0 (N + 2) M' := by
  obtain ⟨r, M1, e1, r0, r1, w1⟩ := take_ok w (by omega) (m := 9) (by omega) (by omega)
  have s1 : bRest [some (.mu k), some d, c2, c3] M = sCons (sIf (dAnd (dIsi "tuple" (dVar 1)) (dOp2 oLt (dVar 3) (dC (.int 6)))) (sCons (sRet (dOp2 oIx bT6 (dVar 3))) sNil) sNil)
      (sCons (sIf (dAnd (dIsi "int" (dVar 1)) (dOp2 oLt (dVar 3) (dC (.int 6)))) (sCons (sRet (dOp2 oIx bT5 (dVar 3))) sNil) sNil)
      (sCons (sRet (dCall V_l_odd (aCons (dVar 0) aNil))) sNil)) [some (.mu k), some d, c2, some (.int r)] M1 := by
    unfold bRest
    rw [sets_at (call2_at (a := .mu k) (b := .int 9) rfl rfl e1)]
    rfl
  have l1 : M1.length = M0.length := by rw [w1.len, hl, w.len]
  have it := isi_tup (μ1 := M1) (f := dVar 1) (ρ := [some (.mu k), some d, c2, some (.int r)]) (μ := M1) h rfl
  have ii := isi_int (μ1 := M1) (f := dVar 1) (ρ := [some (.mu k), some d, c2, some (.int r)]) (μ := M1) h rfl
  have l6 : dOp2 oLt (dVar 3) (dC (.int 6)) [some (.mu k), some d, c2, some (.int r)] M1 = some (.bl (decide (r < 6)), M1) := op2_at (a := .int r) (b := .int 6) rfl rfl rfl
  have l5 : dOp2 oLt (dVar 3) (dC (.int 6)) [some (.mu k), some d, c2, some (.int r)] M1 = some (.bl (decide (r < 6)), M1) := op2_at (a := .int r) (b := .int 6) rfl rfl rfl
  have c1 := and_at it l6
  have c2' := and_at ii l5
  rw [s1]
  by_cases g1 : (isT d && decide (r < 6)) = true
  · obtain ⟨a, b⟩ := Bool.and_eq_true_iff.mp g1
    obtain ⟨xs, rfl⟩ := isT_tup a
    obtain ⟨j', rfl, hlx, hx⟩ := tg_tup0 h
    have b := of_decide_eq_true b
    have t6 := bT6_at (μ := M1) (ρ := [some (.mu k), some (.tup xs), c2, some (.int r)]) (xs := xs) rfl (by omega)
    obtain ⟨d', hd', ha⟩ := at_mem (ds := [.lst xs, .tup (cutD xs none (some (-1))), .tup (xs ++ cutD xs (some (-1)) none), .tup xs.reverse, .tup (cutD xs (some 1) none), .tup (cutD xs none (some 1) ++ xs)]) r0 (by simp; omega)
    refine ⟨d', M1, ?_, six_tg h (by omega) d' hd', w1.mono (by omega)⟩
    rw [g1] at c1
    rw [ift_at c1, ret_at (op2_at t6 (b := .int r) rfl (oIx_tup ha)), sqO_rt, endO_rt]
    exact cutd_len l1
  · have g1 : (isT d && decide (r < 6)) = false := by simpa using g1
    rw [g1] at c1
    rw [ifn_at c1]
    by_cases g2 : (isIB d && decide (r < 6)) = true
    · obtain ⟨a, b⟩ := Bool.and_eq_true_iff.mp g2
      have b := of_decide_eq_true b
      obtain ⟨ds, t5, l5', hds⟩ := bT5_at (μ := M1) (ρ := [some (.mu k), some d, c2, some (.int r)]) (d := d) rfl a h hB
      obtain ⟨d', hd', ha⟩ := at_mem (ds := ds) r0 (by omega)
      refine ⟨d', M1, ?_, hds d' hd' _ _, w1.mono (by omega)⟩
      rw [g2] at c2'
      rw [ift_at c2', ret_at (op2_at t5 (b := .int r) rfl (oIx_tup ha)), sqO_rt, endO_rt]
      exact cutd_len l1
    · have g2 : (isIB d && decide (r < 6)) = false := by simpa using g2
      rw [g2] at c2'
      rw [ifn_at c2']
      obtain ⟨d', M2, e2, hd', w2⟩ := odd_ok w1 (by omega)
      refine ⟨d', M2, ?_, tg_up (by omega) (by omega) (by omega) hd', w2⟩
      rw [ret_at (call1_at (a := .mu k) rfl e2), endO_rt]
      exact cutd_len (by rw [w2.len, ← w1.len, l1])
theorem bPut_at {self : FD} {ρ : RO} {xs : List DV} {s : Nat} {x : DV} {k : Nat} {μ2 : List MO} (h0 : ρ[0]? = some (some (.mu k))) (h1 : ρ[1]? = some (some (.tup xs))) (h2 : ρ[2]? = some (some (.int (s : Int)))) (hs : s < xs.length) (hl : xs.length ≤ 400) (e : self [.mu k, xs[s]] μ = some (x, μ2)) :
    bPut self ρ μ = some (.tup (xs.set s x), μ2) := by
  have ix : dOp2 oIx (dVar 1) (dVar 2) ρ μ = some (xs[s], μ) := op2_at (var_at h1) (var_at h2) (oIx_tup (atI_nat (List.getElem?_eq_getElem hs)))
  have lo : dSl (dVar 1) none (some (dVar 2)) ρ μ = some (.tup (xs.take s), μ) := by
    simp only [dSl, dVar, h1, h2, bnd_some, runP]
    simp [cut_lo (Nat.le_of_lt hs)]
  have p : dOp2 oAddB (dVar 2) (dC (.int 1)) ρ μ2 = some (.int ((s + 1 : Nat) : Int), μ2) := op2_at (a := .int (s : Int)) (b := .int 1) (var_at h2) rfl rfl
  have hi : dSl (dVar 1) (some (dOp2 oAddB (dVar 2) (dC (.int 1)))) none ρ μ2 = some (.tup (xs.drop (s + 1)), μ2) := by
    have v1 := var_at (μ := μ2) h1
    simp only [dSl, v1, bnd_some, runP, p]
    rw [cut_hi (xs := xs) (j := s + 1) (by omega)]
  have mid := tup1_at (call2_at (F := self) (fa := dVar 0) (var_at h0) ix e)
  rw [← put_eq hs]
  unfold bPut
  refine op2_at (op2_at lo mid (addT (by simp; omega))) hi (addT (by simp; omega))
theorem bent_ok {k B : Nat} {μ0 : List MO} (hB : B ≤ 10000000000000000000000000000000) (hB0 : 1000000000000000000000000000000 ≤ B) : ∀ (n j m N : Nat) (d : DV) (μ : List MO), Sr k μ0 N μ → N + 4 * n < 10000000000000000 → tg m B j d = true → j + 1 ≤ n → 2 ≤ m → m ≤ 400 → ∃ d' μ', V_l_bent n [.mu k, d] μ = some (d', μ') ∧ tg (2 * m) (2 * B + 2) (j + 2) d' = true ∧ Sr k μ0 (N + 4 * n) μ'
  | 0, j, m, N, d, μ, w, hN, h, hj, h1, hm => by omega
  | n + 1, j, m, N, d, μ, w, hN, h, hj, h1, hm => by
    have it := isi_tup (μ1 := μ) (f := dVar 1) (ρ := [some (.mu k), some d, none, none]) (μ := μ) h rfl
    have go : ∀ out : RE, endO μ (sCons (sIf bC1 (sCons (sSet 2 (dCall V_l_take (aCons (dVar 0) (aCons (dBlt oLen (aCons (dVar 1) aNil)) aNil)))) (sCons (sRet (bPut (V_l_bent n))) sNil)) sNil) bRest [some (.mu k), some d, none, none] μ) = out → V_l_bent (n + 1) [.mu k, d] μ = out := fun out e => by
      rw [← e]
      show mkFn 2 _ (D_l_bent (V_l_bent n)) [.mu k, d] μ = _
      rw [bent_eq, eFn, if_pos (show [DV.mu k, d].length = 2 from rfl)]
      rfl
    -- the second half
    have half : ∀ (M : List MO) (N' : Nat), Sr k μ0 N' M → N' + 2 ≤ N + 4 * (n + 1) → bC1 [some (.mu k), some d, none, none] μ = some (.bl false, M) → ∃ d' μ', V_l_bent (n + 1) [.mu k, d] μ = some (d', μ') ∧ tg (2 * m) (2 * B + 2) (j + 2) d' = true ∧ Sr k μ0 (N + 4 * (n + 1)) μ' := fun M N' wM hN' c => by
      obtain ⟨d', M', e, t, w'⟩ := bRest_ok (c2 := none) (c3 := none) (M0 := μ) wM (by omega) (by rw [w.len, wM.len]) h h1 hm hB hB0
      exact ⟨d', M', go _ (by rw [ifn_at c, e]), t, w'.mono (by omega)⟩
    by_cases ht : ∃ xs, d = .tup xs
    · obtain ⟨xs, rfl⟩ := ht
      obtain ⟨j', rfl, hlx, hx⟩ := tg_tup0 h
      have ne : dOp2 oNeB (dVar 1) (dTup aNil) [some (.mu k), some (.tup xs), none, none] μ = some (.bl (!xs.isEmpty), μ) := op2_at (a := .tup xs) (b := .tup []) rfl rfl rfl
      cases xs with
      | nil => exact half μ N w (by omega) (andt_at it (andf_at ne))
      | cons x xs =>
        obtain ⟨r, M1, e1, r0, r1, w1⟩ := take_ok w (by omega) (m := 4) (by omega) (by omega)
        have gt : dOp2 oGt (dCall V_l_take (aCons (dVar 0) (aCons (dC (.int 4)) aNil))) (dC (.int 0)) [some (.mu k), some (.tup (x :: xs)), none, none] μ = some (.bl (decide (0 < r)), M1) := op2_at (a := .int r) (b := .int 0) (call2_at (a := .mu k) (b := .int 4) rfl rfl e1) rfl rfl
        have c : bC1 [some (.mu k), some (.tup (x :: xs)), none, none] μ = some (.bl (decide (0 < r)), M1) := andt_at it (andt_at ne gt)
        by_cases hr : 0 < r
        · rw [decide_eq_true hr] at c
          obtain ⟨s, M2, e2, s0, s1, w2⟩ := take_ok w1 (by omega) (m := ((x :: xs).length : Int)) (by simp only [List.length_cons]; omega) (by omega)
          obtain ⟨sn, rfl⟩ : ∃ sn : Nat, s = sn := ⟨s.toNat, by omega⟩
          have hs : sn < (x :: xs).length := by omega
          obtain ⟨y, M3, e3, ty, w3⟩ := bent_ok hB hB0 n j' m (N + 2) (x :: xs)[sn] M2 w2 (by omega) (hx _ (List.getElem_mem hs)) (by omega) h1 hm
          refine ⟨.tup ((x :: xs).set sn y), M3, go _ ?_, ?_, w3.mono (by omega)⟩
          · rw [ift_at c]
            have st : sCons (sSet 2 (dCall V_l_take (aCons (dVar 0) (aCons (dBlt oLen (aCons (dVar 1) aNil)) aNil)))) (sCons (sRet (bPut (V_l_bent n))) sNil) [some (.mu k), some (.tup (x :: xs)), none, none] M1 = some (.rt (.tup ((x :: xs).set sn y)) M3) := by
              rw [sets_at (call2_at (a := .mu k) (b := .int ((x :: xs).length : Int)) rfl (len_at rfl) e2)]
              exact ret_at (bPut_at (k := k) (xs := x :: xs) (s := sn) rfl rfl rfl hs (by omega) e3)
            rw [st, sqO_rt, endO_rt]
            exact cutd_len (by rw [w3.len, w.len])
          · refine tg_tup.mpr ⟨by rw [List.length_set]; omega, fun z hz => ?_⟩
            rcases List.mem_or_eq_of_mem_set hz with q | rfl
            · exact tg_up (by omega) (by omega) (by omega) (hx z q)
            · exact ty
        · rw [decide_eq_false hr] at c
          exact half M1 (N + 1) w1 (by omega) c
    · have nt : isT d = false := by cases d <;> first | rfl | exact absurd ⟨_, rfl⟩ ht
      rw [nt] at it
      exact half μ N w (by omega) (andf_at it)
noncomputable def vR : Den := dIf (dOr (dOp2 oEq (dVar 1) (dC (.int 1))) (dOp2 oEq (dVar 1) (dC (.int 4)))) (dVar 2) (dCall (V_l_bent 8) (aCons (dVar 0) (aCons (dVar 2) aNil)))
noncomputable def vS : Den := dIf (dOp2 oLt (dVar 1) (dC (.int 4))) (dCall V_l_stretch (aCons (dVar 0) aNil)) (dCall V_l_rest (aCons (dVar 0) aNil))
theorem value_eq : D_l_value = sCons (sSet 1 (dCall V_l_take (aCons (dVar 0) (aCons (dC (.int 7)) aNil)))) (sCons (sIf (dOp2 oEq (dVar 1) (dC (.int 0))) (sCons (sRet (dCall V_l_odd (aCons (dVar 0) aNil))) sNil) sNil) (sCons (sSet 2 vS) (sCons (sRet vR) sNil))) := rfl
theorem tg_oi {m B k : Nat} {o : Option Int} (h : ∀ x, o = some x → x.natAbs ≤ B) : tg m B k (oi o) = true := by
  cases o with
  | none => cases k <;> rfl
  | some x =>
    have := h x rfl
    simp [oi, tg, this]
theorem tg_eS {s : Sp} (h : bS 100003 s) : tg 3 3000000000000000000000000000000 2 (eS s) = true := by
  have e : ∀ o, bE 100003 o → ∀ x, o = some x → x.natAbs ≤ 3000000000000000000000000000000 := fun o b x hx => by
    subst hx
    have := b.1
    have := b.2
    omega
  match s, h with
  | none, _ => rfl
  | some (l, u), h =>
    refine tg_tup.mpr ⟨by simp, fun x hx => ?_⟩
    simp only [List.mem_cons, List.not_mem_nil, or_false] at hx
    rcases hx with rfl | rfl
    · exact tg_oi (e _ h.1)
    · exact tg_oi (e _ h.2)
theorem tg_eR {r : Rs} (h : bQ r) (hw : wR r) : tg 3 3000000000000000000000000000000 2 (eR r) = true := by
  match r, h with
  | none, _ => rfl
  | some (n, d), h =>
    refine tg_tup.mpr ⟨by simp, fun x hx => ?_⟩
    simp only [List.mem_cons, List.not_mem_nil, or_false] at hx
    have h := h
    unfold bQ at h
    rcases hx with rfl | rfl
    · simp [tg]; omega
    · simp [tg]; omega
theorem value_ok {k : Nat} {μ0 : List MO} {N : Nat} (w : Sr k μ0 N μ) (hN : N < 1000000000000) : ∃ d μ', V_l_value [.mu k] μ = some (d, μ') ∧ tg 6 6000000000000000000000000000002 4 d = true ∧ Sr k μ0 (N + 100) μ' := by
  obtain ⟨r, M1, e1, r0, r1, w1⟩ := take_ok w (by omega) (m := 7) (by omega) (by omega)
  have l1 : M1.length = μ.length := by rw [w1.len, w.len]
  have c0 : dOp2 oEq (dVar 1) (dC (.int 0)) [some (.mu k), some (.int r), none] M1 = some (.bl (decide (r = 0)), M1) := op2_at (a := .int r) (b := .int 0) rfl rfl rfl
  have go : ∀ out : RE, endO μ (sCons (sIf (dOp2 oEq (dVar 1) (dC (.int 0))) (sCons (sRet (dCall V_l_odd (aCons (dVar 0) aNil))) sNil) sNil) (sCons (sSet 2 vS) (sCons (sRet vR) sNil)) [some (.mu k), some (.int r), none] M1) = out → V_l_value [.mu k] μ = out := fun out e => by
    rw [← e]
    unfold V_l_value
    rw [value_eq, eFn, if_pos (show [DV.mu k].length = 1 from rfl)]
    show endO μ (sCons _ _ [some (.mu k), none, none] μ) = _
    rw [sets_at (call2_at (a := .mu k) (b := .int 7) rfl rfl e1)]
    rfl
  by_cases h0 : r = 0
  · rw [decide_eq_true h0] at c0
    obtain ⟨d, M2, e2, td, w2⟩ := odd_ok w1 (by omega)
    refine ⟨d, M2, go _ ?_, tg_up (by omega) (by omega) (by omega) td, w2.mono (by omega)⟩
    rw [ift_at c0, ret_at (call1_at (a := .mu k) rfl e2), sqO_rt, endO_rt]
    exact cutd_len (by rw [w2.len, w.len])
  · rw [decide_eq_false h0] at c0
    have c4 : dOp2 oLt (dVar 1) (dC (.int 4)) [some (.mu k), some (.int r), none] M1 = some (.bl (decide (r < 4)), M1) := op2_at (a := .int r) (b := .int 4) rfl rfl rfl
    obtain ⟨d, M2, e2, td, w2⟩ : ∃ d M2, vS [some (.mu k), some (.int r), none] M1 = some (d, M2) ∧ tg 3 3000000000000000000000000000000 2 d = true ∧ Sr k μ0 (N + 20) M2 := by
      by_cases h4 : r < 4
      · rw [decide_eq_true h4] at c4
        obtain ⟨s, M2, e2, _, bs, w2⟩ := stretch_ok w1 (by omega)
        refine ⟨eS s, M2, ?_, tg_eS bs, w2.mono (by omega)⟩
        unfold vS
        rw [ifd_at c4, if_pos rfl]
        exact call1_at (a := .mu k) rfl e2
      · rw [decide_eq_false h4] at c4
        obtain ⟨s, M2, e2, ws, bs, w2⟩ := restQ_ok w1 (by omega)
        refine ⟨eR s, M2, ?_, tg_eR bs ws, w2.mono (by omega)⟩
        unfold vS
        rw [ifd_at c4, if_neg (by simp)]
        exact call1_at (a := .mu k) rfl e2
    have c1 : dOr (dOp2 oEq (dVar 1) (dC (.int 1))) (dOp2 oEq (dVar 1) (dC (.int 4))) [some (.mu k), some (.int r), some d] M2 = some (.bl (decide (r = 1) || decide (r = 4)), M2) := or_at (op2_at (a := .int r) (b := .int 1) rfl rfl rfl) (op2_at (a := .int r) (b := .int 4) rfl rfl rfl)
    obtain ⟨d', M3, e3, t3, w3⟩ : ∃ d' M3, vR [some (.mu k), some (.int r), some d] M2 = some (d', M3) ∧ tg 6 6000000000000000000000000000002 4 d' = true ∧ Sr k μ0 (N + 100) M3 := by
      cases hb : (decide (r = 1) || decide (r = 4)) with
      | true =>
        rw [hb] at c1
        refine ⟨d, M2, ?_, tg_up (by omega) (by omega) (by omega) td, w2.mono (by omega)⟩
        unfold vR
        rw [ifd_at c1, if_pos rfl]
        rfl
      | false =>
        rw [hb] at c1
        obtain ⟨d', M3, e3, t3, w3⟩ := bent_ok (B := 3000000000000000000000000000000) (by omega) (by omega) 8 2 3 (N + 20) d M2 w2 (by omega) td (by omega) (by omega) (by omega)
        refine ⟨d', M3, ?_, t3, w3.mono (by omega)⟩
        unfold vR
        rw [ifd_at c1, if_neg (by simp)]
        exact call2_at (a := .mu k) (b := d) rfl rfl e3
    refine ⟨d', M3, go _ ?_, t3, w3⟩
    rw [ifn_at c0, sets_at e2]
    show endO μ (sCons _ _ [some (.mu k), some (.int r), some d] M2) = _
    rw [ret_at e3, endO_rt]
    exact cutd_len (by rw [w3.len, w.len])
noncomputable def vaB : DenS := sCons (sSet 2 (dCall V_l_value (aCons (dVar 0) aNil)))
  (sCons (sSet 3 (dTup (aCons (dCall V_l_is_stretch (aCons (dVar 2) aNil)) (aCons (dCall V_l_is_stretch (aCons (dVar 2) aNil)) (aCons (dCall V_l_is_rest (aCons (dVar 2) aNil)) (aCons (dCall V_l_is_rest (aCons (dVar 2) aNil)) aNil))))))
  (sCons (sIf (dNot (dCall (V_l_same 8) (aCons (dTup (aCons (dCall V_is_stretch (aCons (dVar 2) aNil)) (aCons (dCallW 1 [0] V_is_stretch (aCons (dVar 2) aNil)) (aCons (dCall V_is_rest (aCons (dVar 2) aNil)) (aCons (dCallW 1 [0] V_is_rest (aCons (dVar 2) aNil)) aNil))))) (aCons (dVar 3) aNil)))) (sCons (sRet (dC (.bl false))) sNil) sNil) sNil))
theorem values_eq : D_l_values_right = sCons (sFor (iRange1 (aCons (dC (.int 4)) aNil)) (gNm 1) vaB) (sCons (sRet (dC (.bl true))) sNil) := rfl
theorem vaB_at {k : Nat} {μ0 M : List MO} {N : Nat} (w : Sr k μ0 N M) (hN : N < 1000000000) {c1 c2 c3 : Option DV} : ∃ M' y2 y3, vaB [some (.mu k), c1, c2, c3] M = some (.nx [some (.mu k), c1, y2, y3] M') ∧ Sr k μ0 (N + 100) M' := by
  obtain ⟨d, M', e, t, w'⟩ := value_ok w (by omega)
  have s1 : V_is_stretch [d] M' = some (.bl (spanB d), M') := by
    unfold V_is_stretch D_is_stretch
    exact fn1_at (retd_at (call1_at (a := d) rfl (span_any t (by omega))))
  have s2 : V_is_rest [d] M' = some (.bl (residB d), M') := by
    unfold V_is_rest D_is_rest
    exact fn1_at (retd_at (call1_at (a := d) rfl (resid_any t (by omega))))
  have l1 := lspan_any (μ := M') t (by omega)
  have l2 := lresid_any (μ := M') t (by omega)
  have sm := l_same8 (μ := M') (.tup [.bl (spanB d), .bl (spanB d), .bl (residB d), .bl (residB d)]) (by simp) (by simp)
  refine ⟨M', some d, some (.tup [.bl (spanB d), .bl (spanB d), .bl (residB d), .bl (residB d)]), ?_, w'⟩
  unfold vaB
  rw [sets_at (call1_at (a := .mu k) rfl e)]
  show sCons _ _ [some (.mu k), c1, some d, c3] M' = _
  rw [sets_at (tup4_at (call1_at (a := d) rfl l1) (call1_at (a := d) rfl l1) (call1_at (a := d) rfl l2) (call1_at (a := d) rfl l2))]
  show sCons _ _ [some (.mu k), c1, some d, some (.tup [.bl (spanB d), .bl (spanB d), .bl (residB d), .bl (residB d)])] M' = _
  rw [ifn_at (not_at (b := true) (call2_at (a := .tup [.bl (spanB d), .bl (spanB d), .bl (residB d), .bl (residB d)]) (b := .tup [.bl (spanB d), .bl (spanB d), .bl (residB d), .bl (residB d)]) (tup4_at (call1_at (a := d) rfl s1) (callw1_at (a := d) rfl s1) (call1_at (a := d) rfl s2) (callw1_at (a := d) rfl s2)) rfl sm))]
  rfl
theorem rg_of {fa : Den} {ρ : RO} {M : List MO} {ni : Int} {n : Nat} (e : fa ρ M = some (.int ni, M)) (en : ni.toNat = n) (h0 : 0 ≤ ni) (h1 : ni ≤ 1000) : iRange1 (aCons fa aNil) ρ M = some (rgD 0 n, M) := by
  have c1 : -4000000000000000000 ≤ ni ∧ ni < 4000000000000000000 := by omega
  simp [iRange1, aCons, aNil, e, c1, en]
theorem sFor_at (fi : DenA) (g : DenG) (b : DenS) (ρ : RO) (μ : List MO) : sFor fi g b ρ μ = bnd (fi ρ μ) fun ds μ1 => forL g b ds ρ μ1 := rfl
theorem values_ok {k : Nat} {μ0 : List MO} {N : Nat} (w : Sr k μ0 N μ) (hN : N < 1000000) : ∃ μ', V_l_values_right [.mu k] μ = some (.bl true, μ') ∧ Sr k μ0 (N + 400) μ' := by
  obtain ⟨ρ2, μ2, L1, c1, c2, c3, rfl, w2⟩ := forL_inv (g := gNm 1) (body := vaB) (ρ := [some (.mu k), none, none, none]) (μ := μ)
    (P := fun i ρ' μ' => ∃ c1 c2 c3, ρ' = [some (.mu k), c1, c2, c3] ∧ Sr k μ0 (N + 100 * i) μ') (rgD 0 4) ⟨none, none, none, rfl, w⟩ (by
    rintro i d ρ' μ' hd ⟨c1, c2, c3, rfl, w'⟩
    have hi : i < 4 := by
      have := (List.getElem?_eq_some_iff.mp hd).1
      rw [rgD_len] at this
      exact this
    obtain ⟨M', y2, y3, e, w3⟩ := vaB_at (c1 := some d) (c2 := c2) (c3 := c3) w' (by omega)
    exact ⟨_, _, _, _, rfl, e, _, _, _, rfl, w3⟩)
  rw [rgD_len] at w2
  refine ⟨μ2, ?_, w2⟩
  unfold V_l_values_right
  rw [values_eq]
  refine fn1_at ?_
  show endO μ (sCons _ _ [some (.mu k), none, none, none] μ) = _
  rw [esCons, sFor_at, rg_of (ni := 4) (n := 4) rfl rfl (by omega) (by omega), bnd_some, L1, sqO_nx, ret_at (d := .bl true) rfl, endO_rt]
  exact cutd_len (by rw [w2.len, w.len])

end Lw

namespace Lw
open PySem PySem.Spec L2 Eg
local macro_rules | `(tactic| walk_at "ex") => `(tactic| simp [eFn, startD, esCons, sRet, esIf, sNil, sSet, sAsg, sExp, sPar2, sPar3, dVar, dC, dOp2, dCall, dBlt, dTup, dLst, dLstM, eIf, eAnd, eOr, eNot, eNeg, dIsi, eChain, aCons, aNil, gTu, gAnd, gNm, gSb, gEnd, dSl, runP, sFor, forL_nil, forL_cons, iSeq, iRange1, iRange2, oDiv_ok, oMod_ok, oPow_ok, oSub, oLt, oLe, oGt, oGe, oEq, oNe, oIs, oIsnt, xIx_t, xIx_l, xIx_m, xIx_s, oLen, oInt, oAbs, oMM, oTuple, oDivmod, oInN, flatL, DV.flat, dCallW, permI, oAll, blsD, oMax1, oMin1, maxI, minI, intsD, inV1, inV2, eqV, DV.isN, eqvD, eqvL, shD, shL, xItems_t, xItems_l, xItems_m, xLen_t, xLen_l, xLen_m, xLen_s, atI, ixN, DV.ty, kitT, sl_eq, *])
variable {μ : List MO}
/-! ### stretches told apart -/
theorem eqv_oi (a b : Option Int) : eqvD (oi a) (oi b) = decide (a = b) := by cases a <;> cases b <;> simp [oi, eqvD]
theorem eqv_SS (s t : Sp) : eqvD (eS s) (eS t) = decide (s = t) := by
  match s, t with
  | none, none => rfl
  | none, some (c, d) => rfl
  | some (a, b), none => rfl
  | some (a, b), some (c, d) => simp [eS, eqvD, eqvL, eqv_oi]
theorem ne_SS (s t : Sp) : oNe (eS s) (eS t) μ = some (.bl (!decide (s = t)), μ) := by
  unfold oNe
  rw [eqv_SS]
  simp
def endsL : Sp → List (Option Int)
  | none => []
  | some (l, h) => [l, h]
theorem eS_ends (s : Sp) : eS s = .tup ((endsL s).map oi) := by
  match s with
  | none => rfl
  | some (l, h) => rfl
theorem ends_len (s : Sp) : (endsL s).length ≤ 2 := by
  match s with
  | none => simp [endsL]
  | some (l, h) => simp [endsL]
def bes3 : Option Int → List Int
  | none => []
  | some e => [e - 1, e, e + 1]
noncomputable def besB : DenS := sCons (sIf (dOp2 oIsnt (dVar 2) (dC .non)) (sCons (sSet 1 (dOp2 oAdd (dVar 1) (dLst (aCons (dOp2 oSub (dVar 2) (dC (.int 1))) (aCons (dVar 2) (aCons (dOp2 oAdd (dVar 2) (dC (.int 1))) aNil)))))) sNil) sNil) sNil
theorem beside_eq : D_l_beside = sCons (sSet 1 (dLst (aCons (dC (.int 0)) aNil))) (sCons (sFor (iSeq (dVar 0)) (gNm 2) besB) (sCons (sRet (dVar 1)) sNil)) := rfl
theorem bes_loop {s0 : Option DV} : ∀ (es : List (Option Int)) (L : List Int) (c2 : Option DV), L.length + 3 * es.length ≤ 900 → ∃ y2, forL (gNm 2) besB (es.map oi) [s0, some (.lst (L.map DV.int)), c2] μ = some (.nx [s0, some (.lst ((L ++ es.flatMap bes3).map DV.int)), y2] μ)
  | [], L, c2, _ => ⟨c2, by simp [forL_nil]⟩
  | o :: es, L, c2, h => by
    rw [List.length_cons] at h
    obtain ⟨y2, e⟩ := bes_loop (s0 := s0) es (L ++ bes3 o) (some (oi o)) (by
      have : (bes3 o).length ≤ 3 := by cases o <;> simp [bes3]
      rw [List.length_append]
      omega)
    refine ⟨y2, ?_⟩
    have g : gNm 2 (oi o) [s0, some (.lst (L.map DV.int)), c2] μ = some ([s0, some (.lst (L.map DV.int)), some (oi o)], μ) := rfl
    have b : besB [s0, some (.lst (L.map DV.int)), some (oi o)] μ = some (.nx [s0, some (.lst ((L ++ bes3 o).map DV.int)), some (oi o)] μ) := by
      cases o with
      | none =>
        unfold besB
        rw [ifn_at (op2_at (a := .non) (b := .non) (r := .bl false) rfl rfl rfl)]
        simp [bes3, sNil, oi]
      | some x =>
        have l3 : dLst (aCons (dOp2 oSub (dVar 2) (dC (.int 1))) (aCons (dVar 2) (aCons (dOp2 oAdd (dVar 2) (dC (.int 1))) aNil))) [s0, some (.lst (L.map DV.int)), some (.int x)] μ = some (.lst [.int (x - 1), .int x, .int (x + 1)], μ) := rfl
        have ad : oAdd (.lst (L.map DV.int)) (.lst [.int (x - 1), .int x, .int (x + 1)]) μ = some (.lst (L.map DV.int ++ [.int (x - 1), .int x, .int (x + 1)]), μ) := addL (by simp; omega)
        have st : sCons (sSet 1 (dOp2 oAdd (dVar 1) (dLst (aCons (dOp2 oSub (dVar 2) (dC (.int 1))) (aCons (dVar 2) (aCons (dOp2 oAdd (dVar 2) (dC (.int 1))) aNil)))))) sNil [s0, some (.lst (L.map DV.int)), some (.int x)] μ = some (.nx [s0, some (.lst ((L ++ bes3 (some x)).map DV.int)), some (.int x)] μ) := by
          rw [sets_at (op2_at (a := .lst (L.map DV.int)) rfl l3 ad), List.map_append]
          rfl
        unfold besB
        rw [ift_at (op2_at (a := .int x) (b := .non) (r := .bl true) rfl rfl rfl)]
        show sqO (sCons _ sNil [s0, some (.lst (L.map DV.int)), some (.int x)] μ) _ = _
        rw [st, sqO_nx]
        rfl
    rw [List.map_cons, forL_cons, g, bnd_some, b, lpO_nx, e, List.flatMap_cons, List.append_assoc]
def besL (es : List (Option Int)) : List Int := 0 :: es.flatMap bes3
theorem beside_ok (es : List (Option Int)) (h : es.length ≤ 100) : V_l_beside [.tup (es.map oi)] μ = some (.lst ((besL es).map DV.int), μ) := by
  obtain ⟨y2, e⟩ := bes_loop (μ := μ) (s0 := some (.tup (es.map oi))) es [0] none (by simp; omega)
  unfold V_l_beside
  rw [beside_eq]
  refine fn1_at ?_
  show endO μ (sCons _ _ [some (.tup (es.map oi)), none, none] μ) = _
  rw [sets_at (d := .lst [.int 0]) (μ1 := μ) rfl, esCons, sFor_at]
  show endO μ (sqO (forL (gNm 2) besB (es.map oi) [some (.tup (es.map oi)), some (.lst ([0].map DV.int)), none] μ) _) = _
  rw [e, sqO_nx]
  exact retd_at rfl
theorem mem_bes {es : List (Option Int)} {e : Int} (h : some e ∈ es) : e - 1 ∈ besL es ∧ e ∈ besL es ∧ e + 1 ∈ besL es := by
  have m : ∀ x ∈ bes3 (some e), x ∈ besL es := fun x hx => List.mem_cons_of_mem _ (List.mem_flatMap.mpr ⟨some e, h, hx⟩)
  exact ⟨m _ (by simp [bes3]), m _ (by simp [bes3]), m _ (by simp [bes3])⟩
def loP : Option Int → Int → Prop
  | none, _ => True
  | some l, x => l ≤ x
def hiP : Option Int → Int → Prop
  | none, _ => True
  | some h, x => x ≤ h
theorem holds_p {a b : Option Int} {x : Int} : holds (some (a, b)) x = true ↔ loP a x ∧ hiP b x := by
  unfold holds
  rw [Bool.and_eq_true]
  cases a <;> cases b <;> simp [loI, hiI, loP, hiP]
theorem holds_q {a b c d : Option Int} {x : Int} (h : holds (some (a, b)) x = holds (some (c, d)) x) : (loP a x ∧ hiP b x) ↔ (loP c x ∧ hiP d x) := by
  rw [← holds_p, ← holds_p, h]
theorem sep_S {s t : Sp} (hs : wS s) (ht : wS t) {L : List Int} (hL : ∀ x ∈ besL (endsL s ++ endsL t), x ∈ L) (h : ∀ x ∈ L, holds s x = holds t x) : s = t := by
  have h0 : holds s 0 = holds t 0 := h 0 (hL 0 (by simp [besL]))
  have he : ∀ e : Int, some e ∈ endsL s ++ endsL t → holds s (e - 1) = holds t (e - 1) ∧ holds s e = holds t e ∧ holds s (e + 1) = holds t (e + 1) := fun e hm => by
    obtain ⟨a, b, c⟩ := mem_bes hm
    exact ⟨h _ (hL _ a), h _ (hL _ b), h _ (hL _ c)⟩
  match s, t with
  | none, none => rfl
  | none, some (c, d) =>
    exfalso
    match c, d with
    | none, none => simp [holds, loI, hiI] at h0
    | some c, none =>
      have := (he c (by simp [endsL])).2.1
      simp [holds, loI, hiI] at this
    | none, some d =>
      have := (he d (by simp [endsL])).2.1
      simp [holds, loI, hiI] at this
    | some c, some d =>
      have := (he c (by simp [endsL])).2.1
      have w : c ≤ d := ht
      simp [holds, loI, hiI] at this
      omega
  | some (a, b), none =>
    exfalso
    match a, b with
    | none, none => simp [holds, loI, hiI] at h0
    | some c, none =>
      have := (he c (by simp [endsL])).2.1
      simp [holds, loI, hiI] at this
    | none, some d =>
      have := (he d (by simp [endsL])).2.1
      simp [holds, loI, hiI] at this
    | some c, some d =>
      have := (he c (by simp [endsL])).2.1
      have w : c ≤ d := hs
      simp [holds, loI, hiI] at this
      omega
  | some (a, b), some (c, d) =>
    have hf : ∀ e : Int, some e ∈ endsL (some (a, b)) ++ endsL (some (c, d)) → ((loP a (e - 1) ∧ hiP b (e - 1)) ↔ (loP c (e - 1) ∧ hiP d (e - 1))) ∧ ((loP a e ∧ hiP b e) ↔ (loP c e ∧ hiP d e)) ∧ ((loP a (e + 1) ∧ hiP b (e + 1)) ↔ (loP c (e + 1) ∧ hiP d (e + 1))) := fun e hm => by
      obtain ⟨q1, q2, q3⟩ := he e hm
      exact ⟨holds_q q1, holds_q q2, holds_q q3⟩
    have ha : ∀ e, a = some e → _ := fun e q => hf e (by simp [endsL, q])
    have hb : ∀ e, b = some e → _ := fun e q => hf e (by simp [endsL, q])
    have hc : ∀ e, c = some e → _ := fun e q => hf e (by simp [endsL, q])
    have hd : ∀ e, d = some e → _ := fun e q => hf e (by simp [endsL, q])
    clear h he hL hf
    cases a with
    | none =>
      cases b with
      | none =>
        cases c with
        | none =>
          cases d with
          | none => rfl
          | some d =>
            have q := hd d rfl
            simp only [loP, hiP, true_and, and_true, true_iff, iff_true] at q
            omega
        | some c =>
          have q := hc c rfl
          cases d with
          | none =>
            simp only [loP, hiP, true_and, and_true, true_iff, iff_true] at q
            omega
          | some d =>
            simp only [loP, hiP, true_and, and_true, true_iff, iff_true] at q
            omega
      | some b =>
        have p := hb b rfl
        cases c with
        | none =>
          cases d with
          | none =>
            simp only [loP, hiP, true_and, and_true, true_iff, iff_true] at p
            omega
          | some d =>
            have q := hd d rfl
            simp only [loP, hiP, true_and, and_true, true_iff, iff_true] at p q
            have : b = d := by omega
            rw [this]
        | some c =>
          have q := hc c rfl
          cases d with
          | none =>
            simp only [loP, hiP, true_and, and_true, true_iff, iff_true] at p q
            omega
          | some d =>
            have w : c ≤ d := ht
            simp only [loP, hiP, true_and, and_true, true_iff, iff_true] at p q
            omega
    | some a =>
      have r := ha a rfl
      cases b with
      | none =>
        cases c with
        | none =>
          cases d with
          | none =>
            simp only [loP, hiP, true_and, and_true, true_iff, iff_true] at r
            omega
          | some d =>
            have q := hd d rfl
            simp only [loP, hiP, true_and, and_true, true_iff, iff_true] at r q
            omega
        | some c =>
          have q := hc c rfl
          cases d with
          | none =>
            simp only [loP, hiP, true_and, and_true, true_iff, iff_true] at r q
            have : a = c := by omega
            rw [this]
          | some d =>
            have w : c ≤ d := ht
            have p := hd d rfl
            simp only [loP, hiP, true_and, and_true, true_iff, iff_true] at r q p
            omega
      | some b =>
        have w0 : a ≤ b := hs
        have p := hb b rfl
        cases c with
        | none =>
          cases d with
          | none =>
            simp only [loP, hiP, true_and, and_true, true_iff, iff_true] at r
            omega
          | some d =>
            simp only [loP, hiP, true_and, and_true, true_iff, iff_true] at r
            omega
        | some c =>
          have q := hc c rfl
          cases d with
          | none =>
            simp only [loP, hiP, true_and, and_true, true_iff, iff_true] at r q p
            omega
          | some d =>
            have w : c ≤ d := ht
            have u := hd d rfl
            simp only [loP, hiP, true_and, and_true, true_iff, iff_true] at r q p u
            have : a = c := by omega
            have : b = d := by omega
            subst a b
            rfl
/-- some number tells both apart exactly if they are unlike -/
theorem apart_iff {α : Type} {hs ht : α → Bool} {L : List α} {p : Prop} [Decidable p] (h1 : p → ∀ x ∈ L, hs x = ht x) (h2 : (∀ x ∈ L, hs x = ht x) → p) : (L.any fun x => !(hs x == ht x)) = !decide p := by
  by_cases q : p
  · rw [decide_eq_true q]
    rw [Bool.not_true, List.any_eq_false]
    intro x hx
    simp [h1 q x hx]
  · rw [decide_eq_false q, Bool.not_false]
    cases z : L.any fun x => !(hs x == ht x) with
    | true => rfl
    | false =>
      refine absurd (h2 fun x hx => ?_) q
      have := List.any_eq_false.mp z x hx
      simpa using this
noncomputable def stT : Den := dTup (aCons (dCall V_l_has (aCons (dVar 1) (aCons (dVar 5) aNil))) (aCons (dCall V_l_has (aCons (dVar 2) (aCons (dVar 5) aNil))) (aCons (dCall V_l_has (aCons (dVar 1) (aCons (dVar 5) aNil))) aNil)))
noncomputable def stU : Den := dTup (aCons (dCall V_stretch_holds (aCons (dVar 1) (aCons (dVar 5) aNil))) (aCons (dCall V_stretch_holds (aCons (dVar 2) (aCons (dVar 5) aNil))) (aCons (dCallW 2 [1, 0] V_stretch_holds (aCons (dVar 5) (aCons (dVar 1) aNil))) aNil)))
noncomputable def stA : Den := dOr (dVar 4) (dOp2 oNe (dOp2 oIx (dVar 7) (dC (.int 0))) (dOp2 oIx (dVar 7) (dC (.int 1))))
noncomputable def stB : DenS := sCons (sSet 6 stT) (sCons (sSet 7 stU) (sCons (sIf (dNot (dCall (V_l_same 8) (aCons (dVar 7) (aCons (dVar 6) aNil)))) (sCons (sRet (dC (.bl false))) sNil) sNil) (sCons (sSet 4 stA) sNil)))
noncomputable def stL : Den := dOp2 oAdd (dCall V_l_beside (aCons (dOp2 oAdd (dVar 1) (dVar 2)) aNil)) (dLst (aCons (dCall V_l_number (aCons (dVar 0) aNil)) aNil))
theorem stretches_eq : D_l_stretches_right = sCons (sSet 1 (dCall V_l_stretch (aCons (dVar 0) aNil))) (sCons (sSet 2 (dCall V_l_near (aCons (dVar 0) (aCons (dVar 1) aNil)))) (sCons (sPar2 3 4 (aCons stL (aCons (dC (.bl false)) aNil))) (sCons (sFor (iSeq (dVar 3)) (gNm 5) stB) (sCons (sRet (dOp2 oEq (dVar 4) (dOp2 oNe (dVar 1) (dVar 2)))) sNil)))) := rfl
theorem same3 (a b c : Bool) : V_l_same 8 [.tup [.bl a, .bl b, .bl c], .tup [.bl a, .bl b, .bl c]] μ = some (.bl true, μ) := l_same8 _ (by simp) (by simp)
theorem ne_bl (a b : Bool) : oNe (.bl a) (.bl b) μ = some (.bl (!(a == b)), μ) := by cases a <;> cases b <;> rfl
theorem stB_at {s t : Sp} (hs : wS s) (ht : wS t) {x : Int} {k : Nat} {a : Bool} {c3 c6 c7 : Option DV} : ∃ y6 y7, stB [some (.mu k), some (eS s), some (eS t), c3, some (.bl a), some (.int x), c6, c7] μ = some (.nx [some (.mu k), some (eS s), some (eS t), c3, some (.bl (a || !(holds s x == holds t x))), some (.int x), y6, y7] μ) := by
  have h1 := stretch_holds_ok (μ := μ) s x hs
  have h2 := stretch_holds_ok (μ := μ) t x ht
  have h3 := l_has_ok (μ := μ) s x
  have h4 := l_has_ok (μ := μ) t x
  generalize eS s = ds at *
  generalize eS t = dt at *
  generalize holds s x = p at *
  generalize holds t x = q at *
  refine ⟨some (.tup [.bl p, .bl q, .bl p]), some (.tup [.bl p, .bl q, .bl p]), ?_⟩
  unfold stB
  have e1 : stT [some (.mu k), some ds, some dt, c3, some (.bl a), some (.int x), c6, c7] μ = some (.tup [.bl p, .bl q, .bl p], μ) := tup3_at (call2_at (a := ds) (b := .int x) rfl rfl h3) (call2_at (a := dt) (b := .int x) rfl rfl h4) (call2_at (a := ds) (b := .int x) rfl rfl h3)
  rw [sets_at e1]
  have e2 : stU [some (.mu k), some ds, some dt, c3, some (.bl a), some (.int x), some (.tup [.bl p, .bl q, .bl p]), c7] μ = some (.tup [.bl p, .bl q, .bl p], μ) := tup3_at (call2_at (a := ds) (b := .int x) rfl rfl h1) (call2_at (a := dt) (b := .int x) rfl rfl h2) (callw2_at (a := .int x) (b := ds) rfl rfl h1)
  show sCons (sSet 7 stU) _ [some (.mu k), some ds, some dt, c3, some (.bl a), some (.int x), some (.tup [.bl p, .bl q, .bl p]), c7] μ = _
  rw [sets_at e2]
  show sCons _ _ [some (.mu k), some ds, some dt, c3, some (.bl a), some (.int x), some (.tup [.bl p, .bl q, .bl p]), some (.tup [.bl p, .bl q, .bl p])] μ = _
  rw [ifn_at (not_at (b := true) (call2_at (a := .tup [.bl p, .bl q, .bl p]) (b := .tup [.bl p, .bl q, .bl p]) rfl rfl (same3 p q p)))]
  have e3 : stA [some (.mu k), some ds, some dt, c3, some (.bl a), some (.int x), some (.tup [.bl p, .bl q, .bl p]), some (.tup [.bl p, .bl q, .bl p])] μ = some (.bl (a || !(p == q)), μ) :=
    or_at (a := a) rfl (op2_at (a := .bl p) (b := .bl q) rfl rfl (ne_bl p q))
  rw [sets_at e3]
  rfl
theorem st_loop {s t : Sp} (hs : wS s) (ht : wS t) {k : Nat} {c3 : Option DV} : ∀ (L : List Int) (a : Bool) (c5 c6 c7 : Option DV), ∃ y5 y6 y7, forL (gNm 5) stB (L.map DV.int) [some (.mu k), some (eS s), some (eS t), c3, some (.bl a), c5, c6, c7] μ = some (.nx [some (.mu k), some (eS s), some (eS t), c3, some (.bl (a || L.any fun x => !(holds s x == holds t x))), y5, y6, y7] μ)
  | [], a, c5, c6, c7 => ⟨c5, c6, c7, by simp [forL_nil]⟩
  | x :: L, a, c5, c6, c7 => by
    obtain ⟨y6, y7, e⟩ := stB_at (μ := μ) hs ht (x := x) (k := k) (a := a) (c3 := c3) (c6 := c6) (c7 := c7)
    obtain ⟨z5, z6, z7, e2⟩ := st_loop hs ht (k := k) (c3 := c3) L (a || !(holds s x == holds t x)) (some (.int x)) y6 y7
    refine ⟨z5, z6, z7, ?_⟩
    have g : gNm 5 (.int x) [some (.mu k), some (eS s), some (eS t), c3, some (.bl a), c5, c6, c7] μ = some ([some (.mu k), some (eS s), some (eS t), c3, some (.bl a), some (.int x), c6, c7], μ) := rfl
    rw [List.map_cons, forL_cons, g, bnd_some, e, lpO_nx, e2, List.any_cons, Bool.or_assoc]
theorem eq_bl (a b : Bool) : oEq (.bl a) (.bl b) μ = some (.bl (a == b), μ) := by cases a <;> cases b <;> rfl
theorem stretches_ok {k : Nat} {μ0 : List MO} {N : Nat} (w : Sr k μ0 N μ) (hN : N < 1000000) : ∃ μ', V_l_stretches_right [.mu k] μ = some (.bl true, μ') ∧ Sr k μ0 (N + 40) μ' := by
  obtain ⟨s, M1, e1, ws, bs, w1⟩ := stretch_ok w (by omega)
  have hB : ∀ o ∈ endsL s, bE 100003 o := fun o ho => by
    match s, bs with
    | none, _ => simp [endsL] at ho
    | some (l, h), bs =>
      simp [endsL] at ho
      rcases ho with rfl | rfl
      · exact bs.1
      · exact bs.2
  obtain ⟨t, M2, e2, wt, _, w2⟩ := near_ok w1 (by omega) (endsL s) (by have := ends_len s; omega) (B := 100003) (by omega) hB
  obtain ⟨x, M3, e3, _, w3⟩ := number_ok w2 (by omega)
  rw [← eS_ends] at e2
  have bd := beside_ok (μ := M2) (endsL s ++ endsL t) (by have := ends_len s; have := ends_len t; rw [List.length_append]; omega)
  have hz : (besL (endsL s ++ endsL t)).length ≤ 20 := by
    have l3 : ∀ es : List (Option Int), (es.flatMap bes3).length ≤ 3 * es.length := fun es => by
      induction es with
      | nil => simp
      | cons o es ih =>
        have : (bes3 o).length ≤ 3 := by cases o <;> simp [bes3]
        rw [List.flatMap_cons, List.length_append, List.length_cons]
        omega
    have := l3 (endsL s ++ endsL t)
    have := ends_len s
    have := ends_len t
    rw [List.length_append] at *
    show (_ :: _).length ≤ 20
    rw [List.length_cons]
    omega
  have ap : oAdd (eS s) (eS t) M2 = some (.tup ((endsL s ++ endsL t).map oi), M2) := by
    rw [eS_ends, eS_ends t, List.map_append]
    exact addT (by have := ends_len s; have := ends_len t; simp; omega)
  have lst : stL [some (.mu k), some (eS s), some (eS t), none, none, none, none, none] M2 = some (.lst ((besL (endsL s ++ endsL t) ++ [x]).map DV.int), M3) := by
    have a1 := call1_at (F := V_l_beside) (op2_at (fa := dVar 1) (fb := dVar 2) (ρ := [some (.mu k), some (eS s), some (eS t), none, none, none, none, none]) (a := eS s) (b := eS t) rfl rfl ap) bd
    have a2 : dLst (aCons (dCall V_l_number (aCons (dVar 0) aNil)) aNil) [some (.mu k), some (eS s), some (eS t), none, none, none, none, none] M2 = some (.lst [.int x], M3) := by
      have c := call1_at (F := V_l_number) (fa := dVar 0) (ρ := [some (.mu k), some (eS s), some (eS t), none, none, none, none, none]) (a := .mu k) rfl e3
      simp only [dLst, aCons, aNil, c, bnd_some]
      rfl
    rw [List.map_append]
    exact op2_at a1 a2 (addL (by rw [List.length_map]; simp; omega))
  obtain ⟨y5, y6, y7, lp⟩ := st_loop (μ := M3) ws wt (k := k) (c3 := some (.lst ((besL (endsL s ++ endsL t) ++ [x]).map DV.int))) (besL (endsL s ++ endsL t) ++ [x]) false none none none
  have ai := apart_iff (hs := holds s) (ht := holds t) (L := besL (endsL s ++ endsL t) ++ [x]) (p := s = t) (fun h x _ => by rw [h]) (fun h => sep_S ws wt (fun y hy => List.mem_append_left _ hy) h)
  rw [ai, Bool.false_or] at lp
  refine ⟨M3, ?_, w3.mono (by omega)⟩
  have hl : M3.length = μ.length := by rw [w3.len, w.len]
  have nSS := ne_SS (μ := M3) s t
  generalize besL (endsL s ++ endsL t) ++ [x] = LL at *
  generalize (!decide (s = t)) = b at *
  generalize eS s = ds at *
  generalize eS t = dt at *
  unfold V_l_stretches_right
  rw [stretches_eq]
  refine fn1_at ?_
  show endO μ (sCons _ _ [some (.mu k), none, none, none, none, none, none, none] μ) = _
  rw [sets_at (call1_at (a := .mu k) rfl e1)]
  show endO μ (sCons _ _ [some (.mu k), some ds, none, none, none, none, none, none] M1) = _
  rw [sets_at (call2_at (a := .mu k) (b := ds) rfl rfl e2)]
  show endO μ (sCons _ _ [some (.mu k), some ds, some dt, none, none, none, none, none] M2) = _
  rw [esCons, par_at lst (b := .bl false) rfl, sqO_nx]
  show endO μ (sCons _ _ [some (.mu k), some ds, some dt, some (.lst (LL.map DV.int)), some (.bl false), none, none, none] M3) = _
  rw [esCons, sFor_at]
  show endO μ (sqO (forL (gNm 5) stB (LL.map DV.int) [some (.mu k), some ds, some dt, some (.lst (LL.map DV.int)), some (.bl false), none, none, none] M3) _) = _
  rw [lp, sqO_nx, ret_at (op2_at (a := .bl b) (b := .bl b) rfl (op2_at (a := ds) (b := dt) rfl rfl nSS) (eq_bl b b)), endO_rt]
  have : (b == b) = true := by cases b <;> rfl
  rw [this]
  exact cutd_len hl

end Lw

namespace Lw
open PySem PySem.Spec L2 Eg
local macro_rules | `(tactic| walk_at "ex") => `(tactic| simp [eFn, startD, esCons, sRet, esIf, sNil, sSet, sAsg, sExp, sPar2, sPar3, dVar, dC, dOp2, dCall, dBlt, dTup, dLst, dLstM, eIf, eAnd, eOr, eNot, eNeg, dIsi, eChain, aCons, aNil, gTu, gAnd, gNm, gSb, gEnd, dSl, runP, sFor, forL_nil, forL_cons, iSeq, iRange1, iRange2, oDiv_ok, oMod_ok, oPow_ok, oSub, oLt, oLe, oGt, oGe, oEq, oNe, oIs, oIsnt, xIx_t, xIx_l, xIx_m, xIx_s, oLen, oInt, oAbs, oMM, oTuple, oDivmod, oInN, flatL, DV.flat, dCallW, permI, oAll, blsD, oMax1, oMin1, maxI, minI, intsD, inV1, inV2, eqV, DV.isN, eqvD, eqvL, shD, shL, xItems_t, xItems_l, xItems_m, xLen_t, xLen_l, xLen_m, xLen_s, atI, ixN, DV.ty, kitT, sl_eq, *])
variable {μ : List MO}
/-! ### rests told apart -/
def res5 : Rs → List Int
  | none => []
  | some (n, d) => [n, n + d, n - d, n + 1, n + 20160]
theorem sep_R {s t : Rs} (hs : wR s) (ht : wR t) {L : List Int} (h1 : ∀ x ∈ res5 s, x ∈ L) (h2 : ∀ x ∈ res5 t, x ∈ L) (h : ∀ x ∈ L, rholds s x = rholds t x) : s = t := by
  have a1 : ∀ x ∈ res5 s, rholds s x = rholds t x := fun x hx => h x (h1 x hx)
  have a2 : ∀ x ∈ res5 t, rholds s x = rholds t x := fun x hx => h x (h2 x hx)
  clear h h1 h2
  have self : ∀ {n d : Int}, wR (some (n, d)) → rholds (some (n, d)) n = true := fun {n d} w => by
    unfold rholds
    by_cases d0 : d = 0
    · simp [d0]
    · rcases w with w | w
      · exact absurd w d0
      · simp [d0, Int.emod_eq_of_lt w.2.2.1 w.2.2.2]
  have next : ∀ {n d : Int}, wR (some (n, d)) → d ≠ 0 → rholds (some (n, d)) (n + d) = true := fun {n d} w d0 => by
    unfold rholds
    rcases w with w | w
    · exact absurd w d0
    · simp [d0, Int.emod_eq_of_lt w.2.2.1 w.2.2.2]
  match s, t with
  | none, none => rfl
  | none, some (m, e) =>
    have z := a2 m (by simp [res5])
    rw [self ht] at z
    cases z
  | some (n, d), none =>
    have z := a1 n (by simp [res5])
    rw [self hs] at z
    cases z
  | some (n, d), some (m, e) =>
    have b1 := a1 n (by simp [res5])
    have b2 := a1 (n + d) (by simp [res5])
    have c1 := a2 m (by simp [res5])
    have c2 := a2 (m + e) (by simp [res5])
    rw [self hs] at b1
    rw [self ht] at c1
    by_cases d0 : d = 0
    · have c1' : n = m := by simpa [rholds, d0] using c1
      by_cases e0 : e = 0
      · rw [c1', d0, e0]
      · rw [next ht e0] at c2
        have c2' : n = m + e := by simpa [rholds, d0] using c2
        omega
    · by_cases e0 : e = 0
      · have b1' : m = n := by simpa [rholds, e0] using b1.symm
        rw [next hs d0] at b2
        have b2' : m = n + d := by simpa [rholds, e0] using b2.symm
        omega
      · rw [next hs d0] at b2
        rw [next ht e0] at c2
        have hs' : 0 < d ∧ d ∣ 20160 ∧ 0 ≤ n ∧ n < d := hs.resolve_left d0
        have ht' : 0 < e ∧ e ∣ 20160 ∧ 0 ≤ m ∧ m < e := ht.resolve_left e0
        have p1 : n % e = m := by simpa [rholds, e0] using b1.symm
        have p2 : (n + d) % e = m := by simpa [rholds, e0] using b2.symm
        have p3 : m % d = n := by simpa [rholds, d0] using c1
        have p4 : (m + e) % d = n := by simpa [rholds, d0] using c2
        have ed : e ∣ d := by
          have : e ∣ (n + d) - n := Int.dvd_of_emod_eq_zero (by rw [Int.sub_emod, p2, p1]; simp)
          rwa [show n + d - n = d by omega] at this
        have de : d ∣ e := by
          have : d ∣ (m + e) - m := Int.dvd_of_emod_eq_zero (by rw [Int.sub_emod, p4, p3]; simp)
          rwa [show m + e - m = e by omega] at this
        have l1 := Int.le_of_dvd hs'.1 ed
        have l2 := Int.le_of_dvd ht'.1 de
        have q : d = e := by omega
        subst q
        rw [Int.emod_eq_of_lt hs'.2.2.1 hs'.2.2.2] at p1
        rw [p1]
noncomputable def reA : Den := dOp2 oAdd (dVar 3) (dLst (aCons (dOp2 oIx (dVar 5) (dC (.int 0))) (aCons (dOp2 oAdd (dOp2 oIx (dVar 5) (dC (.int 0))) (dOp2 oIx (dVar 5) (dC (.int 1)))) (aCons (dOp2 oSub (dOp2 oIx (dVar 5) (dC (.int 0))) (dOp2 oIx (dVar 5) (dC (.int 1)))) (aCons (dOp2 oAdd (dOp2 oIx (dVar 5) (dC (.int 0))) (dC (.int 1))) (aCons (dOp2 oAdd (dOp2 oIx (dVar 5) (dC (.int 0))) (dC (.int 20160))) aNil))))))
noncomputable def reE : DenS := sCons (sIf (dOp2 oNe (dVar 5) (dTup aNil)) (sCons (sSet 3 reA) sNil) sNil) sNil
noncomputable def reT : Den := dTup (aCons (dCall V_l_rest_has (aCons (dVar 1) (aCons (dVar 6) aNil))) (aCons (dCall V_l_rest_has (aCons (dVar 2) (aCons (dVar 6) aNil))) (aCons (dCall V_l_rest_has (aCons (dVar 1) (aCons (dVar 6) aNil))) aNil)))
noncomputable def reU : Den := dTup (aCons (dCall V_rest_holds (aCons (dVar 1) (aCons (dVar 6) aNil))) (aCons (dCall V_rest_holds (aCons (dVar 2) (aCons (dVar 6) aNil))) (aCons (dCallW 2 [1, 0] V_rest_holds (aCons (dVar 6) (aCons (dVar 1) aNil))) aNil)))
noncomputable def reO : Den := dOr (dVar 4) (dOp2 oNe (dOp2 oIx (dVar 8) (dC (.int 0))) (dOp2 oIx (dVar 8) (dC (.int 1))))
noncomputable def reB : DenS := sCons (sSet 7 reT) (sCons (sSet 8 reU) (sCons (sIf (dNot (dCall (V_l_same 8) (aCons (dVar 8) (aCons (dVar 7) aNil)))) (sCons (sRet (dC (.bl false))) sNil) sNil) (sCons (sSet 4 reO) sNil)))
noncomputable def reL : Den := dLst (aCons (dCall V_l_number (aCons (dVar 0) aNil)) (aCons (dC (.int 0)) (aCons (dC (.int 1)) aNil)))
theorem rests_eq : D_l_rests_right = sCons (sSet 1 (dCall V_l_rest (aCons (dVar 0) aNil))) (sCons (sSet 2 (dCall V_l_rest_near (aCons (dVar 0) (aCons (dVar 1) aNil)))) (sCons (sPar2 3 4 (aCons reL (aCons (dC (.bl false)) aNil))) (sCons (sFor (iSeq (dTup (aCons (dVar 1) (aCons (dVar 2) aNil)))) (gNm 5) reE) (sCons (sFor (iSeq (dVar 3)) (gNm 6) reB) (sCons (sRet (dOp2 oEq (dVar 4) (dOp2 oNe (dVar 1) (dVar 2)))) sNil))))) := rfl
theorem reE_at {r : Rs} {L : List Int} (hL : L.length ≤ 100) {c0 c1 c2 c4 c6 c7 c8 : Option DV} : reE [c0, c1, c2, some (.lst (L.map DV.int)), c4, some (eR r), c6, c7, c8] μ = some (.nx [c0, c1, c2, some (.lst ((L ++ res5 r).map DV.int)), c4, some (eR r), c6, c7, c8] μ) := by
  have nn : oNe (eR r) (.tup []) μ = some (.bl (!r.isNone), μ) := by
    have := ne_R r none μ
    rw [show eR none = DV.tup [] from rfl] at this
    rw [this]
    match r with
    | none => rfl
    | some (n, d) => rfl
  have c := op2_at (fa := dVar 5) (fb := dTup aNil) (ρ := [c0, c1, c2, some (.lst (L.map DV.int)), c4, some (eR r), c6, c7, c8]) (a := eR r) (b := .tup []) rfl rfl nn
  unfold reE
  match r, c with
  | none, c =>
    rw [ifn_at c]
    simp [res5, sNil]
  | some (n, d), c =>
    have l5 : dLst (aCons (dOp2 oIx (dVar 5) (dC (.int 0))) (aCons (dOp2 oAdd (dOp2 oIx (dVar 5) (dC (.int 0))) (dOp2 oIx (dVar 5) (dC (.int 1)))) (aCons (dOp2 oSub (dOp2 oIx (dVar 5) (dC (.int 0))) (dOp2 oIx (dVar 5) (dC (.int 1)))) (aCons (dOp2 oAdd (dOp2 oIx (dVar 5) (dC (.int 0))) (dC (.int 1))) (aCons (dOp2 oAdd (dOp2 oIx (dVar 5) (dC (.int 0))) (dC (.int 20160))) aNil))))) [c0, c1, c2, some (.lst (L.map DV.int)), c4, some (eR (some (n, d))), c6, c7, c8] μ = some (.lst ((res5 (some (n, d))).map DV.int), μ) := rfl
    have ad : oAdd (.lst (L.map DV.int)) (.lst ((res5 (some (n, d))).map DV.int)) μ = some (.lst (L.map DV.int ++ (res5 (some (n, d))).map DV.int), μ) := addL (by simp [res5]; omega)
    have st : sCons (sSet 3 reA) sNil [c0, c1, c2, some (.lst (L.map DV.int)), c4, some (eR (some (n, d))), c6, c7, c8] μ = some (.nx [c0, c1, c2, some (.lst ((L ++ res5 (some (n, d))).map DV.int)), c4, some (eR (some (n, d))), c6, c7, c8] μ) := by
      have e : reA [c0, c1, c2, some (.lst (L.map DV.int)), c4, some (eR (some (n, d))), c6, c7, c8] μ = some (.lst ((L ++ res5 (some (n, d))).map DV.int), μ) := by
        rw [List.map_append]
        exact op2_at (a := .lst (L.map DV.int)) rfl l5 ad
      rw [sets_at e]
      rfl
    rw [ift_at c, st, sqO_nx]
    rfl
theorem reB_at {s t : Rs} (hs : wR s) (ht : wR t) {x : Int} {k : Nat} {a : Bool} {c3 c5 c7 c8 : Option DV} : ∃ y7 y8, reB [some (.mu k), some (eR s), some (eR t), c3, some (.bl a), c5, some (.int x), c7, c8] μ = some (.nx [some (.mu k), some (eR s), some (eR t), c3, some (.bl (a || !(rholds s x == rholds t x))), c5, some (.int x), y7, y8] μ) := by
  have h1 := rest_holds_ok (μ := μ) s x hs
  have h2 := rest_holds_ok (μ := μ) t x ht
  have h3 := l_rest_has_ok (μ := μ) s x hs
  have h4 := l_rest_has_ok (μ := μ) t x ht
  generalize eR s = ds at *
  generalize eR t = dt at *
  generalize rholds s x = p at *
  generalize rholds t x = q at *
  refine ⟨some (.tup [.bl p, .bl q, .bl p]), some (.tup [.bl p, .bl q, .bl p]), ?_⟩
  unfold reB
  have e1 : reT [some (.mu k), some ds, some dt, c3, some (.bl a), c5, some (.int x), c7, c8] μ = some (.tup [.bl p, .bl q, .bl p], μ) := tup3_at (call2_at (a := ds) (b := .int x) rfl rfl h3) (call2_at (a := dt) (b := .int x) rfl rfl h4) (call2_at (a := ds) (b := .int x) rfl rfl h3)
  rw [sets_at e1]
  have e2 : reU [some (.mu k), some ds, some dt, c3, some (.bl a), c5, some (.int x), some (.tup [.bl p, .bl q, .bl p]), c8] μ = some (.tup [.bl p, .bl q, .bl p], μ) := tup3_at (call2_at (a := ds) (b := .int x) rfl rfl h1) (call2_at (a := dt) (b := .int x) rfl rfl h2) (callw2_at (a := .int x) (b := ds) rfl rfl h1)
  show sCons (sSet 8 reU) _ [some (.mu k), some ds, some dt, c3, some (.bl a), c5, some (.int x), some (.tup [.bl p, .bl q, .bl p]), c8] μ = _
  rw [sets_at e2]
  show sCons _ _ [some (.mu k), some ds, some dt, c3, some (.bl a), c5, some (.int x), some (.tup [.bl p, .bl q, .bl p]), some (.tup [.bl p, .bl q, .bl p])] μ = _
  rw [ifn_at (not_at (b := true) (call2_at (a := .tup [.bl p, .bl q, .bl p]) (b := .tup [.bl p, .bl q, .bl p]) rfl rfl (same3 p q p)))]
  have e3 : reO [some (.mu k), some ds, some dt, c3, some (.bl a), c5, some (.int x), some (.tup [.bl p, .bl q, .bl p]), some (.tup [.bl p, .bl q, .bl p])] μ = some (.bl (a || !(p == q)), μ) :=
    or_at (a := a) rfl (op2_at (a := .bl p) (b := .bl q) rfl rfl (ne_bl p q))
  rw [sets_at e3]
  rfl
theorem re_loop {s t : Rs} (hs : wR s) (ht : wR t) {k : Nat} {c3 c5 : Option DV} : ∀ (L : List Int) (a : Bool) (c6 c7 c8 : Option DV), ∃ y6 y7 y8, forL (gNm 6) reB (L.map DV.int) [some (.mu k), some (eR s), some (eR t), c3, some (.bl a), c5, c6, c7, c8] μ = some (.nx [some (.mu k), some (eR s), some (eR t), c3, some (.bl (a || L.any fun x => !(rholds s x == rholds t x))), c5, y6, y7, y8] μ)
  | [], a, c6, c7, c8 => ⟨c6, c7, c8, by simp [forL_nil]⟩
  | x :: L, a, c6, c7, c8 => by
    obtain ⟨y7, y8, e⟩ := reB_at (μ := μ) hs ht (x := x) (k := k) (a := a) (c3 := c3) (c5 := c5) (c7 := c7) (c8 := c8)
    obtain ⟨z6, z7, z8, e2⟩ := re_loop hs ht (k := k) (c3 := c3) (c5 := c5) L (a || !(rholds s x == rholds t x)) (some (.int x)) y7 y8
    refine ⟨z6, z7, z8, ?_⟩
    have g : gNm 6 (.int x) [some (.mu k), some (eR s), some (eR t), c3, some (.bl a), c5, c6, c7, c8] μ = some ([some (.mu k), some (eR s), some (eR t), c3, some (.bl a), c5, some (.int x), c7, c8], μ) := rfl
    rw [List.map_cons, forL_cons, g, bnd_some, e, lpO_nx, e2, List.any_cons, Bool.or_assoc]
theorem rests_ok {k : Nat} {μ0 : List MO} {N : Nat} (w : Sr k μ0 N μ) (hN : N < 1000000) : ∃ μ', V_l_rests_right [.mu k] μ = some (.bl true, μ') ∧ Sr k μ0 (N + 60) μ' := by
  obtain ⟨s, M1, e1, ws, bs, w1⟩ := restQ_ok w (by omega)
  obtain ⟨t, M2, e2, wt, _, w2⟩ := rest_near_ok w1 (by omega) s ws bs
  obtain ⟨x, M3, e3, _, w3⟩ := number_ok w2 (by omega)
  have l5 : ∀ r, (res5 r).length ≤ 5 := fun r => by match r with | none => simp [res5] | some (n, d) => simp [res5]
  have lst : reL [some (.mu k), some (eR s), some (eR t), none, none, none, none, none, none] M2 = some (.lst ([x, 0, 1].map DV.int), M3) := by
    have c := call1_at (F := V_l_number) (fa := dVar 0) (ρ := [some (.mu k), some (eR s), some (eR t), none, none, none, none, none, none]) (a := .mu k) rfl e3
    unfold reL
    simp only [dLst, aCons, aNil, c, bnd_some]
    rfl
  have lp1 : forL (gNm 5) reE [eR s, eR t] [some (.mu k), some (eR s), some (eR t), some (.lst ([x, 0, 1].map DV.int)), some (.bl false), none, none, none, none] M3 = some (.nx [some (.mu k), some (eR s), some (eR t), some (.lst ((([x, 0, 1] ++ res5 s) ++ res5 t).map DV.int)), some (.bl false), some (eR t), none, none, none] M3) := by
    have g : ∀ r L c5, gNm 5 (eR r) [some (.mu k), some (eR s), some (eR t), some (.lst L), some (.bl false), c5, none, none, none] M3 = some ([some (.mu k), some (eR s), some (eR t), some (.lst L), some (.bl false), some (eR r), none, none, none], M3) := fun _ _ _ => rfl
    rw [forL_cons, g, bnd_some, reE_at (by simp), lpO_nx, forL_cons, g, bnd_some, reE_at (by have := l5 s; simp; omega), lpO_nx, forL_nil]
  obtain ⟨y6, y7, y8, lp⟩ := re_loop (μ := M3) ws wt (k := k) (c3 := some (.lst ((([x, 0, 1] ++ res5 s) ++ res5 t).map DV.int))) (c5 := some (eR t)) (([x, 0, 1] ++ res5 s) ++ res5 t) false none none none
  have ai := apart_iff (hs := rholds s) (ht := rholds t) (L := ([x, 0, 1] ++ res5 s) ++ res5 t) (p := s = t) (fun h x _ => by rw [h]) (fun h => sep_R ws wt (fun y hy => List.mem_append_left _ (List.mem_append_right _ hy)) (fun y hy => List.mem_append_right _ hy) h)
  rw [ai, Bool.false_or] at lp
  refine ⟨M3, ?_, w3.mono (by omega)⟩
  have hl : M3.length = μ.length := by rw [w3.len, w.len]
  have nRR := ne_R s t M3
  have sq : iSeq (dTup (aCons (dVar 1) (aCons (dVar 2) aNil))) [some (.mu k), some (eR s), some (eR t), some (.lst ([x, 0, 1].map DV.int)), some (.bl false), none, none, none, none] M3 = some ([eR s, eR t], M3) := rfl
  generalize ([x, 0, 1] ++ res5 s) ++ res5 t = LL at *
  generalize (!decide (s = t)) = b at *
  generalize eR s = ds at *
  generalize eR t = dt at *
  unfold V_l_rests_right
  rw [rests_eq]
  refine fn1_at ?_
  show endO μ (sCons _ _ [some (.mu k), none, none, none, none, none, none, none, none] μ) = _
  rw [sets_at (call1_at (a := .mu k) rfl e1)]
  show endO μ (sCons _ _ [some (.mu k), some ds, none, none, none, none, none, none, none] M1) = _
  rw [sets_at (call2_at (a := .mu k) (b := ds) rfl rfl e2)]
  show endO μ (sCons _ _ [some (.mu k), some ds, some dt, none, none, none, none, none, none] M2) = _
  rw [esCons, par_at lst (b := .bl false) rfl, sqO_nx]
  show endO μ (sCons _ _ [some (.mu k), some ds, some dt, some (.lst ([x, 0, 1].map DV.int)), some (.bl false), none, none, none, none] M3) = _
  rw [esCons, sFor_at, sq, bnd_some, lp1, sqO_nx, esCons, sFor_at]
  show endO μ (sqO (forL (gNm 6) reB (LL.map DV.int) [some (.mu k), some ds, some dt, some (.lst (LL.map DV.int)), some (.bl false), some dt, none, none, none] M3) _) = _
  rw [lp, sqO_nx, ret_at (op2_at (a := .bl b) (b := .bl b) rfl (op2_at (a := ds) (b := dt) rfl rfl nRR) (eq_bl b b)), endO_rt]
  have : (b == b) = true := by cases b <;> rfl
  rw [this]
  exact cutd_len hl
theorem right_ok {k : Nat} {μ0 : List MO} (w : Sr k μ0 0 μ) : ∃ (n : Nat) (μ' : List MO), V_l_right [.mu k] μ = some (.bl true, μ') ∧ Sr k μ0 n μ' := by
  obtain ⟨M1, e1, w1⟩ := values_ok w (by omega)
  obtain ⟨M2, e2, w2⟩ := stretches_ok w1 (by omega)
  obtain ⟨M3, e3, w3⟩ := rests_ok w2 (by omega)
  refine ⟨_, M3, ?_, w3⟩
  unfold V_l_right D_l_right
  refine fn1_at ?_
  show endO μ (sCons _ _ [some (.mu k)] μ) = _
  rw [ret_at (andt_at (call1_at (a := .mu k) rfl e1) (andt_at (call1_at (a := .mu k) rfl e2) (call1_at (a := .mu k) rfl e3))), endO_rt]
  exact cutd_len (by rw [w3.len, w.len])
theorem cut_ints (ns : List Int) (l u : Option Int) : ∀ d ∈ cutD (ns.map DV.int) l u, ∃ x : Int, d = .int x := by
  intro d hd
  unfold cutD at hd
  obtain ⟨x, _, rfl⟩ := List.mem_map.mp (List.mem_of_mem_drop (List.mem_of_mem_take hd))
  exact ⟨x, rfl⟩
theorem at_int (ns : List Int) (t : Int) (h0 : 0 ≤ t) (h1 : t < ns.length) : atI (ns.map DV.int) t = some (.int (ns[t.toNat]?.getD 0)) := by
  have hl : t.toNat < ns.length := by omega
  refine atI_of h0 ?_
  rw [List.getElem?_map, List.getElem?_eq_getElem hl]
  rfl
theorem source_ok (ns : List Int) (t : Int) (ht : 0 ≤ t) (ht2 : t ≤ 4) (μ : List MO) :
    ∃ a b, V_l_source [scD ns, .int t] μ = some (.mu μ.length, μ ++ [.lst [.int a, .int b, .int 0]]) ∧ 0 ≤ a ∧ 0 ≤ b ∧ b < 2147483629 := by
  have p1 : ∀ μ : List MO, oMul (.int 9176) (.int t) μ = some (.int (9176 * t), μ) := fun μ => oMul_ok (by omega) (by omega) (by omega) (by omega)
  have p2 : ∀ (x : Int) (μ : List MO), oMul (.int (x % 1000000007)) (.int 15013) μ = some (.int (x % 1000000007 * 15013), μ) := fun x μ => oMul_ok (by omega) (by omega) (by omega) (by omega)
  unfold V_l_source D_l_source scD
  walk_at "ex"
  generalize hF : forL _ _ _ _ _ = o
  obtain ⟨ρ2, μ2, rfl, m, c, rfl, rfl, m0, m1⟩ := forL_at hF (fun _ ρ' μ' => ∃ (m : Int) (c : Option DV), ρ' = [some (.lst (ns.map DV.int)), some (.int t), some (.int m), c, none] ∧ μ' = μ ∧ 0 ≤ m ∧ m < 2147483629)
    ⟨_, _, rfl, rfl, by omega, by omega⟩ (by
      rintro i d ρ' μ' hd ⟨m, c, rfl, rfl, m0, m1⟩
      obtain ⟨x, rfl⟩ := cut_ints ns _ _ d (List.mem_of_getElem? hd)
      have p3 : ∀ μ : List MO, oMul (.int m) (.int 30011) μ = some (.int (m * 30011), μ) := fun μ => oMul_ok (by omega) (by omega) (by omega) (by omega)
      refine ⟨_, _, _, _, rfl, by walk_at "ex"; exact ⟨rfl, rfl⟩, _, _, rfl, rfl, Int.emod_nonneg _ (by omega), Int.emod_lt_of_pos _ (by omega)⟩)
  have p4 : ∀ μ : List MO, oMul (.int m) (.int 59) μ = some (.int (m * 59), μ) := fun μ => oMul_ok (by omega) (by omega) (by omega) (by omega)
  have p5 : ∀ μ : List MO, oMul (.int 0) (.int 15013) μ = some (.int 0, μ) := fun μ => oMul_ok (by omega) (by omega) (by omega) (by omega)
  have p6 : (10 : Int) ^ (15 : Int).toNat = 1000000000000000 := rfl
  by_cases hlen : t < ns.length
  · have hl : t.toNat < ns.length := by omega
    refine ⟨if ns[t.toNat] < 0 ∨ 1000000000000000 ≤ ns[t.toNat] then (if ns[t.toNat] < 0 then -ns[t.toNat] else ns[t.toNat]) else 0, (m * 59 + ns[t.toNat] % 1000000007 * 15013 + 11) % 2147483629, ?_, ?_, Int.emod_nonneg _ (by omega), Int.emod_lt_of_pos _ (by omega)⟩
    · walk_at "ex"
      split <;> simp
    · split <;> (try split) <;> omega
  · refine ⟨0, (m * 59 + 11) % 2147483629, ?_, by omega, Int.emod_nonneg _ (by omega), Int.emod_lt_of_pos _ (by omega)⟩
    walk_at "ex"
theorem law_ok (ns : List Int) : V_l_law [scD ns] [] = some (.bl true, []) := by
  have key : ∀ (n : Int) (fi : DenA), 2 ≤ n → n ≤ 5 → fi [some (scD ns), none] [] = some (rgD 0 n.toNat, []) → dLc fi (bd1 1) dT (dCut (dCall V_l_right (aCons (dCall V_l_source (aCons (dVar 0) (aCons (dVar 1) aNil))) aNil))) [some (scD ns), none] [] = some (.lst ((rgD 0 n.toNat).map fun _ => .bl true), []) := by
    intro n fi h2 h5 hfi
    refine dLc_map (ds := rgD 0 n.toNat) (g := fun _ => .bl true) hfi (by rw [rgD_len]; omega) ?_ fun _ _ => rfl
    intro d hd
    obtain ⟨i, hi, rfl⟩ := List.mem_map.mp hd
    have hi' : i < n.toNat := List.mem_range.mp hi
    refine ⟨_, rfl, fun μ' => ?_⟩
    obtain ⟨a, b, e1, ha, hb, hb2⟩ := source_ok ns (0 + (i : Int)) (by omega) (by omega) μ'
    obtain ⟨m, μ2, e2, w2⟩ := right_ok (k := μ'.length) (μ0 := μ' ++ [.lst [.int a, .int b, .int 0]]) (μ := μ' ++ [.lst [.int a, .int b, .int 0]]) ⟨by simp, a, b, 0, by simp, ha, hb, hb2, by omega, by omega⟩
    obtain ⟨_, a', b', c', rfl, _⟩ := w2
    simp [dCut, dCall, aCons, aNil, dVar] at e1 e2 ⊢
    rw [e1, bnd_some, bnd_some, e2, bnd_some, cutd_cut rfl (by simp)]
  obtain ⟨n, n2, n5, hn⟩ : ∃ n : Int, 2 ≤ n ∧ n ≤ 5 ∧ n = max 2 (min (ns.length : Int) 5) := ⟨_, by omega, by omega, rfl⟩
  have hfi : iRange1 (aCons (dBlt oMax2 (aCons (dC (.int 2)) (aCons (dBlt oMin2 (aCons (dBlt oLen (aCons (dVar 0) aNil)) (aCons (dC (.int 5)) aNil))) aNil))) aNil) [some (scD ns), none] [] = some (rgD 0 n.toNat, []) := by
    have c1 : -4000000000000000000 ≤ n ∧ n < 4000000000000000000 := by omega
    have q : (fun i j : Int => if j > i then j else i) 2 ((fun i j : Int => if j < i then j else i) (ns.length : Int) 5) = n := by
      rw [hn]; dsimp only; omega
    have q2 : dBlt oMax2 (aCons (dC (.int 2)) (aCons (dBlt oMin2 (aCons (dBlt oLen (aCons (dVar 0) aNil)) (aCons (dC (.int 5)) aNil))) aNil)) [some (scD ns), none] [] = some (.int n, []) := by
      simp [dBlt, aCons, aNil, dC, dVar, scD, oLen, lenD, itemsD, oMM]
      omega
    simp [iRange1, aCons, aNil, q2, c1]
  have k1 := key n _ n2 n5 hfi
  unfold V_l_law D_l_law
  walk_at "ex"

end Lw

namespace Lw
open PySem PySem.Spec L2 Eg
theorem facts {P : Program} {w : World} {K : PySem.W.Frag} {h : Heap} {mg : Str → Option Value} {f : Addr} (X : K.In h) (G : h.Ns mainGlobals mg) (hfa : mg ("law" : Str) = some (.ref f)) (c : He.SaysX faL fnL [] [] exB w h K) :
    ∃ fd : FuncData, (∀ (s : Shared) (v : Value), BindsTo s fd ⟨[v], []⟩ [("_law_script", v)]) ∧ ∀ base : Heap, K.In base → base.Ns mainGlobals mg → (∃ mm, base.Ns sysModules mm) → FnG P w K mg base 20 f fd ["_law_script"] (SpD K (CtrOf V_l_law)) := by
  have T := fx_of X G c
  obtain ⟨fd, F⟩ := T.d_l_law
  have e := hfa.symm.trans T.g_l_law
  cases e
  have b := FunD.bindsA (ps := ["_law_script"]) F fun _ _ _ _ _ _ us hl => match us, hl with | [_], _ => rfl
  exact ⟨fd, fun s v => b s [v] rfl, fun base _ _ _ => okG_l_law T F⟩
end Lw
open PySem PySem.W PySem.Calls PyProof.Rows
theorem PySem.Challenge.cw_soundlooks_k23_whole_what_stretches_and_holds : PySem.Challenge.rw_soundlooks_k23_whole_what_stretches_and.Holds := by
  w_on; o_law
  refine HandSHeadRun.head_any (r := Lw.R) (q := view Lw.R.prog [Lw.lawAt]) (H := Lw.hk) (ob := Lw.ob) (M := 60000) (loose := Lw.looseL) (d := HandSHeadRun.topDef Lw.R.prog Lw.lawAt) (kwd := []) Lw.ob_eq
    (by kernel_rfl) (fun s => by kernel_rfl) Lw.run (by kernel_rfl) (by kernel_rfl) (by kernel_rfl) (by rfl) (by first | assumption | decide +kernel) (by decide +kernel) ⟨rfl, rfl, rfl, rfl, rfl, by decide +kernel⟩ ?hw ?hc
  case hw => w_witness2
  case hc =>
    refine Eg.walk_S (l := PySem.Challenge.rw_soundlooks_k23_whole_what_stretches_and) (n := 63) (k := 20) (C := Eg.CtrOf Lw.V_l_law) rfl (by decide) (by kernel_rfl) (by decide +kernel) ⟨rfl, by decide, by decide⟩ ?hC ?F
    case hC =>
      intro ns hl hb
      show Eg.okE (Lw.V_l_law [Eg.scD ns] []) _
      rw [Lw.law_ok ns]
      rfl
    case F =>
      intro w mg fa h Y G hmg0
      obtain ⟨K, KX, c⟩ := Y
      have hmg : mg ("law" : PySem.Str) = some (.ref fa) := by
        have e : (HandSHeadRun.topDef Lw.R.prog Lw.lawAt).name = ("law" : PySem.Str) := by kernel_rfl
        rw [← e]
        exact hmg0
      obtain ⟨fd, hb, hF⟩ := Lw.facts (P := (PySem.Challenge.rw_soundlooks_k23_whole_what_stretches_and).prog) (w := w) KX G hmg c
      exact ⟨K, fd, "_law_script", KX, hb, hF⟩
